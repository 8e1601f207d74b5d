/-
  Bytes read back from their digits: package value's unhex and unescape.
-/
import Derived.Test.YtpedcpehomkikaaDoorVal9
namespace Go.Proofs.YtpedcpehomkikaaDoor
open Go Go.RowKit
set_option linter.unusedVariables false
set_option linter.unusedSimpArgs false
set_option maxRecDepth 100000



theorem bl_mk0 (l : List UInt8) : (ByteArray.mk l.toArray).size = l.length := by rw [← ba_size, ByteArray.toList_mk]
def strLen : Value → Nat | .string t => t.size | _ => 0
/-- What has been read of digits s: l, and t is left. -/
def UnAt (s : ByteArray) (l : List UInt8) (t : ByteArray) : Prop := 2 * l.length + t.size = s.size ∧ ∀ T, s.toList = hexB T → ∃ T2, T = l ++ T2 ∧ t.toList = hexB T2
theorem hexd_lt (i : Nat) (h : i < 16) : half (hexd i) < 16 := by rw [half_hex h]; exact h
theorem UnAt.step {s t u : ByteArray} {l : List UInt8} {a b c : UInt8} {r : List UInt8} {n : Int} (h : UnAt s l t) (ht : t.toList = a :: b :: r) (hu : u.toList = r) (hp : HexPost a b n) (hc : (c.toNat : Int) = n) : UnAt s (l ++ [c]) u := by
  obtain ⟨h1, h2⟩ := h
  have ht' := congrArg List.length ht
  have hu' := congrArg List.length hu
  rw [ba_size] at ht' hu'
  simp only [List.length_cons] at ht'
  refine ⟨by rw [List.length_append, List.length_singleton]; omega, fun T hT => ?_⟩
  obtain ⟨T2, rfl, e⟩ := h2 T hT
  rw [ht] at e
  cases T2 with
  | nil => simp [hexB] at e
  | cons y T3 =>
    simp only [hexB, List.cons.injEq] at e
    obtain ⟨ea, eb, er⟩ := e
    have hy := y.toNat_lt
    have := hp.2.2 (by rw [ea]; exact hexd_lt _ (by omega)) (by rw [eb]; exact hexd_lt _ (by omega))
    rw [ea, eb, half_hex (by omega), half_hex (by omega)] at this
    have hcy : c = y := UInt8.toNat_inj.1 (by omega)
    subst hcy
    exact ⟨T3, by simp, by rw [hu, er]⟩
theorem two_of {t : ByteArray} (h : 2 ≤ t.size) : ∃ a b r, t.toList = a :: b :: r ∧ (t.extract 0 2).toList = [a, b] ∧ (t.extract 2 t.size).toList = r := by
  have hl := ba_size t
  rw [ByteArray.toList_eq] at hl
  match hd : t.data.toList, hl with
  | a :: b :: r, _ =>
    refine ⟨a, b, r, by rw [ByteArray.toList_eq, hd], ?_, ?_⟩
    · rw [ByteArray.toList_eq, Lib.extract_data, hd]; rfl
    · rw [ByteArray.toList_eq, Lib.extract_to_end, hd]; rfl
  | [_], hl => simp at hl; omega
  | [], hl => simp at hl; omega


/-- What has been read of a text's inner bytes s in front of place k: l. -/
def EsAt (s : ByteArray) (k : Nat) (l : List UInt8) : Prop := l.length ≤ k ∧ ∀ T, s.toList = escB T → ∃ T2, T = l ++ T2 ∧ s.toList.drop k = escB T2
theorem drop_get (s : ByteArray) (k : Nat) (h : k < s.size) : s.toList.drop k = s[k] :: s.toList.drop (k + 1) := by
  have h2 : k < s.toList.length := by rw [ba_size]; exact h
  rw [List.drop_eq_getElem_cons h2]
  congr 1
  have := ba_get s k h
  rw [List.getElem?_eq_getElem h2] at this
  exact Option.some.inj this
theorem escd92 : escd 92 = true := by decide
/-- A byte that stands for itself. -/
theorem EsAt.one {s : ByteArray} {k : Nat} {l : List UInt8} (h : EsAt s k l) (hk : k < s.size) (hc : ¬ (s[k] = 92 ∧ k + 2 < s.size)) : EsAt s (k + 1) (l ++ [s[k]]) := by
  obtain ⟨h1, h2⟩ := h
  refine ⟨by rw [List.length_append, List.length_singleton]; omega, fun T hT => ?_⟩
  obtain ⟨T2, rfl, e⟩ := h2 T hT
  rw [drop_get s k hk] at e
  cases T2 with
  | nil => simp [escB] at e
  | cons y T3 =>
    rw [escB] at e
    by_cases hy : escd y = true
    · rw [if_pos hy] at e
      injection e with e1 e2
      exfalso
      apply hc
      refine ⟨e1, ?_⟩
      have := congrArg List.length e2
      rw [List.length_drop, ba_size] at this
      simp only [List.length_cons] at this
      omega
    · rw [if_neg hy] at e
      injection e with e1 e2
      exact ⟨T3, by rw [e1]; simp, e2⟩
/-- A byte that stands as a \\ and two digits. -/
theorem EsAt.three {s x : ByteArray} {k : Nat} {l m : List UInt8} (h : EsAt s k l) (hc : s[k]? = some 92) (hk : k + 2 < s.size) (hx : x.toList = (s.toList.drop (k + 1)).take 2) (hm : 2 * m.length ≤ x.size) (hT : ∀ T, x.toList = hexB T → m = T) : EsAt s (k + 3) (l ++ m) := by
  obtain ⟨h1, h2⟩ := h
  have hxs : x.size ≤ 2 := by rw [← ba_size, hx]; exact List.length_take_le _ _
  refine ⟨by rw [List.length_append]; omega, fun T hT' => ?_⟩
  obtain ⟨T2, rfl, e⟩ := h2 T hT'
  have hk0 : k < s.size := by omega
  have hs92 : s[k] = 92 := by
    rw [getElem?_pos s k hk0] at hc
    exact Option.some.inj hc
  rw [drop_get s k hk0, hs92] at e
  cases T2 with
  | nil => simp [escB] at e
  | cons y T3 =>
    rw [escB] at e
    by_cases hy : escd y = true
    · rw [if_pos hy] at e
      injection e with _ e2
      have hm2 : m = [y] := hT [y] (by rw [hx, e2]; rfl)
      subst hm2
      refine ⟨T3, by simp, ?_⟩
      have : s.toList.drop (k + 3) = (s.toList.drop (k + 1)).drop 2 := by rw [List.drop_drop]
      rw [this, e2]
      rfl
    · rw [if_neg hy] at e
      injection e with e1 e2
      rw [← e1] at hy
      exact absurd escd92 hy


end Go.Proofs.YtpedcpehomkikaaDoor
