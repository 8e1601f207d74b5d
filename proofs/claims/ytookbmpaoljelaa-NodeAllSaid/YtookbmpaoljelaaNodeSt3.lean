/-
  Nodes: what Encode and Decode have to do with one another (pure); the fixed node that the laws begin with.
-/
import Derived.Test.YtookbmpaoljelaaNodeSt2
import Derived.Test.YtookbmpaoljelaaNode9
namespace Go.Proofs.Ytookbmpaoljelaa
open Go Go.RowKit
set_option linter.unusedVariables false
set_option linter.unusedSimpArgs false
set_option maxRecDepth 100000

theorem right_fit {n : Nd} (h : rightB n = true) (hw : NdW n) : NdT n := by
  unfold rightB at h
  refine ⟨fun e => ?_, fun e => ?_⟩
  · rw [e, if_pos rfl] at h
    have hf := leaf_fit h hw
    exact ⟨List.eq_nil_of_length_eq_zero hf.p, List.eq_nil_of_length_eq_zero hf.k, List.eq_nil_of_length_eq_zero hf.b, by have := hf.l; omega, fun e he => ⟨by have := (hf.e e he).k; omega, by have := (hf.e e he).v; omega, by have := (hf.e e he).n; omega, (hf.e e he).x⟩⟩
  · rw [e, if_neg (by decide)] at h
    have hf := inner_fit h hw
    have hs : shapeB n = true := by
      unfold innerB at h
      simp only [Bool.and_eq_true] at h
      exact h.1.1.1.1.1
    obtain ⟨b1, b2, b3, b4, b5⟩ := shape_yes hs
    exact ⟨List.eq_nil_of_length_eq_zero hf.le, by omega, by omega, b4, hf.k, fun p hp => by have := hf.p p hp; omega, fun l hl => ⟨by have := hf.l l hl; omega, fun m hm => ⟨by have := (hf.m l hl m hm).k; omega, by have := (hf.m l hl m hm).v; omega, (hf.m l hl m hm).w, (hf.m l hl m hm).K0, (hf.m l hl m hm).K1, (hf.m l hl m hm).o0, (hf.m l hl m hm).o1⟩⟩⟩
theorem fit_wide {n : Nd} (h : NdT n) : NdW n := by
  cases hl : n.leaf with
  | true =>
    obtain ⟨e1, e2, e3, e4, e5⟩ := h.l hl
    exact ⟨fun e he => (e5 e he).x, fun k hk => (by rw [e2] at hk; cases hk), fun l hl => (by rw [e3] at hl; cases hl)⟩
  | false =>
    obtain ⟨e1, e2, e3, e4, e5, e6, e7⟩ := h.i hl
    exact ⟨fun e he => (by rw [e1] at he; cases he), e5, fun l hl m hm => ((e7 l hl).2 m hm).w⟩
theorem dec_enc {n : Nd} (h : rightB n = true) (hw : NdW n) (hl : (encN n).length ≤ 32768) : decN (encN n) = some n := by
  have h1 := fit_node.f n [] (right_fit h hw)
  rw [List.append_nil] at h1
  unfold decN
  rw [if_neg (by omega), h1]
  simp only
  rw [if_pos h]
theorem dec_inv {bs : List UInt8} {n : Nd} (h : decN bs = some n) : rightB n = true ∧ NdW n ∧ encN n = bs ∧ bs.length ≤ 32768 := by
  unfold decN at h
  by_cases hl : 32768 < bs.length
  · rw [if_pos hl] at h; cases h
  rw [if_neg hl] at h
  match hp : pNode bs with
  | none => rw [hp] at h; cases h
  | some (m, c :: r) => rw [hp] at h; cases h
  | some (m, []) =>
    rw [hp] at h
    simp only at h
    by_cases hr : rightB m = true
    · rw [if_pos hr] at h
      simp only [Option.some.injEq] at h
      subst h
      obtain ⟨f1, f2⟩ := fit_node.b _ _ _ hp
      rw [List.append_nil] at f1
      exact ⟨hr, fit_wide f2, f1.symm, by omega⟩
    · rw [if_neg hr] at h; cases h
theorem dec_more {n : Nd} (h : rightB n = true) (hw : NdW n) (c : UInt8) : decN (encN n ++ [c]) = none := by
  have h1 := fit_node.f n [c] (right_fit h hw)
  unfold decN
  split
  · rfl
  · rw [h1]
theorem dec_less {n : Nd} (h : rightB n = true) (hw : NdW n) {xs : List UInt8} {c : UInt8} (he : encN n = xs ++ [c]) : decN xs = none := by
  cases hd : decN xs with
  | none => rfl
  | some m =>
    obtain ⟨m1, m2, m3, m4⟩ := dec_inv hd
    have h1 := fit_node.f n [] (right_fit h hw)
    have h2 := fit_node.f m [c] (right_fit m1 m2)
    rw [List.append_nil, he] at h1
    rw [m3, h1] at h2
    simp at h2
theorem enc_inj {a b : Nd} (ha : rightB a = true) (hwa : NdW a) (hb : rightB b = true) (hwb : NdW b) (h : encN a = encN b) : a = b := by
  have h1 := fit_node.f a [] (right_fit ha hwa)
  have h2 := fit_node.f b [] (right_fit hb hwb)
  rw [h, h2] at h1
  simp only [Option.some.injEq, Prod.mk.injEq, and_true] at h1
  exact h1.symm
theorem enc_ne {n : Nd} : encN n ≠ [] := by
  unfold encN
  cases n.leaf <;> simp [flagB]

/-! ### The fixed node -/
def ndA : Nd := ⟨false, [], [⟨#[109]⟩], [5, 6], [[], []]⟩
def ndB : Nd := ⟨true, [⟨⟨#[107]⟩, true, ⟨#[118]⟩, 0, false, ⟨#[]⟩⟩], [], [], []⟩
def bytesA : List UInt8 := [1, 0, 1, 0, 1, 107, 1, 0, 1, 118, 0, 0, 0, 0, 0, 0, 0, 0, 0, 0, 0]
theorem tl (l : List UInt8) : (ByteArray.mk l.toArray).toList = l := ByteArray.toList_mk l
theorem tl0 : (ByteArray.mk #[]).toList = [] := tl []
theorem tlm : (ByteArray.mk #[109]).toList = [109] := tl [109]
theorem tlk : (ByteArray.mk #[107]).toList = [107] := tl [107]
theorem tlv : (ByteArray.mk #[118]).toList = [118] := tl [118]
theorem ndA_right : rightB ndA = true := by decide +kernel
theorem ndA_w : NdW ndA := by
  refine ⟨fun e he => (by cases he), fun k hk => ?_, fun l hl m hm => ?_⟩
  · simp [ndA] at hk
    rcases hk with rfl | rfl <;> exact ⟨by decide, by decide⟩
  · simp [ndA] at hl
    subst hl
    cases hm
theorem ndA_len : (encN ndA).length = 26 := by
  unfold encN ndA
  simp [flagB, beB, encK, encP, encL, txtB, tlm, List.flatMap_cons]
theorem ndA_route : routeN ndA.ps ⟨#[109]⟩ = 1 := by
  unfold ndA routeN ble
  simp [List.filter_cons]
theorem ndB_right : rightB ndB = true := by decide +kernel
theorem ndB_w : NdW ndB := by
  refine ⟨fun e he => ?_, fun k hk => (by cases hk), fun l hl => (by cases hl)⟩
  simp [ndB] at he
  subst he
  exact ⟨by decide, by decide⟩
theorem ndB_enc : encN ndB = bytesA := by
  unfold encN ndB bytesA
  simp [flagB, beB, encE, txtB, tlk, tlv, tl0, List.flatMap_cons]
theorem decA : decN bytesA = some ndB := by
  rw [← ndB_enc]
  exact dec_enc ndB_right ndB_w (by rw [ndB_enc]; decide)
theorem encA : encErr ndA = 0 := by unfold encErr; rw [if_pos ndA_right, if_neg (by rw [ndA_len]; omega)]

end Go.Proofs.Ytookbmpaoljelaa
