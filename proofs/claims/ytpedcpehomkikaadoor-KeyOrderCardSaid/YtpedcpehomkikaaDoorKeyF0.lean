/-
  No key is the front of another (pure); a slice of ints of one's own, its middle.
-/
import Derived.Test.YtpedcpehomkikaaDoorKeyB0
namespace Go.Proofs.YtpedcpehomkikaaDoor
open Go Go.RowKit
set_option linter.unusedVariables false
set_option linter.unusedSimpArgs false
set_option maxRecDepth 100000

/-- The kind as which the values at one place are read back. -/
def k2 (a b : Vl) : Int := if a.K = b.K then (if a.K = 0 then 1 else a.K) else (if wrap64 (a.K + b.K) = 0 then 1 else wrap64 (a.K + b.K))
theorem wrap_small {z : Int} (h : 0 ≤ z ∧ z ≤ 5) : wrap64 z = z := IntWalk.wrap64_in _ ⟨by omega, by omega⟩
theorem k2_fit {a b : Vl} (ha : a.okB = true) (hb : b.okB = true) (h : a.K = b.K ∨ a.K = 0 ∨ b.K = 0) : (a.K = k2 a b ∨ a.K = 0) ∧ (b.K = k2 a b ∨ b.K = 0) ∧ 1 ≤ k2 a b ∧ k2 a b ≤ 5 := by
  have ra := ok_range ha
  have rb := ok_range hb
  unfold k2
  by_cases h1 : a.K = b.K
  · rw [if_pos h1]
    split <;> omega
  · rw [if_neg h1, wrap_small (by omega)]
    split <;> omega
theorem fit_k2 : ∀ {a b : List Vl}, alike a b → allGood a → allGood b → fitL a (List.zipWith k2 a b) ∧ fitL b (List.zipWith k2 a b) ∧ ∀ k ∈ List.zipWith k2 a b, 1 ≤ k ∧ k ≤ 5
  | [], [], _, _, _ => ⟨trivial, trivial, by simp⟩
  | a :: x, b :: y, h, ha, hb => by
    have ga := ha a (by simp)
    have gb := hb b (by simp)
    have hk := k2_fit ga.1 gb.1 h.1
    have ih := fit_k2 h.2 (fun v hv => ha v (by simp [hv])) (fun v hv => hb v (by simp [hv]))
    refine ⟨⟨ga, hk.1, ih.1⟩, ⟨gb, hk.2.1, ih.2.1⟩, fun k hk' => ?_⟩
    rw [List.zipWith_cons_cons, List.mem_cons] at hk'
    rcases hk' with rfl | hk'
    · exact hk.2.2
    · exact ih.2.2 k hk'
  | [], _ :: _, h, _, _ => h.elim
  | _ :: _, [], h, _, _ => h.elim
theorem alike_length : ∀ {a b : List Vl}, alike a b → a.length = b.length
  | [], [], _ => rfl
  | _ :: _, _ :: _, h => by simp [alike_length h.2]
  | [], _ :: _, h => h.elim
  | _ :: _, [], h => h.elim
/-- A key and a byte more, a key and a byte less: none of the same kinds. -/
theorem free_more {a : List Vl} {ks : List Int} {ds : List Bool} (hf : fitL a ks) (hd : ds.length = ks.length) (hk : ∀ k ∈ ks, 1 ≤ k ∧ k ≤ 5) (c : UInt8) : decE ks ds (keyL a ds ++ [c]) = ([], 2) := by
  by_cases h : (keyL a ds ++ [c]).length ≤ 256
  · rw [decE_of hd.symm hk h, decL_key [c] hf hd, if_neg (by simp)]
  · unfold decE
    rw [if_neg, if_pos (by omega)]
    rintro (e | e)
    · exact e hd.symm
    · obtain ⟨k, hk', he⟩ := List.any_eq_true.1 e
      have := hk k hk'
      simp only [Bool.or_eq_true, decide_eq_true_eq] at he
      omega
theorem free_less {a : List Vl} {ks : List Int} {ds : List Bool} {x : List UInt8} {c : UInt8} (hf : fitL a ks) (hd : ds.length = ks.length) (hk : ∀ k ∈ ks, 1 ≤ k ∧ k ≤ 5) (h256 : (keyL a ds).length ≤ 256) (he : keyL a ds = x ++ [c]) : decE ks ds x = ([], 2) := by
  have hx : x.length ≤ 256 := by rw [he] at h256; simp at h256; omega
  rw [decE_of hd.symm hk hx]
  cases h : decL ks ds x with
  | none => rfl
  | some l =>
    exfalso
    obtain ⟨e, hl⟩ := key_decL hd hk h
    have h1 := decL_key [c] hl hd
    rw [e, ← he, if_neg (by simp)] at h1
    have h2 := decL_key [] hf hd
    rw [List.append_nil, if_pos rfl, h1] at h2
    cases h2
theorem free_front {a b : List Vl} {ds : List Bool} (h : alike a b) (hd : ds.length = a.length) (ha : allGood a) (hb : allGood b) (hlt : (keyL a ds).length < (keyL b ds).length) : (keyL b ds).take (keyL a ds).length ≠ keyL a ds := by
  intro e
  by_cases hab : a = b
  · subst hab; omega
  · refine (key_parts h hd ha hb hab).front ?_
    rw [← e]
    exact List.take_prefix _ _
/-- Two lists of values whose kinds agree at each place so far. -/
def AlikeTo (xs ys : List Vv) (k : Nat) : Prop := ∀ j, j < k → ((xs.getD j default).K = (ys.getD j default).K ∨ (xs.getD j default).K = 0 ∨ (ys.getD j default).K = 0)
theorem AlikeTo.next {xs ys : List Vv} {k : Nat} (h : AlikeTo xs ys k) (hk : (xs.getD k default).K = (ys.getD k default).K ∨ (xs.getD k default).K = 0 ∨ (ys.getD k default).K = 0) : AlikeTo xs ys (k + 1) := fun j hj => by
  by_cases e : j = k
  · subst e; exact hk
  · exact h j (by omega)
theorem AlikeTo.all : ∀ {xs ys : List Vv}, xs.length = ys.length → AlikeTo xs ys xs.length → alike (xs.map Vv.vl) (ys.map Vv.vl)
  | [], [], _, _ => trivial
  | x :: xs, y :: ys, hl, h => by
    refine ⟨?_, AlikeTo.all (by simpa using hl) (fun j hj => ?_)⟩
    · have := h 0 (by simp)
      simpa using this
    · have := h (j + 1) (by simpa using hj)
      simpa using this
  | [], _ :: _, h, _ => by simp at h
  | _ :: _, [], h, _ => by simp at h
theorem zip_getD {xs ys : List Vv} {k : Nat} (hx : k < xs.length) (hy : k < ys.length) : (List.zipWith k2 (xs.map Vv.vl) (ys.map Vv.vl)).getD k 0 = k2 (xs.getD k default).vl (ys.getD k default).vl := by
  simp [List.getD_eq_getElem?_getD, List.getElem?_zipWith, hx, hy]

/-! ### The middle of a slice of ints -/
theorem own_mid {w0 w : World} {g : Nat} {P Z : List Int} {x : Int} {t : TypeId} {J : Res} [Stab J] (h : Own w0 w (Sep (Blk g (.cells (ints (P ++ [x] ++ Z)).toArray t (0, 0))) J)) {k : Nat} (hk : P.length = k) :
    w.cell? ⟨g, k, none⟩ = some (.int .i64 x) ∧ w.frozen? ⟨g, k, none⟩ = false ∧ ∀ y, Own w0 (w.setCell ⟨g, k, none⟩ (.int .i64 y)) (Sep (Blk g (.cells (ints (P ++ [y] ++ Z)).toArray t (0, 0))) J) := by
  obtain ⟨h1, h2⟩ := blk_int h.held (j := k) (by simp; omega)
  have e : (P ++ [x] ++ Z).getD k 0 = x := by
    rw [List.append_assoc, List.getD_eq_getElem?_getD, List.getElem?_append_right (by omega), hk, Nat.sub_self]
    rfl
  rw [e] at h1
  refine ⟨h1, h2, fun y => ?_⟩
  have := store_int h k y
  have e2 : (P ++ [x] ++ Z).set k y = P ++ [y] ++ Z := by
    rw [List.append_assoc, List.set_append_right _ _ (by omega), hk, Nat.sub_self]
    simp
  rwa [e2] at this
theorem mid_start {L : List Int} {k n : Nat} (hk : k < n) : L.take k ++ List.replicate (n - k) 0 = L.take k ++ [0] ++ List.replicate (n - (k + 1)) 0 := by
  rw [show n - k = (n - (k + 1)) + 1 by omega, List.replicate_succ, List.append_assoc]
  rfl
theorem mid_done {L : List Int} {k n : Nat} {x : Int} (hk : k < L.length) (hx : L.getD k 0 = x) : L.take k ++ [x] ++ List.replicate (n - (k + 1)) 0 = L.take (k + 1) ++ List.replicate (n - (k + 1)) 0 := by
  rw [List.take_succ_eq_append_getElem hk, ← hx]
  simp [hk]

end Go.Proofs.YtpedcpehomkikaaDoor
