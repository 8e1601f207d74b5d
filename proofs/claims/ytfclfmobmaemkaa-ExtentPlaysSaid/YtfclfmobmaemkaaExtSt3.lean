/-
  What is behind Alloc: taken once more, and freed again. Holes that are read out of their cells.
-/
import Derived.Test.YtfclfmobmaemkaaExtSt2
import Derived.Test.YtfclfmobmaemkaaExt6
namespace Go.Proofs.Ytfclfmobmaemkaa
open Go Go.RowKit
set_option linter.unusedVariables false
set_option linter.unusedSimpArgs false
set_option maxRecDepth 100000

theorem setL_seg {l : List Bool} {d n : Nat} (h : d + n ≤ l.length) (b : Bool) : ((setL l d n b).drop d).take n = List.replicate n b := by
  have e1 : (l.take d).length = d := by simp; omega
  unfold setL
  rw [List.append_assoc, List.drop_append_of_le_length (by omega), List.drop_of_length_le (by omega), List.nil_append, List.take_append_of_le_length (by simp), List.take_of_length_le (by simp)]
theorem hasB_in {a len d n : Nat} (h1 : 1 ≤ n) (h2 : d + n ≤ len) : hasB a len ((a : Int) + d) n = true := by simp [hasB]; omega
theorem turnE_at (a : Nat) {l : List Bool} {d n : Nat} (h1 : 1 ≤ n) (h2 : d + n ≤ l.length) (b : Bool) : turnE a l ((a : Int) + d) n b = if b ∈ (l.drop d).take n then 6 else 0 := by
  have e0 : ((a : Int) + d - a).toNat = d := by omega
  simp [turnE, hasB_in (a := a) h1 h2, e0]
theorem turnL_at (a : Nat) {l : List Bool} {d n : Nat} (h1 : 1 ≤ n) (h2 : d + n ≤ l.length) {b : Bool} (hb : ¬ b ∈ (l.drop d).take n) : turnL a l ((a : Int) + d) n b = setL l d n b := by
  have e0 : ((a : Int) + d - a).toNat = d := by omega
  have e1 := turnE_at a h1 h2 b
  rw [if_neg hb] at e1
  rw [turnL, if_pos e1, e0]
  simp
/-- What was set in a place of that many is met by a second Take, and goes by a Free. -/
theorem set_again (a : Nat) {l : List Bool} {d n : Nat} (h1 : 1 ≤ n) (h2 : d + n ≤ l.length) : turnE a (setL l d n true) ((a : Int) + d) (1 : Nat) true = 6 := by
  rw [turnE_at a (Nat.le_refl 1) (by rw [setL_length h2]; omega), if_pos]
  have h3 := setL_get h2 true d
  rw [if_pos (by omega)] at h3
  have h4 : ((setL l d n true).drop d).take 1 = [true] := by
    rw [List.take_one, List.head?_drop, h3]
    rfl
  rw [h4]
  simp
theorem set_back (a : Nat) {l : List Bool} {d n : Nat} (h1 : 1 ≤ n) (h2 : d + n ≤ l.length) {b : Bool} (hb : ¬ b ∈ (l.drop d).take n) : turnE a (setL l d n b) ((a : Int) + d) n (!b) = 0 ∧ turnL a (setL l d n b) ((a : Int) + d) n (!b) = l := by
  have h3 : ¬ (!b) ∈ ((setL l d n b).drop d).take n := by
    rw [setL_seg h2]
    intro hm
    have := List.eq_of_mem_replicate hm
    cases b <;> simp at this
  refine ⟨by rw [turnE_at a h1 (by rw [setL_length h2]; exact h2), if_neg h3], ?_⟩
  rw [turnL_at a h1 (by rw [setL_length h2]; exact h2) h3]
  refine setL_back h2 (fun j hj => ?_) b
  have h4 := seg_all h2 hb
  have h5 : ((l.drop d).take n)[j]? = some (!b) := by rw [h4]; simp [hj]
  rw [List.getElem?_take, if_pos hj, List.getElem?_drop] at h5
  exact h5

/-- The hole number k, in its two cells. -/
theorem hcells_length (hs : List (Nat × Nat)) : (hcells hs).length = hs.length * 2 := by
  induction hs with
  | nil => rfl
  | cons x hs ih => simp [hcells] at ih ⊢; omega
theorem hcells_at {hs : List (Nat × Nat)} {k : Nat} (hk : k < hs.length) : (hcells hs)[k * 2]? = some (.int .i64 ((hs.getD k (0, 0)).1 : Int)) ∧ (hcells hs)[k * 2 + 1]? = some (.int .i64 ((hs.getD k (0, 0)).2 : Int)) := by
  induction hs generalizing k with
  | nil => simp at hk
  | cons x hs ih =>
    have e : hcells (x :: hs) = .int .i64 (x.1 : Int) :: .int .i64 (x.2 : Int) :: hcells hs := by simp [hcells]
    rw [e]
    cases k with
    | zero => simp
    | succ k =>
      have := ih (by simpa using hk)
      rw [show (k + 1) * 2 = k * 2 + 1 + 1 by omega]
      simpa using this
theorem rowV_cell {w : World} {e : TypeId} {size : Nat} {ao : Option Addr} {n cap : Nat} {xs : List Value} (h : w.ownsRow 0 e size (.slice ao n cap) n xs) {j : Nat} {u : Value} (hj : xs[j]? = some u) :
    ∃ g, ao = some ⟨g, 0, none⟩ ∧ w.cell? ⟨g, j, none⟩ = some u ∧ w.frozen? ⟨g, j, none⟩ = false ∧ n ≤ cap := by
  rcases h.2 with ⟨e1, e2⟩ | ⟨g, cap', cur, e1, _, hg, hn, _, _, ht⟩
  · have hx := h.1
    rw [e2] at hx
    have := List.getElem?_eq_some_iff.1 hj
    obtain ⟨h1, _⟩ := this
    simp at hx
    subst hx
    simp at h1
  · simp at e1
    obtain ⟨rfl, rfl⟩ := e1
    refine ⟨g, rfl, ?_, by simp [World.frozen?, hg], hn⟩
    rw [← ht, List.getElem?_take] at hj
    split at hj
    · simpa [World.cell?, hg] using hj
    · cases hj
theorem hole_cells {w0 w : World} {ao : Option Addr} {n cap : Nat} {hs : List (Nat × Nat)} {J : Res} (h : Own w0 w (Sep (RowV 43 2 (.slice ao n cap) n (hcells hs)) J)) {k : Nat} (hk : k < hs.length) :
    ∃ g, ao = some ⟨g, 0, none⟩ ∧ w.cell? ⟨g, k * 2, none⟩ = some (.int .i64 ((hs.getD k (0, 0)).1 : Int)) ∧ w.cell? ⟨g, k * 2 + 1, none⟩ = some (.int .i64 ((hs.getD k (0, 0)).2 : Int)) := by
  obtain ⟨h1, h2⟩ := hcells_at hk
  obtain ⟨g, rfl, c1, _⟩ := rowV_cell h.owns h1
  obtain ⟨g', e, c2, _⟩ := rowV_cell h.owns h2
  simp at e
  subst e
  exact ⟨g, rfl, c1, c2⟩

theorem find_first {hs : List (Nat × Nat)} {n j : Nat} (hjs : j < hs.length) (hall : ∀ t, t < j → (hs.getD t (0, 0)).2 < n) (hbig : n ≤ (hs.getD j (0, 0)).2) : hs.find? (fun h => decide (n ≤ h.2)) = some (hs.getD j (0, 0)) := by
  have e : hs = hs.take j ++ (hs.getD j (0, 0) :: hs.drop (j + 1)) := by
    conv => lhs; rw [← List.take_append_drop j hs, List.drop_eq_getElem_cons hjs]
    simp [List.getD_eq_getElem?_getD, hjs]
  have hnone : (hs.take j).find? (fun h => decide (n ≤ h.2)) = none := List.find?_eq_none.2 fun x hx => by
    obtain ⟨t, ht, rfl⟩ := List.mem_iff_getElem.1 hx
    have h1 : t < j := by simp at ht; omega
    have h2 : t < hs.length := by omega
    have := hall t h1
    simp [List.getD_eq_getElem?_getD, h2] at this
    simp
    omega
  conv => lhs; rw [e]
  rw [List.find?_append, hnone, List.find?_cons_of_pos (by simpa using hbig)]
  rfl
theorem find_none {hs : List (Nat × Nat)} {n : Nat} (hall : ∀ t, t < hs.length → (hs.getD t (0, 0)).2 < n) : hs.find? (fun h => decide (n ≤ h.2)) = none := List.find?_eq_none.2 fun x hx => by
  obtain ⟨t, ht, rfl⟩ := List.mem_iff_getElem.1 hx
  have := hall t ht
  simp [List.getD_eq_getElem?_getD, ht] at this
  simp
  omega

end Go.Proofs.Ytfclfmobmaemkaa
