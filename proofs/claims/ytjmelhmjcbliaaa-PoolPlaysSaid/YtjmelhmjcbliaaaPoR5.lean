/-
  The reference's pool: one cell of one place is turned.
-/
import Derived.Test.YtjmelhmjcbliaaaPoR4
namespace Go.Proofs.Ytjmelhmjcbliaaa
open Go Go.RowKit
set_option linter.unusedVariables false
set_option linter.unusedSimpArgs false
set_option maxRecDepth 100000

theorem cAll_set {α : Type} [Cel α] [Inhabited α] : ∀ (l : List α) (j i : Nat) (u : Value) (x : α), j < l.length → i < Cel.size α → Cel.cells x = (Cel.cells (l.getD j default)).set i u → (cAll l).set (j * Cel.size α + i) u = cAll (l.set j x)
  | [], j, i, u, x, h, _, _ => by simp at h
  | c :: l, 0, i, u, x, h, hi, e => by
    have hl : i < (Cel.cells c).length := by rw [Cel.len]; exact hi
    show (Cel.cells c ++ cAll l).set (0 * Cel.size α + i) u = Cel.cells x ++ cAll l
    rw [Nat.zero_mul, Nat.zero_add, List.set_append_left _ _ hl, e]
    rfl
  | c :: l, j + 1, i, u, x, h, hi, e => by
    have hl : (Cel.cells c).length = Cel.size α := Cel.len c
    show (Cel.cells c ++ cAll l).set ((j + 1) * Cel.size α + i) u = Cel.cells c ++ cAll (l.set j x)
    have hs : (j + 1) * Cel.size α + i = Cel.size α + (j * Cel.size α + i) := by rw [Nat.succ_mul]; omega
    rw [hs, List.set_append_right _ _ (by omega), hl, Nat.add_sub_cancel_left, cAll_set l j i u x (by simpa using h) hi e]
theorem Own.rbSet {w0 w : World} {g cap : Nat} {R : List Rb} {J : Res} [Stab J] (h : Own w0 w (Sep (RowG 74 (.slice (some ⟨g, 0, none⟩) R.length cap) R) J)) {j i : Nat} (hj : j < R.length) (hi : i < 5) (u : Value) (x : Rb) (e : rbc x = (rbc (R.getD j default)).set i u) :
    Own w0 (w.setCell ⟨g, j * 5 + i, none⟩ u) (Sep (RowG 74 (.slice (some ⟨g, 0, none⟩) R.length cap) (R.set j x)) J) := by
  have hl : j * 5 + i < (cAll R).length := by rw [cAll_length]; show _ < R.length * 5; omega
  have h1 := h.rowSet hl u
  have h2 : (cAll R).set (j * 5 + i) u = cAll (R.set j x) := cAll_set R j i u x hj hi e
  rw [h2] at h1
  show Own w0 _ (Sep (RowV 74 5 (.slice (some ⟨g, 0, none⟩) R.length cap) (R.set j x).length (cAll (R.set j x))) J)
  rw [List.length_set]
  exact h1
theorem Own.rbFree {w0 w : World} {g cap : Nat} {R : List Rb} {J : Res} (h : Own w0 w (Sep (RowG 74 (.slice (some ⟨g, 0, none⟩) R.length cap) R) J)) {j i : Nat} (hj : j < R.length) (hi : i < 5) : w.frozen? ⟨g, j * 5 + i, none⟩ = false := (own_cellG h (i := j * 5 + i) (by rw [cAll_length]; show _ < R.length * 5; omega)).2

end Go.Proofs.Ytjmelhmjcbliaaa
