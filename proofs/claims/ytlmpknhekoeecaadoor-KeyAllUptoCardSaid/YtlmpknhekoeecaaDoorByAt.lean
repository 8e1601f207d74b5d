/-
  Bytes of a string in a row of their own, to be written over.
-/
import Derived.Test.YtlmpknhekoeecaaDoorRowJ6
import Derived.Lib.AtoiErrMem
namespace Go.Proofs.YtlmpknhekoeecaaDoor
open Go Go.RowKit
set_option linter.unusedVariables false
set_option linter.unusedSimpArgs false
set_option maxRecDepth 100000

/-- The bytes bs lie in block g, and may be written over. -/
def ByAt (W : World) (g : Nat) (bs : List UInt8) : Prop := ∃ cs fr, W.heap[g]? = some (.cells cs 5 fr) ∧ bs.length ≤ cs.size ∧ bs.length ≤ fr.1 ∧ ∀ j, j < bs.length → cs[j]? = some (.int .u8 (bs.getD j 0).toNat)
theorem ByAt.cell {W : World} {g : Nat} {bs : List UInt8} (h : ByAt W g bs) {j : Nat} (hj : j < bs.length) : W.cell? ⟨g, j, none⟩ = some (.int .u8 (bs.getD j 0).toNat) ∧ W.frozen? ⟨g, j, none⟩ = false := by
  obtain ⟨cs, fr, h1, h2, h3, h4⟩ := h
  constructor
  · simp [World.cell?, h1, h4 j hj]
  · simp [World.frozen?, h1]
    omega
theorem ByAt.set {W : World} {g : Nat} {bs : List UInt8} (h : ByAt W g bs) {k : Nat} (hk : k < bs.length) (c : UInt8) : ByAt (W.setCell ⟨g, k, none⟩ (.int .u8 c.toNat)) g (bs.set k c) := by
  obtain ⟨cs, fr, h1, h2, h3, h4⟩ := h
  refine ⟨cs.setIfInBounds k (.int .u8 c.toNat), fr, heap_set h1 k _, by simpa using h2, by simpa using h3, fun j hj => ?_⟩
  rw [List.length_set] at hj
  by_cases e : j = k
  · subst e
    rw [Array.getElem?_setIfInBounds_self_of_lt (by omega)]
    simp [hj]
  · rw [Array.getElem?_setIfInBounds_ne (fun e2 => e e2.symm), h4 j hj]
    simp [List.getD_eq_getElem?_getD, List.getElem?_set, Ne.symm e]
theorem ByAt.keep {W W' : World} {g : Nat} {bs : List UInt8} (h : ByAt W g bs) (hg : W'.heap[g]? = W.heap[g]?) : ByAt W' g bs := by
  obtain ⟨cs, fr, h1, h2⟩ := h
  exact ⟨cs, fr, hg.trans h1, h2⟩
theorem ByAt.new (w : World) (s : ByteArray) : ByAt (Lib.bytesWorld w 5 s) w.heap.size s.toList := by
  have hl := ba_size s
  refine ⟨_, _, Lib.bytesWorld_at_new w 5 s, ?_, ?_, fun j hj => ?_⟩
  · simp [Lib.bytesCells]; omega
  · simp [Lib.bytesCells]; omega
  · rw [hl] at hj
    have h1 := Lib.bytesWorld_cell w 5 s j hj
    have h2 := Lib.bytesWorld_at_new w 5 s
    simp [World.cell?, h2] at h1
    rw [h1, ByteArray.toList_eq]
    simp


end Go.Proofs.YtlmpknhekoeecaaDoor
