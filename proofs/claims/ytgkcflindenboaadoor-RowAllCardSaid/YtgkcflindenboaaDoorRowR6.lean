/-
  The document's own rows: its In as a part of memory, a block of one's own that is written to.
-/
import Derived.Test.YtgkcflindenboaaDoorRowR5
import Derived.Lib.AtoiErrMem
namespace Go.Proofs.YtgkcflindenboaaDoor
open Go Go.RowKit
set_option linter.unusedVariables false
set_option linter.unusedSimpArgs false
set_option maxRecDepth 100000

/-- The document's In: its block, and that of its bytes. -/
def RInR (pi : Nat) (bv : Value) (bs : List UInt8) (a : Nat) (bad : Bool) : Res := fun w F => RI.RefAt w pi bv bs a bad ∧ ∀ k, F k ↔ k = pi ∨ blkV bv = some k
instance {pi : Nat} {bv : Value} {bs : List UInt8} {a : Nat} {bad : Bool} : Stab (RInR pi bv bs a bad) where
  lt := by
    rintro w F ⟨h, hF⟩ k hk
    rcases (hF k).1 hk with rfl | hk
    · exact lt_of_some h.cell
    · obtain ⟨cur, fr, hc⟩ := h.sl.blk hk
      exact lt_of_some hc
  keep := by
    rintro w w' F ⟨h, hF⟩ hk
    refine ⟨⟨(hk pi ((hF pi).2 (.inl rfl))).trans h.cell, ?_, h.le, h.len⟩, hF⟩
    rcases h.sl with h0 | ⟨g, off, cap, cur, fr, rfl, h1, h2, h3, h4⟩
    · exact .inl h0
    · exact .inr ⟨g, off, cap, cur, fr, rfl, h1, h2, (hk g ((hF g).2 (.inr rfl))).trans h3, h4⟩
theorem Own.rin {w W : World} {I : Res} {pi a : Nat} {bv : Value} {bs : List UInt8} {bad : Bool} (h : Own w W (Sep I (RInR pi bv bs a bad))) : RI.RefAt W pi bv bs a bad := by
  obtain ⟨F, ⟨A, B, hA, hB, _⟩, _⟩ := h
  exact hB.1
theorem Own.instep {w W W' : World} {I : Res} [Stab I] {pi a a' : Nat} {bv : Value} {bs : List UInt8} {bad bad' : Bool} (h : Own w W (Sep I (RInR pi bv bs a bad))) (hs : InStep W pi bv bs a' bad' W') : Own w W' (Sep I (RInR pi bv bs a' bad')) := by
  obtain ⟨F, ⟨A, B, hA, hB, hd, hF⟩, h2, h3⟩ := h
  have hp : B pi := (hB.2 pi).2 (.inl rfl)
  refine ⟨F, ⟨A, B, Stab.keep hA (fun k hk => hs.o.block k (Stab.lt hA k hk) (fun e => ?_)), ⟨hs.i, hB.2⟩, hd, hF⟩, h2, h3.trans hs.o (fun k hk e => ?_)⟩
  · have e : k = pi := e
    subst e
    exact hd k hk hp
  · have e : k = pi := e
    subst e
    have := h2 k ((hF k).2 (.inr hp))
    omega
theorem Own.bset {w W : World} {vb : Nat} {cs : Array Value} {t : TypeId} {J : Res} [Stab J] (h : Own w W (Sep (Blk vb (.cells cs t (0, 0))) J)) (j : Nat) (u : Value) : Own w (W.setCell ⟨vb, j, none⟩ u) (Sep (Blk vb (.cells (cs.setIfInBounds j u) t (0, 0))) J) := by
  obtain ⟨F, ⟨A, B, hA, hB, hd, hF⟩, h2, h3⟩ := h
  have hp : A vb := (hA.2 vb).2 rfl
  refine ⟨F, ⟨A, B, ⟨heap_set hA.1 j u, hA.2⟩, Stab.keep hB (fun i hi => Below.heap_setCell _ _ _ _ (fun e => ?_)), hd, hF⟩, h2, h3.trans (Only.cell W vb j u) (fun k hk e => ?_)⟩
  · have e : i = vb := e
    subst e
    exact hd i hp hi
  · have e : k = vb := e
    subst e
    have := h2 k ((hF k).2 (.inl hp))
    omega

/-- In{B: []byte(s)}. -/
theorem Own.rin_start (w : World) (s : ByteArray) (hs : s.size ≤ 140737488351232) :
    Own w ((Lib.bytesWorld w 5 s).alloc (.cells #[.slice (some ⟨w.heap.size, 0, none⟩) s.size (grownCap w s.size 0 5), .int .i64 0, .bool false] 80))
      (RInR (w.heap.size + 1) (.slice (some ⟨w.heap.size, 0, none⟩) s.size (grownCap w s.size 0 5)) s.toList 0 false) := by
  have hl := ba_size s
  have hsz := Lib.bytesWorld_size w 5 s
  have hnew := heap_alloc_new (Lib.bytesWorld w 5 s) (.cells #[.slice (some ⟨w.heap.size, 0, none⟩) s.size (grownCap w s.size 0 5), .int .i64 0, .bool false] 80)
  rw [hsz] at hnew
  have hby := Lib.bytesWorld_at_new w 5 s
  refine ⟨fun k => k = w.heap.size + 1 ∨ k = w.heap.size, ⟨⟨hnew, .inr ⟨w.heap.size, 0, grownCap w s.size 0 5, Lib.bytesCells w 5 s, _, by rw [hl], by rw [hl]; exact grownCap_ge w s.size 0 5, grownCap_le_maxLen w s.size 0 5 (by unfold maxLen; omega), (Below.heap_alloc _ _ _ (by rw [hsz]; omega)).trans hby, fun j hj => ?_⟩, Nat.zero_le _, by rw [hl]; omega⟩, fun k => by simp [blkV, eq_comm]⟩, ?_, ?_⟩
  · rw [hl] at hj
    have h1 := Lib.bytesWorld_cell w 5 s j hj
    simp [World.cell?, hby] at h1
    rw [Nat.zero_add, h1, ByteArray.toList_eq]
    simp
  · rintro k (rfl | rfl) <;> omega
  · exact (below_quiet (Lib.bytesWorld_below w 5 s)).alloc _

end Go.Proofs.YtgkcflindenboaaDoor
