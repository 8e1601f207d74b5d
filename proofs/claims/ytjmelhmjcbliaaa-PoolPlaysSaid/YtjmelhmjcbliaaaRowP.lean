/-
  A slice of one's own whose elements take several cells, as a part of memory; appending to it.
-/
import Derived.Test.YtjmelhmjcbliaaaSepAc
import Derived.Deep.AppendLies
namespace Go.Proofs.Ytjmelhmjcbliaaa
open Go Go.RowKit
set_option linter.unusedVariables false
set_option linter.unusedSimpArgs false
set_option maxRecDepth 100000

def RowV (e : TypeId) (size : Nat) (v : Value) (n : Nat) (xs : List Value) : Res := fun w F => w.ownsRow 0 e size v n xs ∧ ∀ k, F k ↔ v.ownBlock = some k
instance {e : TypeId} {size : Nat} {v : Value} {n : Nat} {xs : List Value} : Stab (RowV e size v n xs) where
  lt := fun h k hk => own_lt h.1 ((h.2 k).1 hk)
  keep := fun h hk => ⟨own_keepAt h.1 (fun k e => hk k ((h.2 k).2 e)), h.2⟩
theorem RowV.nil (e : TypeId) (size : Nat) (w : World) : RowV e size (.slice none 0 0) 0 [] w (fun _ => False) :=
  ⟨World.ownsRow_nil _ _ _ _, fun k => by simp [Value.ownBlock]⟩
theorem Own.row_nil {w0 w : World} {I : Res} (h : Own w0 w I) (e : TypeId) (size : Nat) : Own w0 w (Sep (RowV e size (.slice none 0 0) 0 []) I) := by
  obtain ⟨F, h1, h2, h3⟩ := h
  exact ⟨F, ⟨fun _ => False, F, RowV.nil e size w, h1, fun _ h => h.elim, fun k => by simp⟩, h2, h3⟩
theorem Own.owns {w0 w : World} {e : TypeId} {size : Nat} {v : Value} {n : Nat} {xs : List Value} {J : Res} (h : Own w0 w (Sep (RowV e size v n xs) J)) : w.ownsRow 0 e size v n xs := by
  obtain ⟨F, ⟨A, B, hA, _⟩, _⟩ := h
  exact hA.1
/-- What append leaves. -/
theorem Own.appended {w0 w w' : World} {e : TypeId} {size : Nat} {v : Value} {n n' g cap : Nat} {xs xs' : List Value} {J : Res} [Stab J] (h : Own w0 w (Sep (RowV e size v n xs) J))
    (hown : w'.ownsRow 0 e size (.slice (some ⟨g, 0, none⟩) n' cap) n' xs') (hg : w.grownBy w' v.ownBlock) (hor : v.ownBlock = some g ∨ w.heap.size ≤ g) : Own w0 w' (Sep (RowV e size (.slice (some ⟨g, 0, none⟩) n' cap) n' xs') J) := by
  obtain ⟨F, ⟨A, B, hA, hB, hd, hF⟩, h2, h3⟩ := h
  have hv : ∀ k, v.ownBlock = some k → A k := fun k hk => (hA.2 k).2 hk
  refine ⟨fun k => k = g ∨ B k, ⟨fun k => k = g, B, ⟨hown, fun k => by simp [Value.ownBlock, eq_comm]⟩, Stab.keep hB (fun k hk => hg.block k (Stab.lt hB k hk) (fun e => hd k (hv k e.symm) hk)), ?_, fun k => Iff.rfl⟩, ?_, ?_⟩
  · rintro k rfl hk
    rcases hor with e | e
    · exact hd _ (hv _ e) hk
    · have := Stab.lt hB _ hk; omega
  · rintro k (rfl | hk)
    · rcases hor with e | e
      · exact h2 _ ((hF _).2 (.inl (hv _ e)))
      · have := h3.size; omega
    · exact h2 _ ((hF _).2 (.inr hk))
  · exact h3.grown hg (fun k hk e => by have := h2 k ((hF k).2 (.inl (hv k e))); omega)

end Go.Proofs.Ytjmelhmjcbliaaa
