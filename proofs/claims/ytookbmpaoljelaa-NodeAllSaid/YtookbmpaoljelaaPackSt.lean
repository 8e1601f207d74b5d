/-
  What package pack's values look like in memory: an Out with the bytes that it holds, an In with the bytes that are left. Plain lemmas on worlds; nothing is walked here.
-/
import Derived.Test.YtookbmpaoljelaaMem
namespace Go.Proofs.Ytookbmpaoljelaa
open Go Go.RowKit
set_option linter.unusedVariables false
set_option linter.unusedSimpArgs false
set_option maxRecDepth 100000

/-- A slice value that reads as these bytes, in a block of bytes. -/
def SlB (w : World) (v : Value) (xs : List UInt8) : Prop :=
  (v = .slice none 0 0 ∧ xs = []) ∨
  ∃ g off cap cur, v = .slice (some ⟨g, off, none⟩) xs.length cap ∧ xs.length ≤ cap ∧ cap ≤ maxLen ∧ w.heap[g]? = some (.cells cur 5 (0, 0)) ∧
    ∀ j, j < xs.length → cur[off + j]? = some (.int .u8 (xs.getD j 0).toNat)

/-- The Out in block p: the slice value in its field, its bytes, the block of its row. -/
structure OutV (w : World) (p : Nat) (v : Value) (xs : List UInt8) : Prop where
  at' : w.heap[p]? = some (.cells #[v] 50 (0, 0))
  own : w.ownsRow 0 5 1 v xs.length (u8s xs)

/-- The In in block p: the slice value in its field, the bytes that are left, whether it is bad. -/
structure InV (w : World) (p : Nat) (v : Value) (xs : List UInt8) (bad : Bool) : Prop where
  at' : w.heap[p]? = some (.cells #[v, .bool bad] 93 (0, 0))
  sl : SlB w v xs

theorem SlB.keep {S : Nat → Prop} {w w' : World} {v : Value} {xs : List UInt8} (h : SlB w v xs) (ho : Only S w w')
    (hS : ∀ k cur, w.heap[k]? = some (.cells cur 5 (0, 0)) → ¬ S k) : SlB w' v xs := by
  rcases h with h | ⟨g, off, cap, cur, rfl, h1, h2, h3, h4⟩
  · exact .inl h
  · exact .inr ⟨g, off, cap, cur, rfl, h1, h2, ho.keep h3 (hS g cur h3), h4⟩

theorem InV.cell0 {w : World} {p : Nat} {v : Value} {xs : List UInt8} {bad : Bool} (h : InV w p v xs bad) : w.cell? ⟨p, 0, none⟩ = some v := by simp [World.cell?, h.at']
theorem InV.cell1 {w : World} {p : Nat} {v : Value} {xs : List UInt8} {bad : Bool} (h : InV w p v xs bad) : w.cell? ⟨p, 1, none⟩ = some (.bool bad) := by simp [World.cell?, h.at']
theorem InV.free {w : World} {p : Nat} {v : Value} {xs : List UInt8} {bad : Bool} (h : InV w p v xs bad) (o : Nat) : w.frozen? ⟨p, o, none⟩ = false := by simp [World.frozen?, h.at']
theorem InV.lt {w : World} {p : Nat} {v : Value} {xs : List UInt8} {bad : Bool} (h : InV w p v xs bad) : p < w.heap.size := lt_of_some h.at'

theorem SlB.shape {w : World} {v : Value} {xs : List UInt8} (h : SlB w v xs) :
    ∃ ao cap, v = .slice ao xs.length cap ∧ xs.length ≤ cap ∧ cap ≤ maxLen := by
  rcases h with ⟨rfl, rfl⟩ | ⟨g, off, cap, cur, rfl, h1, h2, _⟩
  · exact ⟨none, 0, rfl, Nat.le_refl _, by unfold maxLen; omega⟩
  · exact ⟨_, cap, rfl, h1, h2⟩

end Go.Proofs.Ytookbmpaoljelaa
