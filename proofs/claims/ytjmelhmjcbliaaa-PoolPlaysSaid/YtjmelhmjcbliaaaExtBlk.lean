/-
  What the texts of package wal take from package extent's and block's: parts that are blocks of one's own (wip/tools/pick.py), for seats without these packages.
-/
import Derived.Test.YtjmelhmjcbliaaaRange
namespace Go.Proofs.Ytjmelhmjcbliaaa
open Go Go.RowKit
set_option linter.unusedVariables false
set_option linter.unusedSimpArgs false
set_option maxRecDepth 100000
theorem Own.exR {α : Type} {w0 w : World} {I : α → Res} {J : Res} (h : Own w0 w (Sep (ExR I) J)) : ∃ x, Own w0 w (Sep (I x) J) := by
  obtain ⟨F, ⟨A, B, ⟨x, hA⟩, hB, hd, hF⟩, h2, h3⟩ := h
  exact ⟨x, F, ⟨A, B, hA, hB, hd, hF⟩, h2, h3⟩
theorem Own.andR {p : Prop} {w0 w : World} {I J : Res} (h : Own w0 w (Sep (AndR p I) J)) : p ∧ Own w0 w (Sep I J) := by
  obtain ⟨F, ⟨A, B, ⟨hp, hA⟩, hB, hd, hF⟩, h2, h3⟩ := h
  exact ⟨hp, F, ⟨A, B, hA, hB, hd, hF⟩, h2, h3⟩
theorem blk_cell {w : World} {b : Nat} {cs : Array Value} {t : TypeId} {v : Value} (h : w.heap[b]? = some (.cells cs t (0, 0))) (j : Nat) (hv : cs[j]? = some v) : w.cell? ⟨b, j, none⟩ = some v := by simp [World.cell?, h, hv]
theorem blk_free {w : World} {b : Nat} {cs : Array Value} {t : TypeId} (h : w.heap[b]? = some (.cells cs t (0, 0))) (j : Nat) : w.frozen? ⟨b, j, none⟩ = false := by simp [World.frozen?, h]
/-- A store into a block of one's own. -/
theorem Own.store {w0 w : World} {k : Nat} {cs : Array Value} {t : TypeId} {J : Res} [Stab J] (h : Own w0 w (Sep (Blk k (.cells cs t (0, 0))) J)) (j : Nat) (u : Value) : Own w0 (w.setCell ⟨k, j, none⟩ u) (Sep (Blk k (.cells (cs.setIfInBounds j u) t (0, 0))) J) := by
  obtain ⟨F, ⟨A, B, hA, hB, hd, hF⟩, h2, h3⟩ := h
  have hk : A k := (hA.2 k).2 rfl
  refine ⟨F, ⟨A, B, ⟨heap_set hA.1 j u, hA.2⟩, Stab.keep hB (fun i hi => Below.heap_setCell _ _ _ _ (fun e => hd k hk (by have e : i = k := e; rwa [e] at hi))), hd, hF⟩, h2, ?_⟩
  refine h3.setCell (fun hlt => ?_) u
  have := h2 k ((hF k).2 (.inl hk))
  exact absurd hlt (by simp; omega)
theorem rowV_cell {w : World} {e : TypeId} {size : Nat} {ao : Option Addr} {n cap : Nat} {xs : List Value} (h : w.ownsRow 0 e size (.slice ao n cap) n xs) {j : Nat} {u : Value} (hj : xs[j]? = some u) :
    ∃ g, ao = some ⟨g, 0, none⟩ ∧ w.cell? ⟨g, j, none⟩ = some u ∧ w.frozen? ⟨g, j, none⟩ = false ∧ n ≤ cap := by
  rcases h.2 with ⟨e1, e2⟩ | ⟨g, cap', cur, e1, _, hg, hn, _, _, ht⟩
  · have hx := h.1
    rw [e2] at hx
    have := List.getElem?_eq_some_iff.1 hj
    obtain ⟨h1, _⟩ := this
    simp at hx
    subst hx
    simp at h1
  · simp at e1
    obtain ⟨rfl, rfl⟩ := e1
    refine ⟨g, rfl, ?_, by simp [World.frozen?, hg], hn⟩
    rw [← ht, List.getElem?_take] at hj
    split at hj
    · simpa [World.cell?, hg] using hj
    · cases hj
theorem own_base {w : World} {B B' : Nat} {e : TypeId} {size : Nat} {v : Value} {n : Nat} {xs : List Value} (h : w.ownsRow B e size v n xs) (hB : B' ≤ B) : w.ownsRow B' e size v n xs := by
  refine ⟨h.1, ?_⟩
  rcases h.2 with h0 | ⟨g, cap, cur, rfl, hb, rest⟩
  · exact .inl h0
  · exact .inr ⟨g, cap, cur, rfl, Nat.le_trans hB hb, rest⟩

end Go.Proofs.Ytjmelhmjcbliaaa
