/-
  The walk of the statement DiskTwice.
-/
import Derived.Test.YtidkeglldmbfeaaDiskFuses
import Derived.Test.YtidkeglldmbfeaaCopyInts
namespace Go.Proofs.Ytidkeglldmbfeaa
open Go Go.RowKit
set_option linter.unusedVariables false
set_option linter.unusedSimpArgs false
set_option maxRecDepth 100000

/-- A disk of 16 sectors with at most k of each. -/
structure Few (m k : Nat) (D : DS) : Prop where
  sz : D.n = m
  W : D.W.length ≤ k
  wr : D.wr ≤ k
  sy : D.sy ≤ k
theorem last_few {m k : Nat} {D : DS} (h : Few m k D) : Few m k D.last := by
  obtain ⟨h1, _, _, h4, h5, h6⟩ := DS.last_same D
  exact ⟨h1.trans h.sz, by rw [h4]; exact h.W, by rw [h5]; exact h.wr, by rw [h6]; exact h.sy⟩
theorem Few.up {m k : Nat} {D : DS} (h : Few m k D) : Few m (k + 1) D := ⟨h.sz, Nat.le_succ_of_le h.W, Nat.le_succ_of_le h.wr, Nat.le_succ_of_le h.sy⟩
theorem Few.write {m k : Nat} {D : DS} (h : Few m k D) (i : Int) (b : List UInt8) : Few m (k + 1) (D.write i b) := by
  unfold DS.write
  split
  · exact h.up
  · split
    · have g := last_few h
      refine ⟨g.sz, ?_, ?_, Nat.le_succ_of_le g.sy⟩
      · show (D.last.W ++ _).length ≤ _
        have := g.W
        simp
        omega
      · show D.last.wr + 1 ≤ _
        have := g.wr
        omega
    · exact (last_few h).up
theorem Few.sync {m k : Nat} {D : DS} (h : Few m k D) : Few m (k + 1) D.sync := by
  unfold DS.sync
  split
  · exact h.up
  · exact ⟨h.sz, Nat.zero_le _, Nat.le_succ_of_le h.wr, Nat.succ_le_succ h.sy⟩
theorem Few.crash {m k : Nat} {D : DS} (h : Few m k D) (l : List Int) : Few m k (D.crash l) := ⟨h.sz, Nat.zero_le _, h.wr, h.sy⟩

/-- Slices of sectors that were read, in an array of m. -/
def secV (g : Nat) : Value := .slice (some ⟨g, 0, none⟩) 64 64
def WasR (ga m : Nat) (t : TypeId) (N : List UInt8) (k : Nat) : Res := fun w F => ∃ gs : List Nat, gs.length = k ∧ k ≤ m ∧
  w.heap[ga]? = some (.cells (gs.map secV ++ List.replicate (m - k) (Value.slice none 0 0)).toArray t (0, 0)) ∧
  (∀ j (hj : j < gs.length), w.heap[gs[j]]? = some (.cells (u8s (sec N j)).toArray 69 (0, 0))) ∧ ∀ i, F i ↔ i = ga ∨ i ∈ gs
instance {ga m k : Nat} {t : TypeId} {N : List UInt8} : Stab (WasR ga m t N k) where
  lt := by
    rintro w F ⟨gs, h1, h2, h3, h4, h5⟩ k hk
    rcases (h5 k).1 hk with rfl | hk
    · exact lt_of_some h3
    · obtain ⟨j, hj, rfl⟩ := List.getElem_of_mem hk
      exact lt_of_some (h4 j hj)
  keep := by
    rintro w w' F ⟨gs, h1, h2, h3, h4, h5⟩ hk
    exact ⟨gs, h1, h2, (hk ga ((h5 ga).2 (.inl rfl))).trans h3, fun j hj => (hk _ ((h5 _).2 (.inr (List.getElem_mem hj)))).trans (h4 j hj), h5⟩
theorem was_new {w0 w : World} {J : Res} [Stab J] {m : Nat} {t : TypeId} {N : List UInt8} (h : Own w0 w J) : Own w0 (w.alloc (.cells (List.replicate m (Value.slice none 0 0)).toArray t)) (Sep (WasR w.heap.size m t N 0) J) :=
  h.fresh ((Only.refl _ w).alloc _) (B := fun k => k = w.heap.size) ⟨[], rfl, Nat.zero_le _, heap_alloc_new w _, fun j hj => by simp at hj, fun i => by simp⟩ (fun k e => by omega)
theorem WasR.cell {w : World} {ga m k : Nat} {t : TypeId} {N : List UInt8} {F : Nat → Prop} (h : WasR ga m t N k w F) {j : Nat} (hj : j < m) : ∃ v, w.cell? ⟨ga, j, none⟩ = some v ∧ w.frozen? ⟨ga, j, none⟩ = false := by
  obtain ⟨gs, h1, h2, h3, h4, h5⟩ := h
  refine ⟨_, by simp only [World.cell?, h3]; rw [if_neg (by simp), List.getElem?_toArray, List.getElem?_eq_getElem (by simp; omega)], by simp [World.frozen?, h3]⟩
/-- The next one read is laid into the array. -/
theorem WasR.put {w0 w : World} {ga m k g : Nat} {t : TypeId} {N : List UInt8} {J : Res} [Stab J] (h : Own w0 w (Sep (Row g 69 (sec N k)) (Sep (WasR ga m t N k) J))) (hk : k < m) :
    Own w0 (w.setCell ⟨ga, k, none⟩ (secV g)) (Sep (WasR ga m t N (k + 1)) J) := by
  obtain ⟨F, ⟨A, BC, hA, ⟨B, C, ⟨gs, h1, h2, h3, h4, h5⟩, hC, hBC, hBCi⟩, hABC, hF⟩, hF0, hO⟩ := h
  have hg : A g := (hA.2 g).2 rfl
  have hB : ∀ i, B i → i ≠ g := fun i hi e => hABC g hg ((hBCi g).2 (.inl (e ▸ hi)))
  have hga : B ga := (h5 ga).2 (.inl rfl)
  have hne : g ≠ ga := fun e => hB ga hga e.symm
  have hkeep : ∀ i, i ≠ ga → (w.setCell ⟨ga, k, none⟩ (secV g)).heap[i]? = w.heap[i]? := fun i hi => Below.heap_setCell _ _ _ _ hi
  refine ⟨fun i => (i = ga ∨ i ∈ gs ++ [g]) ∨ C i, ⟨fun i => i = ga ∨ i ∈ gs ++ [g], C, ⟨gs ++ [g], by simp [h1], by omega, ?_, ?_, fun i => Iff.rfl⟩, Stab.keep hC (fun i hi => hkeep i (fun e => hBC ga hga (e ▸ hi))), ?_, fun i => Iff.rfl⟩, ?_, ?_⟩
  · rw [heap_set h3]
    congr 2
    apply Array.toList_inj.1
    simp only [List.setIfInBounds_toArray]
    rw [List.set_append_right _ _ (by simp; omega)]
    have e1 : k - (gs.map secV).length = 0 := by simp; omega
    rw [e1, show m - k = (m - (k + 1)) + 1 by omega, List.replicate_succ, List.set_cons_zero]
    simp
  · intro j hj
    by_cases hjk : j < gs.length
    · rw [List.getElem_append_left hjk, hkeep _ (fun e => ?_)]
      · exact h4 j hjk
      · have a := h4 j hjk
        rw [e, h3] at a
        simp only [Option.some.injEq, Obj.cells.injEq] at a
        have hl := congrArg (fun x => x.toList) a.1
        simp only at hl
        have h0 : 0 < m := by omega
        have hx : ∀ v ∈ (gs.map secV ++ List.replicate (m - k) (Value.slice none 0 0)), ∃ q n c, v = .slice q n c := by
          intro v hv
          rcases List.mem_append.1 hv with hv | hv
          · obtain ⟨x, _, rfl⟩ := List.mem_map.1 hv
            exact ⟨_, _, _, rfl⟩
          · rw [(List.mem_replicate.1 hv).2]
            exact ⟨_, _, _, rfl⟩
        have hm : (gs.map secV ++ List.replicate (m - k) (Value.slice none 0 0)).length = m := by simp; omega
        obtain ⟨v, hv⟩ : ∃ v, v ∈ (gs.map secV ++ List.replicate (m - k) (Value.slice none 0 0)) := ⟨_, List.getElem_mem (n := 0) (by omega)⟩
        obtain ⟨q, n, c, rfl⟩ := hx v hv
        rw [hl] at hv
        simp [u8s] at hv
    · have e2 : j = gs.length := by simp at hj; omega
      subst e2
      rw [List.getElem_append_right (by omega), hkeep _ (by simpa using hne)]
      simp only [Nat.sub_self, List.getElem_singleton]
      rw [h1]
      exact hA.1
  · rintro i (rfl | hi) hCi
    · exact hBC _ hga hCi
    · rcases List.mem_append.1 hi with hi | hi
      · exact hBC i ((h5 i).2 (.inr hi)) hCi
      · rw [List.mem_singleton.1 hi] at hCi
        exact hABC g hg ((hBCi g).2 (.inr hCi))
  · rintro i ((rfl | hi) | hi)
    · exact hF0 _ ((hF _).2 (.inr ((hBCi _).2 (.inl hga))))
    · rcases List.mem_append.1 hi with hi | hi
      · exact hF0 i ((hF i).2 (.inr ((hBCi i).2 (.inl ((h5 i).2 (.inr hi))))))
      · rw [List.mem_singleton.1 hi]
        exact hF0 g ((hF g).2 (.inl hg))
    · exact hF0 i ((hF i).2 (.inr ((hBCi i).2 (.inr hi))))
  · exact hO.trans (Only.cell w ga k _) (fun i hi e => by have := hF0 ga ((hF ga).2 (.inr ((hBCi ga).2 (.inl hga)))); omega)
/-- One of them read again. -/
theorem WasR.read {w : World} {ga m k : Nat} {t : TypeId} {N : List UInt8} {F : Nat → Prop} (h : WasR ga m t N k w F) {j : Nat} (hj : j < k) (hl : (sec N j).length = 64) : ∃ g, w.cell? ⟨ga, j, none⟩ = some (secV g) ∧ SlC w (secV g) (sec N j) := by
  obtain ⟨gs, h1, h2, h3, h4, h5⟩ := h
  refine ⟨gs[j], ?_, row_bytes' (h4 j (by omega)) hl.symm⟩
  simp only [World.cell?, h3]
  rw [if_neg (by simp), List.getElem?_toArray, List.getElem?_append_left (by simp; omega)]
  simp [show j < gs.length by omega]




end Go.Proofs.Ytidkeglldmbfeaa
