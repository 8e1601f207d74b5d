/-
  What a disk holds: what is seen is what is kept with what waits laid over it. Plain lemmas on lists.
-/
import Derived.Test.YtidkeglldmbfeaaDiskTwice
namespace Go.Proofs.Ytidkeglldmbfeaa
open Go Go.RowKit
set_option linter.unusedVariables false
set_option linter.unusedSimpArgs false
set_option maxRecDepth 100000

theorem sec_get {N : List UInt8} {n i j : Nat} (h : N.length = n * 64) (hi : i < n) (hj : j < 64) : (sec N i)[j]? = N[i * 64 + j]? := by
  rw [sec, List.getElem?_take, if_pos hj, List.getElem?_drop]
theorem sec_ext {N M : List UInt8} {n : Nat} (hN : N.length = n * 64) (hM : M.length = n * 64) (h : ∀ i, i < n → sec N i = sec M i) : N = M := by
  apply List.ext_getElem?
  intro t
  by_cases ht : t < n * 64
  · have h1 : t / 64 < n := by omega
    have h2 : t % 64 < 64 := Nat.mod_lt _ (by omega)
    have e : t = t / 64 * 64 + t % 64 := by omega
    rw [e, ← sec_get hN h1 h2, ← sec_get hM h1 h2, h _ h1]
  · rw [List.getElem?_eq_none (by omega), List.getElem?_eq_none (by omega)]

theorem lays_length {n : Nat} : ∀ (W : List (Nat × List UInt8)) (K : List UInt8), K.length = n * 64 → (∀ x ∈ W, x.1 < n ∧ x.2.length = 64) → (lays K W).length = n * 64
  | [], K, hK, _ => hK
  | x :: W, K, hK, hW => by
    have hx := hW x (by simp)
    exact lays_length W (put K x.1 x.2) (put_length hK hx.1 hx.2) (fun y hy => hW y (by simp [hy]))
theorem lays_other {n i : Nat} : ∀ (W : List (Nat × List UInt8)) (K : List UInt8), K.length = n * 64 → (∀ x ∈ W, x.1 < n ∧ x.2.length = 64) → (∀ x ∈ W, x.1 ≠ i) → sec (lays K W) i = sec K i
  | [], K, hK, _, _ => rfl
  | x :: W, K, hK, hW, hi => by
    have hx := hW x (by simp)
    have h1 := lays_other W (put K x.1 x.2) (put_length hK hx.1 hx.2) (fun y hy => hW y (by simp [hy])) (fun y hy => hi y (by simp [hy]))
    exact h1.trans (sec_put_other hK hx.1 hx.2 (fun e => hi x (by simp) e.symm))
theorem backs_sec {n i : Nat} (K : List UInt8) (hK : K.length = n * 64) : ∀ (W : List (Nat × List UInt8)) (N : List UInt8), N.length = n * 64 → (∀ x ∈ W, x.1 < n) →
    (backs N K W).length = n * 64 ∧ ((∃ x ∈ W, x.1 = i) → sec (backs N K W) i = sec K i) ∧ ((∀ x ∈ W, x.1 ≠ i) → sec (backs N K W) i = sec N i)
  | [], N, hN, _ => ⟨hN, fun ⟨x, hx, _⟩ => by simp at hx, fun _ => rfl⟩
  | x :: W, N, hN, hW => by
    have hx := hW x (by simp)
    have hl := sec_length hK hx
    obtain ⟨h1, h2, h3⟩ := backs_sec (i := i) K hK W (put N x.1 (sec K x.1)) (put_length hN hx hl) (fun y hy => hW y (by simp [hy]))
    refine ⟨h1, ?_, ?_⟩
    · rintro ⟨y, hy, hyi⟩
      by_cases hin : ∃ z ∈ W, z.1 = i
      · exact h2 hin
      · have hno : ∀ z ∈ W, z.1 ≠ i := fun z hz e => hin ⟨z, hz, e⟩
        have e := h3 hno
        have hxi : x.1 = i := by
          rcases List.mem_cons.1 hy with rfl | hy
          · exact hyi
          · exact absurd hyi (hno y hy)
        subst hxi
        exact e.trans (sec_put_same hN hx hl)
    · intro hno
      exact (h3 (fun y hy => hno y (by simp [hy]))).trans (sec_put_other hN hx hl (fun e => hno x (by simp) e.symm))

theorem chosen_sub (W : List (Nat × List UInt8)) (keep : List Int) : ∀ x ∈ chosen W keep, x ∈ W := by
  intro x hx
  obtain ⟨y, hy, e⟩ := List.mem_filterMap.1 hx
  split at e
  · simp at e
    subst e
    exact (List.of_mem_zip (a := y.1) (b := y.2) (by simpa using hy)).1
  · cases e

/-- What is seen is what is kept with what waits laid over it. -/
def Coh (D : DS) : Prop := D.N = lays D.K D.W
theorem Coh.new (n : Nat) : Coh (DS.new n) := rfl
theorem Coh.fused {D : DS} (h : Coh D) (n : Int) : Coh (D.fused n) := by
  unfold DS.fused
  split
  · exact h
  · exact h
theorem Coh.last {D : DS} (h : Coh D) : Coh D.last := by
  obtain ⟨_, h2, h3, h4, _⟩ := DS.last_same D
  show D.last.N = lays D.last.K D.last.W
  rw [h2, h3, h4]
  exact h
theorem Coh.lay {D : DS} (h : Coh D) (i : Nat) (s : List UInt8) : Coh (D.lay i s) := by
  show put D.N i s = lays D.K (D.W ++ [(i, s)])
  rw [lays_snoc, ← h]
theorem Coh.write {D : DS} (h : Coh D) (i : Int) (b : List UInt8) : Coh (D.write i b) := by
  unfold DS.write
  split
  · exact h
  · split
    · exact h.last.lay _ _
    · exact h.last
theorem Coh.sync {D : DS} (h : Coh D) : Coh D.sync := by
  unfold DS.sync
  split
  · exact h
  · exact h
/-- A Crash leaves the same to be seen as is kept: what was kept with the chosen ones laid over it. -/
theorem Coh.crashed {D : DS} (h : Coh D) (ok : D.Ok) (keep : List Int) : (D.crash keep).N = lays D.K (chosen D.W keep) := by
  have hcW : ∀ x ∈ chosen D.W keep, x.1 < D.n ∧ x.2.length = 64 := fun x hx => ok.W x (chosen_sub _ _ x hx)
  have hl := lays_length (chosen D.W keep) D.K ok.K hcW
  refine sec_ext (n := D.n) (backs_sec (i := 0) _ hl D.W D.N ok.N (fun x hx => (ok.W x hx).1)).1 hl (fun i hi => ?_)
  obtain ⟨_, h2, h3⟩ := backs_sec (i := i) _ hl D.W D.N ok.N (fun x hx => (ok.W x hx).1)
  by_cases hin : ∃ x ∈ D.W, x.1 = i
  · exact h2 hin
  · have hno : ∀ x ∈ D.W, x.1 ≠ i := fun x hx e => hin ⟨x, hx, e⟩
    rw [show (D.crash keep).N = backs D.N (lays D.K (chosen D.W keep)) D.W from rfl, h3 hno, h, lays_other D.W D.K ok.K ok.W hno, lays_other (chosen D.W keep) D.K ok.K hcW (fun x hx => hno x (chosen_sub _ _ x hx))]
theorem Coh.crash {D : DS} (h : Coh D) (ok : D.Ok) (keep : List Int) : Coh (D.crash keep) := h.crashed ok keep
theorem chosen_nil (W : List (Nat × List UInt8)) : chosen W [] = [] := by simp [chosen]
theorem chosen_snoc (W : List (Nat × List UInt8)) (x : Nat × List UInt8) (keep : List Int) : chosen (W ++ [x]) keep = if keptAt keep W.length then chosen W keep ++ [x] else chosen W keep := by
  have h := chosen_take (W ++ [x]) keep (j := W.length) (by simp)
  rw [List.take_of_length_le (by simp), List.take_append_of_le_length (Nat.le_refl _), List.take_length] at h
  simpa using h

end Go.Proofs.Ytidkeglldmbfeaa
