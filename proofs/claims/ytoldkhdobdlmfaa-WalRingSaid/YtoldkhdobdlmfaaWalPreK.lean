/-
  What WalPrefix and WalTrims have in common.
-/
import Derived.Test.YtoldkhdobdlmfaaWal12
namespace Go.Proofs.Ytoldkhdobdlmfaa
open Go Go.RowKit Go.Lib
set_option linter.unusedVariables false
set_option linter.unusedSimpArgs false
set_option maxRecDepth 100000

theorem pcnt_len (A : List (Nat × List UInt8)) : A.length ≤ pcnt A := by
  induction A with
  | nil => simp
  | cons x A ih => rw [pcnt_cons]; have := cntN_pos x.2.length; simp; omega
abbrev PrR (q p M nxt size head : Nat) (D : DS) (ao : Option Addr) (n cap : Nat) (vs : List Value) (L : List (List UInt8)) : Res :=
  Sep (WLogR q p 0 size M head nxt) (Sep (DiskR p D) (Sep (RowV 48 1 (.slice ao n cap) n vs) (Sep (DatL vs L) Emp)))
/-- What is known at a round's head: the log; what was found or appended, in order; so many are safe. -/
structure PreI (D : DS) (M nxt : Nat) (A : List (Nat × List UInt8)) (B : List (List UInt8)) (L : List (List UInt8)) (k : Nat) : Prop where
  log : LogW D 64 1 nxt 1 M A B (200 * k)
  l : L = A.map Prod.snd ++ B
  m : M ≤ k + 1
  m1 : 1 ≤ M
theorem PreI.len {D : DS} {M nxt k : Nat} {A : List (Nat × List UInt8)} {B L : List (List UInt8)} (h : PreI D M nxt A B L k) : L.length = A.length + B.length ∧ L.length ≤ 64 := by
  have h1 := h.log.nx
  have h2 := h.log.fit
  have h3 := pcnt_len A
  have h4 := pcnt_len (B.map (Prod.mk M))
  rw [List.length_map] at h4
  rw [h.l]
  simp
  omega
theorem sync_few (D : DS) : D.sync.W.length ≤ D.W.length ∧ D.sync.wr = D.wr ∧ D.sync.sy ≤ D.sy + 1 := by
  unfold DS.sync
  split
  · exact ⟨Nat.le_refl _, rfl, by omega⟩
  · exact ⟨by simp, rfl, Nat.le_refl _⟩
theorem fused_few (D : DS) (z : Int) : (D.fused z).W = D.W ∧ (D.fused z).wr = D.wr ∧ (D.fused z).sy = D.sy := by
  unfold DS.fused
  split <;> exact ⟨rfl, rfl, rfl⟩
theorem crash_few (D : DS) (keep : List Int) : (D.crash keep).W = [] ∧ (D.crash keep).wr = D.wr ∧ (D.crash keep).sy = D.sy := by
  unfold DS.crash
  exact ⟨rfl, rfl, rfl⟩

theorem recsAt_dat : ∀ (A : List (Nat × List UInt8)) (s k : Nat), k < A.length → ((recsAt s A).getD k (0, 0, [])).2.2 = (A.map Prod.snd).getD k []
  | [], s, k, h => by simp at h
  | x :: A, s, 0, _ => rfl
  | x :: A, s, k + 1, h => by
    have := recsAt_dat A (s + cntN x.2.length) k (by simpa using h)
    simpa [recsAt] using this
theorem recsAt_chain : ∀ (A : List (Nat × List UInt8)) (s k : Nat), k + 1 < A.length → ((recsAt s A).getD (k + 1) (0, 0, [])).1 = ((recsAt s A).getD k (0, 0, [])).2.1
  | [], s, k, h => by simp at h
  | [x], s, k, h => by simp at h
  | x :: y :: A, s, 0, _ => rfl
  | x :: y :: A, s, k + 1, h => by
    have := recsAt_chain (y :: A) (s + cntN x.2.length) k (by simpa using h)
    simpa [recsAt] using this
theorem DatL.sl {w0 w : World} {vs : List Value} {L : List (List UInt8)} {J : Res} (h : Own w0 w (Sep (DatL vs L) J)) {j : Nat} (hj : j < L.length) : ∃ u, vs[j]? = some u ∧ SlC w u (L.getD j []) := by
  obtain ⟨F, ⟨A, B, ⟨h1, _, h3⟩, _⟩, _⟩ := h
  have hv : j < vs.length := by omega
  refine ⟨vs[j], List.getElem?_eq_getElem hv, ?_⟩
  have := (h3 j hj).1
  rwa [List.getD_eq_getElem?_getD (l := vs), List.getElem?_eq_getElem hv] at this

end Go.Proofs.Ytoldkhdobdlmfaa
