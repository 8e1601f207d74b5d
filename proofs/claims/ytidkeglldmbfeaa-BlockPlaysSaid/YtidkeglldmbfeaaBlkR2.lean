/-
  Which blocks are read: just those whose sectors are as Write lays them. Plain lemmas; nothing is walked here.
-/
import Derived.Test.YtidkeglldmbfeaaBlkR1
namespace Go.Proofs.Ytidkeglldmbfeaa
open Go Go.RowKit
set_option linter.unusedVariables false
set_option linter.unusedSimpArgs false
set_option maxRecDepth 100000

theorem rdAcc_pre {D : DS} {s id c : Nat} : ∀ {k : Nat} {a : List UInt8}, D.rdAcc s id c k = some a → ∀ j, j < k → ∃ aj r, D.rdAcc s id c j = some aj ∧ D.goodAt s id c j aj = true ∧ a = (aj ++ (partOf (sec D.N (s + j))).data) ++ r ∧ (j + 1 = k → r = []) ∧
    (j + 1 < k → (aj ++ (partOf (sec D.N (s + j))).data).length = (j + 1) * 50)
  | 0, _, _, j, hj => by omega
  | k + 1, a, h, j, hj => by
    unfold DS.rdAcc at h
    cases h2 : D.rdAcc s id c k with
    | none => rw [h2] at h; simp at h
    | some b =>
      rw [h2] at h
      simp only at h
      split at h
      · rename_i hg
        simp at h
        by_cases e : j = k
        · subst e
          exact ⟨b, [], h2, hg, by rw [← h]; simp, fun _ => rfl, fun h => by omega⟩
        · obtain ⟨aj, r, q1, q2, q3, q4, q5⟩ := rdAcc_pre h2 j (by omega)
          refine ⟨aj, r ++ (partOf (sec D.N (s + k))).data, q1, q2, by rw [← h, q3]; simp, fun h => by omega, fun h3 => ?_⟩
          by_cases e2 : j + 1 = k
          · have hr := q4 e2
            rw [hr, List.append_nil] at q3
            rw [← q3]
            simp only [DS.goodAt, Bool.and_eq_true, decide_eq_true_eq] at hg
            rw [hg.2, e2]
          · exact q5 (by omega)
      · simp at h

theorem rd_iff {D : DS} (hok : D.Ok) {s id : Nat} {xs : List UInt8} (h : D.rd s id = some xs) :
    xs.length ≤ 32768 ∧ s + cntN xs.length ≤ D.n ∧ ∀ j, j < cntN xs.length → sec D.N (s + j) = pad (partAt id xs j).out := by
  unfold DS.rd at h
  split at h
  · rename_i h0
    cases h2 : D.rdAcc s id (fstC D s) (fstC D s) with
    | none => rw [h2] at h; simp at h
    | some a =>
      rw [h2] at h
      simp only at h
      split at h
      · rename_i hc
        simp at h
        subst h
        obtain ⟨c, hce⟩ : ∃ c, c = fstC D s := ⟨_, rfl⟩
        rw [← hce] at h2 hc
        have hc0 : c ≠ 0 := fun e => by
          subst e
          simp [DS.rdAcc] at h2
          subst h2
          revert hc
          decide
        have hx : a.length ≤ 32768 := by
          by_cases hx : a.length ≤ 32768
          · exact hx
          · rw [(cnt_zero _).2 (.inr (by omega))] at hc
            exact absurd hc.symm hc0
        have hcn : cntN a.length = c := by rw [← hc, cnt_nat hx]
        have hlen := (rdAcc_len h2 h0).2 (by omega)
        refine ⟨hx, by rw [hcn]; exact hlen, fun j hj => ?_⟩
        rw [hcn] at hj
        obtain ⟨aj, r, q1, q2, q3, q4, q5⟩ := rdAcc_pre h2 j hj
        simp only [DS.goodAt, Bool.and_eq_true, decide_eq_true_eq] at q2
        obtain ⟨⟨⟨⟨⟨g1, g2⟩, g3⟩, g4⟩, g5⟩, g6⟩ := q2
        obtain ⟨p1, p2, p3⟩ := sec_part (sec_length hok.N g1) g2
        have hp : partOf (sec D.N (s + j)) = partAt id a j := by
          have hd : (partOf (sec D.N (s + j))).data = pieceN a j := by
            unfold pieceN
            rw [q3, List.append_assoc, drop_l g6]
            by_cases e : j + 1 < c
            · have := q5 e
              rw [List.length_append, g6] at this
              exact (take_l (by omega)).symm
            · have hr := q4 (by omega)
              rw [hr, List.append_nil]
              exact (List.take_of_length_le p3).symm
          have hpe : ∀ P : Part, P.id = id → P.place = j → P.count = c → P.data = pieceN a j → P = partAt id a j := fun P e1 e2 e3 e4 => by
            obtain ⟨pid, ppl, pct, pdt⟩ := P
            simp only at e1 e2 e3 e4
            subst e1 e2 e4
            simp only [partAt, hcn, e3]
          exact hpe _ g3 g4 g5 hd
        rw [← hp]
        exact p1
      · cases h
  · cases h

end Go.Proofs.Ytidkeglldmbfeaa
