/-
  Regions whose last operations may write what was loaded: operations on which others wait in a chain.
-/
import Derived.Test.YtjmelhmjcbliaaaOrdG
namespace Go.Proofs.Ytjmelhmjcbliaaa
open Go
set_option linter.unusedVariables false
set_option linter.unusedSimpArgs false
set_option maxRecDepth 100000

section
variable {P : Program} {ops : Array Oper} {Q : Exit → Act → World → Prop} {md : Region.Mode} {S : World → Prop} {T : List Nat}
/-- An operation that yields in every world with S, and for which each of T waits (by itself, or by one of M that waits for it), may be taken ahead of the others. -/
theorem anyG.ahead2 {M : List Nat} {i : Nat} {oi : Oper} {v : Value} (hi : ops[i]? = some oi) (hsel : ∀ (j : Nat) (o : Oper) cs b, ops[j]? = some o → o.op ≠ .select cs b)
    (hQ : ∀ c a w, Q (.panic c) (a.put oi.dst v) w → Q (.panic c) a w) (hiT : i ∉ T) (hM : ∀ k ∈ M, ∀ o, ops[k]? = some o → ∃ e ∈ o.after, Region.binds md e = true ∧ (e.on = i ∨ e.on ∈ M)) (hT : ∀ k ∈ T, ∀ o, ops[k]? = some o → ∃ e ∈ o.after, Region.binds md e = true ∧ (e.on = i ∨ e.on ∈ M)) (n : Nat) :
    ∀ (L : Array Bool) (a : Act) (w : World), (∀ j oj, ops[j]? = some oj → j ≠ i → L.getD j true = false → (∀ e ∈ oj.after, Region.binds md e = true → e.on ≠ i) → oi.apart ops oj = true) →
      Late T L → Late M L → i ∈ Region.ready md ops L → YieldsIf P ops S oi v a → S w → anyG P md ops Q S T n (L.setIfInBounds i true) (a.put oi.dst v) w → anyG P md ops Q S T (n + 1) L a w := by
  induction n with
  | zero =>
    intro L a w hfr hL hLM hr hy hS H
    constructor
    · intro h
      rw [h] at hr
      cases hr
    · intro j hj
      by_cases e : j = i
      · subst e
        exact hy.wpOp hi hS ⟨fun _ => hS, H⟩
      · have h := ready_mono hj e
        rw [H.1] at h
        cases h
  | succ n ih =>
    intro L a w hfr hL hLM hr hy hS H
    constructor
    · intro h
      rw [h] at hr
      cases hr
    · intro j hj
      by_cases e : j = i
      · subst e
        exact hy.wpOp hi hS ⟨fun _ => hS, H⟩
      · obtain ⟨hun, oj, hoj, hall⟩ := mem_ready.1 hj
        -- what is ready does not wait for i, which has not come up
        have hno : ∀ d ∈ oj.after, Region.binds md d = true → d.on ≠ i := by
          intro d hd hb hon
          have h1 := hall d hd hb
          rw [hon] at h1
          exact listed_no h1 (mem_ready.1 hr).1
        have hjM : j ∉ M := fun hm => by
          obtain ⟨d, hd, hb, hon | hon⟩ := hM j hm oj hoj
          · exact hno d hd hb hon
          · exact listed_no (hall d hd hb) (hLM d.on hon)
        have hMj : Late M (L.setIfInBounds j true) := fun k hk => by
          rw [getD_set_ne true (fun h => hjM (by rw [h]; exact hk))]
          exact hLM k hk
        have hjT : j ∉ T := fun hm => by
          obtain ⟨d, hd, hb, hon | hon⟩ := hT j hm oj hoj
          · exact hno d hd hb hon
          · exact listed_no (hall d hd hb) (hLM d.on hon)
        have hLj : Late T (L.setIfInBounds j true) := fun k hk => by
          rw [getD_set_ne true (fun h => hjT (by rw [h]; exact hk))]
          exact hL k hk
        have hLij : Late T ((L.setIfInBounds i true).setIfInBounds j true) := fun k hk => by
          rw [getD_set_ne true (fun h => hjT (by rw [h]; exact hk)), getD_set_ne true (fun h => hiT (by rw [h]; exact hk))]
          exact hL k hk
        refine wpOp_mono ?_ (wpOp_putIf hoj (hfr j oj hoj e hun hno) (fun cs b => hsel i oi cs b hi) (fun cs b => hsel j oj cs b hoj) hQ hy (H.2 j (ready_mono hj e)))
        rintro b v' ⟨hyb, hs, hg⟩
        refine ⟨fun _ => hs hLij, ih _ b v' ?_ hLj hMj (ready_mono hr (fun h => e h.symm)) hyb (hs hLij) ?_⟩
        · intro k ok hk hki hku hkn
          refine hfr k ok hk hki ?_ hkn
          by_cases h : j = k
          · subst h
            exact hun
          · rwa [getD_set_ne true h] at hku
        · rw [Array.setIfInBounds_comm _ _ e]
          exact hg
theorem anyG.take2 (M : List Nat) {i : Nat} {oi : Oper} {v : Value} {n : Nat} {L : Array Bool} {a : Act} {w : World} (hi : ops[i]? = some oi) (hs : Region.noSelect ops = true) (hf : Region.free md ops L i = true) (hr : (Region.ready md ops L).contains i = true)
    (hT : (!T.contains i && T.all fun k => (ops[k]?.map fun o => o.after.any fun e => Region.binds md e && (e.on == i || M.contains e.on)).getD true) = true) (hM : (M.all fun k => (ops[k]?.map fun o => o.after.any fun e => Region.binds md e && (e.on == i || M.contains e.on)).getD true) = true) (hL : ((T ++ M).all fun k => !L.getD k true) = true)
    (hQ : ∀ c a w, Q (.panic c) (a.put oi.dst v) w → Q (.panic c) a w) (hy : YieldsIf P ops S oi v a) (hS : S w) (h : anyG P md ops Q S T n (L.setIfInBounds i true) (a.put oi.dst v) w) : anyG P md ops Q S T (n + 1) L a w := by
  simp only [Bool.and_eq_true, Bool.not_eq_true', List.all_eq_true] at hT hL hM
  refine anyG.ahead2 (M := M) hi (Region.noSelect_spec hs) hQ (by simpa using hT.1) (fun k hk o ho => ?_) (fun k hk o ho => ?_) n L a w (Region.free_spec hi hf) (fun k hk => hL k (List.mem_append_left _ hk)) (fun k hk => hL k (List.mem_append_right _ hk)) (by simpa using hr) hy hS h
  · have h1 := hM k hk
    rw [ho] at h1
    obtain ⟨e, he, hb⟩ := Array.any_eq_true'.1 h1
    simp only [Bool.and_eq_true, Bool.or_eq_true, beq_iff_eq, List.contains_iff_mem] at hb
    exact ⟨e, he, hb.1, hb.2⟩
  · have h1 := hT.2 k hk
    rw [ho] at h1
    obtain ⟨e, he, hb⟩ := Array.any_eq_true'.1 h1
    simp only [Bool.and_eq_true, Bool.or_eq_true, beq_iff_eq, List.contains_iff_mem] at hb
    exact ⟨e, he, hb.1, hb.2⟩
end

end Go.Proofs.Ytjmelhmjcbliaaa
