/-
  Regions whose last operations (stores) may write what was loaded: a condition on the world is held till the first of these, and asked for no more behind it.
-/
import Derived.OrdersHeld
import Derived.Deep.RegionHeld
namespace Go.Proofs.Ytjmelhmjcbliaaa
open Go
set_option linter.unusedVariables false
set_option linter.unusedSimpArgs false
set_option maxRecDepth 100000

section
variable {P : Program} {ops : Array Oper} {Q : Exit → Act → World → Prop} {md : Region.Mode} {S : World → Prop} {T : List Nat}
/-- None of the operations T has come up. -/
def Late (T : List Nat) (L : Array Bool) : Prop := ∀ k ∈ T, L.getD k true = false
/-- Whatever comes up next; S holds behind it, as long as none of T has come up. -/
def anyG (P : Program) (md : Region.Mode) (ops : Array Oper) (Q : Exit → Act → World → Prop) (S : World → Prop) (T : List Nat) : Nat → Array Bool → Act → World → Prop
  | 0 => fun L a w => Region.ready md ops L = [] ∧ Q .normal a w
  | n + 1 => fun L a w => (Region.ready md ops L = [] → Q .normal a w) ∧ ∀ i, i ∈ Region.ready md ops L → wpOp P ops Q i (fun b v => (Late T (L.setIfInBounds i true) → S v) ∧ anyG P md ops Q S T n (L.setIfInBounds i true) b v) a w
theorem anyG.plain : ∀ {n : Nat} {L : Array Bool} {a : Act} {w : World}, anyG P md ops Q S T n L a w → wpAny P md ops Q n L a w
  | 0, _, _, _, h => h
  | n + 1, _, _, _, h => ⟨h.1, fun i hi => wpOp_mono (fun _ _ k => k.2.plain) (h.2 i hi)⟩
theorem listed_no {L : Array Bool} {i : Nat} (h1 : L.getD i false = true) (h2 : L.getD i true = false) : False := by
  by_cases hlt : i < L.size
  · simp [hlt] at h1 h2
    rw [h1] at h2
    cases h2
  · simp [Array.getElem?_eq_none (Nat.le_of_not_lt hlt)] at h1
/-- An operation that yields in every world with S, and for which each of T waits (by itself, or by one of M that waits for it), may be taken ahead of the others. -/
theorem anyG.ahead {M : List Nat} {i : Nat} {oi : Oper} {v : Value} (hi : ops[i]? = some oi) (hsel : ∀ (j : Nat) (o : Oper) cs b, ops[j]? = some o → o.op ≠ .select cs b)
    (hQ : ∀ c a w, Q (.panic c) (a.put oi.dst v) w → Q (.panic c) a w) (hiT : i ∉ T) (hM : ∀ k ∈ M, ∀ o, ops[k]? = some o → ∃ e ∈ o.after, Region.binds md e = true ∧ e.on = i) (hT : ∀ k ∈ T, ∀ o, ops[k]? = some o → ∃ e ∈ o.after, Region.binds md e = true ∧ (e.on = i ∨ e.on ∈ M)) (n : Nat) :
    ∀ (L : Array Bool) (a : Act) (w : World), (∀ j oj, ops[j]? = some oj → j ≠ i → L.getD j true = false → (∀ e ∈ oj.after, Region.binds md e = true → e.on ≠ i) → oi.apart ops oj = true) →
      Late T L → Late M L → i ∈ Region.ready md ops L → YieldsIf P ops S oi v a → S w → anyG P md ops Q S T n (L.setIfInBounds i true) (a.put oi.dst v) w → anyG P md ops Q S T (n + 1) L a w := by
  induction n with
  | zero =>
    intro L a w hfr hL hLM hr hy hS H
    constructor
    · intro h
      rw [h] at hr
      cases hr
    · intro j hj
      by_cases e : j = i
      · subst e
        exact hy.wpOp hi hS ⟨fun _ => hS, H⟩
      · have h := ready_mono hj e
        rw [H.1] at h
        cases h
  | succ n ih =>
    intro L a w hfr hL hLM hr hy hS H
    constructor
    · intro h
      rw [h] at hr
      cases hr
    · intro j hj
      by_cases e : j = i
      · subst e
        exact hy.wpOp hi hS ⟨fun _ => hS, H⟩
      · obtain ⟨hun, oj, hoj, hall⟩ := mem_ready.1 hj
        -- what is ready does not wait for i, which has not come up
        have hno : ∀ d ∈ oj.after, Region.binds md d = true → d.on ≠ i := by
          intro d hd hb hon
          have h1 := hall d hd hb
          rw [hon] at h1
          exact listed_no h1 (mem_ready.1 hr).1
        have hjM : j ∉ M := fun hm => by
          obtain ⟨d, hd, hb, hon⟩ := hM j hm oj hoj
          exact hno d hd hb hon
        have hMj : Late M (L.setIfInBounds j true) := fun k hk => by
          rw [getD_set_ne true (fun h => hjM (by rw [h]; exact hk))]
          exact hLM k hk
        have hjT : j ∉ T := fun hm => by
          obtain ⟨d, hd, hb, hon | hon⟩ := hT j hm oj hoj
          · exact hno d hd hb hon
          · exact listed_no (hall d hd hb) (hLM d.on hon)
        have hLj : Late T (L.setIfInBounds j true) := fun k hk => by
          rw [getD_set_ne true (fun h => hjT (by rw [h]; exact hk))]
          exact hL k hk
        have hLij : Late T ((L.setIfInBounds i true).setIfInBounds j true) := fun k hk => by
          rw [getD_set_ne true (fun h => hjT (by rw [h]; exact hk)), getD_set_ne true (fun h => hiT (by rw [h]; exact hk))]
          exact hL k hk
        refine wpOp_mono ?_ (wpOp_putIf hoj (hfr j oj hoj e hun hno) (fun cs b => hsel i oi cs b hi) (fun cs b => hsel j oj cs b hoj) hQ hy (H.2 j (ready_mono hj e)))
        rintro b v' ⟨hyb, hs, hg⟩
        refine ⟨fun _ => hs hLij, ih _ b v' ?_ hLj hMj (ready_mono hr (fun h => e h.symm)) hyb (hs hLij) ?_⟩
        · intro k ok hk hki hku hkn
          refine hfr k ok hk hki ?_ hkn
          by_cases h : j = k
          · subst h
            exact hun
          · rwa [getD_set_ne true h] at hku
        · rw [Array.setIfInBounds_comm _ _ e]
          exact hg
theorem anyG.take (M : List Nat) {i : Nat} {oi : Oper} {v : Value} {n : Nat} {L : Array Bool} {a : Act} {w : World} (hi : ops[i]? = some oi) (hs : Region.noSelect ops = true) (hf : Region.free md ops L i = true) (hr : (Region.ready md ops L).contains i = true)
    (hT : (!T.contains i && T.all fun k => (ops[k]?.map fun o => o.after.any fun e => Region.binds md e && (e.on == i || M.contains e.on)).getD true) = true) (hM : (M.all fun k => (ops[k]?.map fun o => o.after.any fun e => Region.binds md e && e.on == i).getD true) = true) (hL : ((T ++ M).all fun k => !L.getD k true) = true)
    (hQ : ∀ c a w, Q (.panic c) (a.put oi.dst v) w → Q (.panic c) a w) (hy : YieldsIf P ops S oi v a) (hS : S w) (h : anyG P md ops Q S T n (L.setIfInBounds i true) (a.put oi.dst v) w) : anyG P md ops Q S T (n + 1) L a w := by
  simp only [Bool.and_eq_true, Bool.not_eq_true', List.all_eq_true] at hT hL hM
  refine anyG.ahead (M := M) hi (Region.noSelect_spec hs) hQ (by simpa using hT.1) (fun k hk o ho => ?_) (fun k hk o ho => ?_) n L a w (Region.free_spec hi hf) (fun k hk => hL k (List.mem_append_left _ hk)) (fun k hk => hL k (List.mem_append_right _ hk)) (by simpa using hr) hy hS h
  · have h1 := hM k hk
    rw [ho] at h1
    obtain ⟨e, he, hb⟩ := Array.any_eq_true'.1 h1
    simp only [Bool.and_eq_true, beq_iff_eq] at hb
    exact ⟨e, he, hb.1, hb.2⟩
  · have h1 := hT.2 k hk
    rw [ho] at h1
    obtain ⟨e, he, hb⟩ := Array.any_eq_true'.1 h1
    simp only [Bool.and_eq_true, Bool.or_eq_true, beq_iff_eq, List.contains_iff_mem] at hb
    exact ⟨e, he, hb.1, hb.2⟩
/-- Each of the operations rs comes up next. -/
def AllG (P : Program) (md : Region.Mode) (ops : Array Oper) (Q : Exit → Act → World → Prop) (S : World → Prop) (T : List Nat) (n : Nat) (L : Array Bool) (a : Act) (w : World) (rs : List Nat) : Prop :=
  ∀ i, i ∈ rs → wpOp P ops Q i (fun b v => (Late T (L.setIfInBounds i true) → S v) ∧ anyG P md ops Q S T n (L.setIfInBounds i true) b v) a w
variable {n : Nat} {L : Array Bool} {a : Act} {w : World}
theorem AllG.nil : AllG P md ops Q S T n L a w [] := fun _ h => absurd h (by simp)
theorem AllG.early {i : Nat} {o : Oper} {rs : List Nat} (ho : ops[i]? = some o)
    (h : ∀ K : Act → World → Prop, Shut (∀ b v, S v → (S v → anyG P md ops Q S T n (L.setIfInBounds i true) b v) → K b v) → if Region.wanted o (yielded ops a.tmps) = true then Oper.wp P o a w K Q else K (a.put o.dst undef) w)
    (hs : AllG P md ops Q S T n L a w rs) : AllG P md ops Q S T n L a w (i :: rs) := by
  intro j hj
  rcases List.mem_cons.1 hj with rfl | hj
  · exact wpOp_step ho fun K hK => h K fun b v hv hg => hK b v ⟨fun _ => hv, hg hv⟩
  · exact hs j hj
theorem AllG.late {i : Nat} {o : Oper} {rs : List Nat} (ho : ops[i]? = some o) (hT : T.contains i = true) (hlt : i < L.size)
    (h : ∀ K : Act → World → Prop, Shut (∀ b v, anyG P md ops Q S T n (L.setIfInBounds i true) b v → K b v) → if Region.wanted o (yielded ops a.tmps) = true then Oper.wp P o a w K Q else K (a.put o.dst undef) w)
    (hs : AllG P md ops Q S T n L a w rs) : AllG P md ops Q S T n L a w (i :: rs) := by
  intro j hj
  rcases List.mem_cons.1 hj with rfl | hj
  · refine wpOp_step ho fun K hK => h K fun b v hg => hK b v ⟨fun hl => ?_, hg⟩
    have := hl j (by simpa using hT)
    simp [hlt] at this
  · exact hs j hj
theorem anyG.ready {rs : List Nat} (hr : Region.ready md ops L = rs) (hne : rs ≠ []) (h : AllG P md ops Q S T n L a w rs) : anyG P md ops Q S T (n + 1) L a w :=
  ⟨fun e => absurd (hr.symm.trans e) hne, fun i hi => h i (hr ▸ hi)⟩
theorem anyG.done (hr : Region.ready md ops L = []) (h : Q .normal a w) : anyG P md ops Q S T n L a w := by
  cases n with
  | zero => exact ⟨hr, h⟩
  | succ n => exact ⟨fun _ => h, fun i hi => absurd hi (by rw [hr]; simp)⟩
theorem anyG.start {id : Nat} (S : World → Prop) (T : List Nat) (hm : P.follows .mixedOrders = true) (hS : S w.drew) (h : S w.drew → anyG P .any ops Q S T ops.size (Array.replicate ops.size false) a w.drew) : (Code.region id ops true).wp P Q a w :=
  wp_region_any hm (h hS).plain
end

end Go.Proofs.Ytjmelhmjcbliaaa
