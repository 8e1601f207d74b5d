/-
  KeyOrder's question of two lists, which comes first; fronts of lists copied into new memory.
-/
import Derived.Test.YtpedcpehomkikaaDoorKeyF0
import Derived.Test.YtpedcpehomkikaaDoorKeyBack
import Derived.Test.YtpedcpehomkikaaDoorValR0
import Derived.StillTailTactics
import Derived.ArgAppend
import Derived.Deep.RegionLaw
namespace Go.Proofs.YtpedcpehomkikaaDoor
open Go Go.RowKit
set_option linter.unusedVariables false
set_option linter.unusedSimpArgs false
set_option maxRecDepth 100000

theorem lord_cons (a b : Vl) (x y : List Vl) (d : Bool) (ds : List Bool) : lord (a :: x) (b :: y) (d :: ds) = if vcmp a b ≠ 0 then (if d = true then -(vcmp a b) else vcmp a b) else lord x y ds := rfl
theorem lord_step {xs ys : List Vl} {ds : List Bool} {k : Nat} (hx : k < xs.length) (hy : k < ys.length) (hd : k < ds.length) :
    lord (xs.drop k) (ys.drop k) (ds.drop k) = if vcmp xs[k] ys[k] ≠ 0 then (if ds[k] = true then -(vcmp xs[k] ys[k]) else vcmp xs[k] ys[k]) else lord (xs.drop (k + 1)) (ys.drop (k + 1)) (ds.drop (k + 1)) := by
  rw [List.drop_eq_getElem_cons hx, List.drop_eq_getElem_cons hy, List.drop_eq_getElem_cons hd, lord_cons]
theorem lord_range : ∀ (x y : List Vl) (ds : List Bool), lord x y ds = -1 ∨ lord x y ds = 0 ∨ lord x y ds = 1
  | a :: x, b :: y, d :: ds => by
    rw [lord_cons]
    have := vcmp_range a b
    split
    · split <;> omega
    · exact lord_range x y ds
  | [], _, _ => by simp [lord]
  | _ :: _, [], _ => by simp [lord]
  | _ :: _, _ :: _, [] => by simp [lord]

def OrderPost (xs ys : List Vl) (ds : List Bool) (w : World) (e : Ending) (w' : World) : Prop := e = .returned (.int .i64 (lord xs ys ds)) ∧ Only (fun _ => False) w w'
set_option maxHeartbeats 4000000 in
theorem order_any (xo yo dao : Option Addr) (n xc yc dc : Nat) (xs ys : List Vv) (ds : List Bool) (w : World) (hx : SlV w xo xs) (hy : SlV w yo ys) (hd : SlBo w dao ds) (hn : n = xs.length) (hn2 : n = ys.length) (hm : n = ds.length) (hn47 : n ≤ 140737488355328) :
    Calls Tryd.prog 15 #[.slice xo n xc, .slice yo n yc, .slice dao n dc] w fun e w' => OrderPost (xs.map Vv.vl) (ys.map Vv.vl) ds w e w' := by
  have HX := Lib.hid hx
  have HY := Lib.hid hy
  have HD := Lib.hid hd
  have HN := Lib.hid hn
  have HN2 := Lib.hid hn2
  have HM := Lib.hid hm
  obtain ⟨Z, hZ⟩ : ∃ Z, lord (xs.map Vv.vl) (ys.map Vv.vl) ds = Z := ⟨_, rfl⟩
  have HZ := Lib.hid hZ
  unfold OrderPost
  rw [hZ]
  clear hx hy hd hn hn2 hm hZ
  go_enter Tryd.func15, Tryd.ntmps15
  go_wp2_with fail
  go_loopw [7, 8] (fun i _ wr => ∃ k : Nat, k ≤ n ∧ i = .int .i64 (k : Int) ∧ Hid (lord ((xs.map Vv.vl).drop k) ((ys.map Vv.vl).drop k) (ds.drop k) = Z) ∧ Hid (Only (fun _ => False) w wr)) (fun i _ _ => n - (intOf i).toNat)
  case atStart => exact ⟨0, Nat.zero_le _, rfl, HZ, Lib.hid (Only.refl _ _)⟩
  case round =>
    obtain ⟨k, hk, rfl, HS, HO⟩ := hrel
    by_cases hlt : k < n
    · have HKX : Hid (k < xs.length) := Lib.hid (by rw [← HN.out]; exact hlt)
      have HKY : Hid (k < ys.length) := Lib.hid (by rw [← HN2.out]; exact hlt)
      have HKD : Hid (k < ds.length) := Lib.hid (by rw [← HM.out]; exact hlt)
      have HKN := Lib.hid hlt
      obtain ⟨v, hve⟩ : ∃ v, xs.getD k default = v := ⟨_, rfl⟩
      obtain ⟨u, hue⟩ : ∃ u, ys.getD k default = u := ⟨_, rfl⟩
      obtain ⟨d, hde⟩ : ∃ d, ds.getD k false = d := ⟨_, rfl⟩
      have hst := lord_step (xs := xs.map Vv.vl) (ys := ys.map Vv.vl) (ds := ds) (k := k) (by rw [List.length_map]; exact HKX.out) (by rw [List.length_map]; exact HKY.out) HKD.out
      have x1 : (xs.map Vv.vl)[k]'(by rw [List.length_map]; exact HKX.out) = v.vl := by
        have := HKX.out
        rw [← hve]
        simp [this]
      have x2 : (ys.map Vv.vl)[k]'(by rw [List.length_map]; exact HKY.out) = u.vl := by
        have := HKY.out
        rw [← hue]
        simp [this]
      have x3 : ds[k]'HKD.out = d := by
        have := HKD.out
        rw [← hde]
        simp [this]
      rw [x1, x2, x3] at hst
      obtain ⟨ga, off, rfl, hva⟩ := (HX.out.keep HO.out) k HKX.out
      obtain ⟨gb, off2, rfl, hvb⟩ := (HY.out.keep HO.out) k HKY.out
      obtain ⟨gd, off3, rfl, hcd⟩ := HD.out k HKD.out
      rw [hve] at hva
      rw [hue] at hvb
      rw [hde] at hcd
      obtain ⟨c, hc⟩ : ∃ c, vcmp v.vl u.vl = c := ⟨_, rfl⟩
      rw [hc] at hst
      have HST := Lib.hid hst
      have hrg := vcmp_range v.vl u.vl
      rw [hc] at hrg
      have HRG := Lib.hid hrg
      have HCD : Hid (∀ W, Only (fun _ => False) w W → W.cell? ⟨gd, off3 + k, none⟩ = some (.bool d)) := Lib.hid (fun W h => h.cellq hcd)
      obtain ⟨y0, y1, y2, hu1⟩ := hva
      obtain ⟨z0, z1, z2, hu2⟩ := hvb
      have HCM : Hid (∀ W, Calls Tryd.prog 34 #[vlv v.K v.N v.S, vlv u.K u.N u.S] W fun e w' => e = .returned (.int .i64 c) ∧ Below W.heap.size W w') := Lib.hid (fun W => by
        have h := cmp_any (K := v.K) (s := v.S) (L := u.K) (t := u.S) hu1 hu2 W
        rw [show vcmp (vl v.K v.N v.S) (vl u.K u.N u.S) = c from hc] at h
        exact h)
      have hltI : (k : Int) < (n : Int) := by omega
      have hk0 : (0 : Int) ≤ (k : Int) := by omega
      clear hve hue hde hst x1 x2 x3 hu1 hu2 hcd hc hrg
      go_wp2_with fail
      go_still_tail 8, (by kernel_rfl)
      change wpList _ _ _ _ _ wr.drew
      clear y0 y1 y2 z0 z1 z2
      have HO2 := Lib.hid HO.out.drew
      clear HO
      go_wp2_with fail
      refine (HCM.out _).mono ?_
      rintro e w4 ⟨rfl, hb4⟩
      have HO4 := Lib.hid (HO2.out.trans (below_quiet hb4) (fun _ _ h => h))
      have hcd := HCD.out w4 HO4.out
      clear hb4 HO2
      have hw3 : c = -1 ∨ c = 0 ∨ c = 1 := HRG.out
      rcases hw3 with rfl | rfl | rfl <;> cases d
      case inr.inl.false =>
        have hS2 : Hid (lord ((xs.map Vv.vl).drop (k + 1)) ((ys.map Vv.vl).drop (k + 1)) (ds.drop (k + 1)) = Z) := Lib.hid (by rw [← HS.out, HST.out]; rfl)
        go_wp2_with fail
        go_roundw
        case rel => exact ⟨k + 1, HKN.out, by go_num, hS2, HO4⟩
        case measure => have := HKN.out; simp [intOf]; omega
      case inr.inl.true =>
        have hS2 : Hid (lord ((xs.map Vv.vl).drop (k + 1)) ((ys.map Vv.vl).drop (k + 1)) (ds.drop (k + 1)) = Z) := Lib.hid (by rw [← HS.out, HST.out]; rfl)
        go_wp2_with fail
        go_roundw
        case rel => exact ⟨k + 1, HKN.out, by go_num, hS2, HO4⟩
        case measure => have := HKN.out; simp [intOf]; omega
      all_goals
        have hE := HS.out
        rw [HST.out] at hE
        have HE := Lib.hid hE
        clear hE
        go_wp2_with fail
        go_ret
        exact ⟨by rw [← HE.out]; rfl, HO4.out⟩
    · obtain rfl : k = n := by omega
      have hltI : ¬ (k : Int) < (k : Int) := by omega
      have HE : Hid ((0 : Int) = Z) := Lib.hid (by
        rw [← HS.out, List.drop_of_length_le (by rw [List.length_map, ← HN.out]; exact Nat.le_refl _)]
        rfl)
      go_wp2_with fail
      go_ret
      exact ⟨by rw [← HE.out]; rfl, HO.out⟩

/-! ### Copies of fronts -/
theorem run_append_zero (t ty e : TypeId) (i : TypeInfo) (ht : Tryd.prog.underlying t = some (.slice e)) (hi : Tryd.prog.info? e = some i) (b : Addr) (w : World) :
    (Builtin.append_ #[t, t] ty #[.slice (some b) 0 0, .slice none 0 0]).run Tryd.prog w = .ok (.slice (some b) 0 0) w := by
  simp [Builtin.append_, run_underlying ht, sizeOf, typeInfo, hi, Builtin.lenOf, Builtin.firstCells, storeCells]
/-- An append onto an empty slice in a region that draws its order: what is appended lies in new memory. -/
theorem step_fresh {ops : Array Oper} {o : Oper} {a : Act} {w : World} {K : Act → World → Prop} {Q : Exit → Act → World → Prop} {E : Prop} (hgd : o.guard = none) (s x : Operand) (t : TypeId)
    (ho : o.op = .call { callee := .builtin .append, args := #[s, x], argTypes := #[t, t] })
    (e : TypeId) (i : TypeInfo) (z : Value) (size bytes : Nat) (ht : Tryd.prog.underlying t = some (.slice e)) (hi : Tryd.prog.info? e = some i) (hz : i.zero = some z)
    (hsize : i.size = size) (hby : i.bytes = bytes) (hzs : z.cells.size = size) (hsz : 0 < size)
    (b : Nat) (hs : a.eval s = .slice (some ⟨b, 0, none⟩) 0 0) (ao : Option Addr) (m c : Nat) (news : List Value) (hx : a.eval x = .slice ao m c) (hnone : ao = none → m = 0 ∧ c = 0)
    (hl : news.length = m * size) (hnews : ∀ ad, ao = some ad → ∀ j u, news[j]? = some u → w.cell? (ad.add j) = some u) (h1 : ∀ u ∈ news, u.oneCell' = true) (hbytes : m * bytes ≤ 140737488355328) (hm : m ≤ 140737488355328)
    (h : ∀ g cap w', (∀ j u, news[j]? = some u → w'.cell? ⟨g, j, none⟩ = some u) → Only (fun _ => False) w w' → K (a.put o.dst (.slice (some ⟨g, 0, none⟩) m cap)) w') :
    if Region.wanted o (yielded ops a.tmps) = true then Oper.wp Tryd.prog o a w K Q else E := by
  have hw : Region.wanted o (yielded ops a.tmps) = true := by simp [Region.wanted, hgd]
  rw [if_pos hw]
  by_cases h0 : m = 0
  · subst h0
    have hn0 : news = [] := List.eq_nil_of_length_eq_zero (by omega)
    subst hn0
    cases ao with
    | none =>
      obtain ⟨_, rfl⟩ := hnone rfl
      have hrun := run_append_zero t o.type e i ht hi ⟨b, 0, none⟩ w
      unfold Oper.wp
      simp [execOp, ho, resolve, invoke, builtin, hs, hx, hrun, Result.andThen]
      exact h b 0 w (fun j u hj => by simp at hj) (Only.refl _ w)
    | some ad =>
      have := step_append_room (P := Tryd.prog) (ops := ops) (o := o) (a := a) (w := w) (K := K) (Q := Q) (E := E) hgd s x t ho e i size ht hi hsize b 0 0 0 hs ad 0 c [] hx (by simp) (fun j u hj => by simp at hj) h1 (Nat.le_refl _) (fun j hj => by simp at hj) ?_
      · rwa [if_pos hw] at this
      · exact h b 0 w (fun j u hj => by simp at hj) (Only.refl _ w)
  · cases ao with
    | none => exact absurd (hnone rfl).1 h0
    | some ad =>
      obtain ⟨v', w', hrun, hown, hg⟩ := run_append_arg_grows (P := Tryd.prog) w t o.type e i z size bytes ht hi hz hsize hby hzs hsz ⟨b, 0, none⟩ 0 0 [] (by simp) (fun j u hj => by simp at hj) ad m c news hl (hnews ad rfl) (by omega) (by unfold maxLen; omega) (by rw [Nat.zero_add]; exact hbytes)
      rw [Nat.zero_add, List.nil_append] at hown
      have hown2 := hown
      rcases hown2.2 with ⟨rfl, h0'⟩ | ⟨g, cap, cur, rfl, _, hgc, _⟩
      · exact absurd h0' h0
      · have hk : K (a.put o.dst (.slice (some ⟨g, 0, none⟩) m cap)) w' := h g cap w' (fun j u hj => by
          have := hown.cellAt j (by rw [← hl]; exact (List.getElem?_eq_some_iff.1 hj).1)
          rw [this]
          exact hj) ((Only.refl _ w).grown hg (fun k _ e => by cases e))
        unfold Oper.wp
        simp [execOp, ho, resolve, invoke, builtin, hs, hx, hrun, Result.andThen]
        exact hk

theorem slv_of {w : World} {g : Nat} {vs : List Vv} (hU : ∀ v ∈ vs, U64 v.N) (h : ∀ j u, (vcells vs)[j]? = some u → w.cell? ⟨g, j, none⟩ = some u) : SlV w (some ⟨g, 0, none⟩) vs := fun j hj => by
  obtain ⟨a0, a1, a2⟩ := vcells_at vs j hj
  refine ⟨g, 0, rfl, ?_, ?_, ?_, hU _ (by simp [hj])⟩
  · rw [Nat.zero_add]; exact h _ _ a0
  · rw [Nat.zero_add]; exact h _ _ a1
  · rw [Nat.zero_add]; exact h _ _ a2
theorem vcells_of {w : World} {ao : Option Addr} {vs : List Vv} (h : SlV w ao vs) : ∀ ad, ao = some ad → ∀ j u, (vcells vs)[j]? = some u → w.cell? (ad.add j) = some u := by
  rintro ad rfl j u hj
  have hl := (List.getElem?_eq_some_iff.1 hj).1
  rw [vcells_length] at hl
  obtain ⟨g, off, e, hv⟩ := h (j / 3) (by omega)
  simp only [Option.some.injEq] at e
  subst e
  obtain ⟨a0, a1, a2⟩ := vcells_at vs (j / 3) (by omega)
  rw [add_lit]
  have hr : j % 3 = 0 ∨ j % 3 = 1 ∨ j % 3 = 2 := by omega
  rcases hr with hr | hr | hr
  · have e : j = j / 3 * 3 := by omega
    rw [e, a0] at hj
    rw [e, ← Option.some.inj hj]
    exact hv.k
  · have e : j = j / 3 * 3 + 1 := by omega
    rw [e, a1] at hj
    rw [e, ← Option.some.inj hj]
    exact hv.n
  · have e : j = j / 3 * 3 + 2 := by omega
    rw [e, a2] at hj
    rw [e, ← Option.some.inj hj]
    exact hv.s
def blv (ds : List Bool) : List Value := ds.map Value.bool
theorem blv_one (ds : List Bool) : ∀ u ∈ blv ds, u.oneCell' = true := by
  intro u hu
  simp only [blv, List.mem_map] at hu
  obtain ⟨b, _, rfl⟩ := hu
  rfl
theorem slbo_of {w : World} {g : Nat} {ds : List Bool} (h : ∀ j u, (blv ds)[j]? = some u → w.cell? ⟨g, j, none⟩ = some u) : SlBo w (some ⟨g, 0, none⟩) ds := fun j hj => by
  refine ⟨g, 0, rfl, ?_⟩
  rw [Nat.zero_add]
  exact h _ _ (by simp [blv, hj])
theorem blv_of {w : World} {ao : Option Addr} {ds : List Bool} (h : SlBo w ao ds) : ∀ ad, ao = some ad → ∀ j u, (blv ds)[j]? = some u → w.cell? (ad.add j) = some u := by
  rintro ad rfl j u hj
  have hl := (List.getElem?_eq_some_iff.1 hj).1
  simp only [blv, List.length_map] at hl
  obtain ⟨g, off, e, hv⟩ := h j hl
  simp only [Option.some.injEq] at e
  subst e
  rw [add_lit]
  have : (blv ds)[j]? = some (.bool (ds.getD j false)) := by simp [blv, hl]
  rw [this] at hj
  rw [← Option.some.inj hj]
  exact hv
theorem SlV.take {w : World} {ao : Option Addr} {vs : List Vv} (h : SlV w ao vs) (q : Nat) : SlV w ao (vs.take q) := fun j hj => by
  rw [List.length_take] at hj
  obtain ⟨g, off, e, hv⟩ := h j (by omega)
  refine ⟨g, off, e, ?_⟩
  have : (vs.take q).getD j default = vs.getD j default := by
    simp only [List.getD_eq_getElem?_getD, List.getElem?_take]
    rw [if_pos (by omega)]
  rwa [this]
theorem SlBo.take {w : World} {ao : Option Addr} {ds : List Bool} (h : SlBo w ao ds) (q : Nat) : SlBo w ao (ds.take q) := fun j hj => by
  rw [List.length_take] at hj
  obtain ⟨g, off, e, hv⟩ := h j (by omega)
  refine ⟨g, off, e, ?_⟩
  have : (ds.take q).getD j false = ds.getD j false := by
    simp only [List.getD_eq_getElem?_getD, List.getElem?_take]
    rw [if_pos (by omega)]
  rwa [this]

/-! ### The front (pure) -/
theorem front_enc {l : List Vl} {ds : List Bool} {s : List UInt8} (h : (s, (0 : Int)) = encE l ds) (q : Nat) : encE (l.take q) (ds.take q) = (keyL (l.take q) (ds.take q), 0) ∧ keyL (l.take q) (ds.take q) <+: s := by
  obtain ⟨h1, h2, h3, h4, h5⟩ := enc_small h
  have hp := keyL_front q l ds
  refine ⟨encE_of (by simp [h2]) ?_ (by have := hp.length_le; rw [← h3] at this; omega), by rw [h3]; exact hp⟩
  rw [List.all_eq_true] at h5 ⊢
  exact fun v hv => h5 v (List.mem_of_mem_take hv)
/-- How two keys stand, as Go asks it. -/
theorem key_asks {a b : List Vl} {ds : List Bool} {s t : List UInt8} {c : Int} (h : alike a b) (hd : ds.length = a.length) (ha : allGood a) (hb : allGood b) (hs : s = keyL a ds) (ht : t = keyL b ds) (hc : lord a b ds = c) :
    (c = -1 ∧ Op.bytesLess s t = true ∧ (s == t) = false) ∨ (c = 0 ∧ s = t) ∨ (c = 1 ∧ Op.bytesLess s t = false ∧ Op.bytesLess t s = true ∧ (s == t) = false) := by
  have hb2 := key_order h hd ha hb
  rw [← hs, ← ht, hc] at hb2
  have e1 := less_bcmp s t
  have e2 := less_bcmp t s
  have e3 := eq_bcmp s t
  have e4 := bcmp_neg s t
  rcases bcmp_range s t with h | h | h
  · left
    rw [h] at hb2 e1 e3
    exact ⟨hb2.symm, e1, e3⟩
  · right; left
    exact ⟨by omega, (bcmp_eq s t).1 h⟩
  · right; right
    have h5 : bcmp t s = -1 := by omega
    rw [h] at hb2 e1 e3
    rw [h5] at e2
    exact ⟨hb2.symm, e1, e2, e3⟩

end Go.Proofs.YtpedcpehomkikaaDoor
