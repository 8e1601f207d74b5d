/-
  The reference's back: Save. (Written by wip/tools/genpob3.py.)
-/
import Derived.Test.YtjmelhmjcbliaaaPoB2
import Derived.Test.YtjmelhmjcbliaaaOrdG2
namespace Go.Proofs.Ytjmelhmjcbliaaa
open Go Go.RowKit
set_option linter.unusedVariables false
set_option linter.unusedSimpArgs false
set_option maxRecDepth 100000

theorem step_appendG {α : Type} [Cel α] {t e : TypeId} {bytes : Nat} (hT : ElT α t e bytes) {ops : Array Oper} {o : Oper} {a : Act} {K : Act → World → Prop} {Q : Exit → Act → World → Prop} {E : Prop} {w0 wx : World} {v : Value} {xs : List α} {J : Res} [Stab J] (h : Own w0 wx (Sep (RowG e v xs) J)) (m : α) (c : Nat)
    (hlen : (xs.length + 1) * bytes ≤ 140737488351232) (h63 : xs.length + 1 ≤ 140737488351232) (hgd : o.guard = none) (s x : Operand) (ho : o.op = .call { callee := .builtin .append, args := #[s, x], argTypes := #[t, t] })
    (hs : a.eval s = v) (cs : Array Value) (hcs : cs.toList = Cel.cells m) (hx : a.eval x = .slice (some ⟨wx.heap.size, 0, none⟩) 1 c)
    (k : ∀ g cap n w', Hid (n = (xs ++ [m]).length) → Hid (Own w0 w' (Sep (RowG e (.slice (some ⟨g, 0, none⟩) n cap) (xs ++ [m])) J)) → K (a.put o.dst (.slice (some ⟨g, 0, none⟩) n cap)) w') :
    if Region.wanted o (yielded ops a.tmps) = true then Oper.wp Try.prog o a (wx.alloc (.cells cs e)) K Q else E :=
  step_appG hT h m c hlen h63 hgd s x ho hs cs hcs hx fun g cap n w' h1 _ h2 => k g cap n w' h1 h2
theorem HdsOk.add {hs : List Hd} {bs : List (List UInt8)} {w : World} (h : HdsOk hs bs w) (hn : hs.length = bs.length) {ao : Option Addr} {c : Nat} {x : List UInt8} (hx : SlC w (.slice ao x.length c) x) (hl : x.length ≤ 140737488351232) : HdsOk (hs ++ [(⟨ao, x.length, c⟩ : Hd)]) (bs ++ [x]) w := fun j hj => by
  rw [List.length_append, List.length_singleton] at hj
  by_cases e : j < bs.length
  · have h1 := h j e
    rw [show (hs ++ [(⟨ao, x.length, c⟩ : Hd)]).getD j default = hs.getD j default by simp [List.getD_eq_getElem?_getD, List.getElem?_append_left (show j < hs.length by omega)], show (bs ++ [x]).getD j [] = bs.getD j [] by simp [List.getD_eq_getElem?_getD, List.getElem?_append_left e]]
    exact h1
  · obtain rfl : j = bs.length := by omega
    rw [show (hs ++ [(⟨ao, x.length, c⟩ : Hd)]).getD bs.length default = (⟨ao, x.length, c⟩ : Hd) by rw [← hn]; simp [List.getD_eq_getElem?_getD], show (bs ++ [x]).getD bs.length [] = x by simp [List.getD_eq_getElem?_getD]]
    exact ⟨rfl, hx, hl⟩
theorem HdsOk.set {hs : List Hd} {bs : List (List UInt8)} {w : World} (h : HdsOk hs bs w) (hn : hs.length = bs.length) {i : Nat} (hi : i < bs.length) {ao : Option Addr} {c : Nat} {x : List UInt8} (hx : SlC w (.slice ao x.length c) x) (hl : x.length ≤ 140737488351232) : HdsOk (hs.set i (⟨ao, x.length, c⟩ : Hd)) (bs.set i x) w := fun j hj => by
  rw [List.length_set] at hj
  by_cases e : i = j
  · subst e
    rw [getD_set_same (by omega), getD_set_same hi]
    exact ⟨rfl, hx, hl⟩
  · have h1 := h j hj
    rw [show (hs.set i (⟨ao, x.length, c⟩ : Hd)).getD j default = hs.getD j default by simp [List.getD_eq_getElem?_getD, List.getElem?_set, e], show (bs.set i x).getD j [] = bs.getD j [] by simp [List.getD_eq_getElem?_getD, List.getElem?_set, e]]
    exact h1
theorem own_addr {α : Type} [Cel α] {w0 w : World} {e : TypeId} {ao : Option Addr} {n c : Nat} {l : List α} {J : Res} (h : Own w0 w (Sep (RowG e (.slice ao n c) l) J)) (hl : 0 < l.length) : ∃ g, ao = some ⟨g, 0, none⟩ := by
  rcases h.owns.2 with ⟨e, h0⟩ | ⟨g, cap, cur, e, _⟩
  · omega
  · simp only [Value.slice.injEq] at e
    exact ⟨g, e.1⟩
theorem own_cellG {α : Type} [Cel α] {w0 w : World} {e : TypeId} {g n c : Nat} {l : List α} {J : Res} (h : Own w0 w (Sep (RowG e (.slice (some ⟨g, 0, none⟩) n c) l) J)) {i : Nat} (hi : i < (cAll l).length) : w.cell? ⟨g, i, none⟩ = some ((cAll l)[i]) ∧ w.frozen? ⟨g, i, none⟩ = false := by
  have h1 := h.owns
  obtain ⟨ao, cap, e1⟩ := own_shapeN h1
  simp only [Value.slice.injEq] at e1
  obtain ⟨_, rfl, rfl⟩ := e1
  obtain ⟨g', e2, h3, h4, _⟩ := rowV_cell h1 (List.getElem?_eq_getElem hi)
  simp only [Option.some.injEq, Addr.mk.injEq, and_true] at e2
  rw [e2]
  exact ⟨h3, h4⟩
theorem cAll_set1 {α : Type} [Cel α] (h1 : Cel.size α = 1) {m : α} {v : Value} (hm : Cel.cells m = [v]) : ∀ (l : List α) (i : Nat), (cAll l).set i v = cAll (l.set i m)
  | [], i => by cases i <;> rfl
  | c :: l, 0 => by
    have hc := Cel.len c
    rw [h1] at hc
    obtain ⟨u, hu⟩ := List.length_eq_one_iff.1 hc
    show (Cel.cells c ++ cAll l).set 0 v = Cel.cells m ++ cAll l
    rw [hu, hm]
    rfl
  | c :: l, i + 1 => by
    have hc := Cel.len c
    rw [h1] at hc
    obtain ⟨u, hu⟩ := List.length_eq_one_iff.1 hc
    show (Cel.cells c ++ cAll l).set (i + 1) v = Cel.cells c ++ cAll (l.set i m)
    rw [hu, ← cAll_set1 h1 hm l i]
    rfl
theorem Own.setG {α : Type} [Cel α] (h1 : Cel.size α = 1) {w0 w : World} {e : TypeId} {g n c : Nat} {l : List α} {J : Res} [Stab J] (h : Own w0 w (Sep (RowG e (.slice (some ⟨g, 0, none⟩) n c) l) J)) {i : Nat} (hi : i < l.length) {m : α} {v : Value} (hm : Cel.cells m = [v]) :
    Own w0 (w.setCell ⟨g, i, none⟩ v) (Sep (RowG e (.slice (some ⟨g, 0, none⟩) n c) (l.set i m)) J) := by
  have h2 := h.owns
  obtain ⟨ao, cap, e1⟩ := own_shapeN h2
  simp only [Value.slice.injEq] at e1
  obtain ⟨_, rfl, rfl⟩ := e1
  have h3 := Own.rowSet (u := v) (j := i) (show Own w0 w (Sep (RowV e (Cel.size α) (.slice (some ⟨g, 0, none⟩) l.length c) l.length (cAll l)) J) from h) (by rw [cAll_length, h1]; omega)
  rw [cAll_set1 h1 hm] at h3
  show Own w0 _ (Sep (RowV e (Cel.size α) _ (l.set i m).length (cAll (l.set i m))) J)
  rw [List.length_set]
  exact h3
/-- A back in memory, its numbers' lengths named. -/
def BkP (bb : Nat) (hd : Hb) (hs : List Hd) (ni nb nh nq : Nat) (ids : List Int) (bs : List (List UInt8)) (asked : List Int) (f : Int) (J : Res) : Res :=
  Sep (Blk bb (.cells #[.slice hd.io ni hd.ic, .slice hd.ho nb hd.hc, .slice hd.qo nq hd.qc, .int .i64 f] 51)) (Sep (RowG 34 (.slice hd.io ni hd.ic) ids) (Sep (RowG 35 (.slice hd.ho nh hd.hc) hs) (Sep (RowG 34 (.slice hd.qo nq hd.qc) asked) (Sep (Fix (HdsOk hs bs)) J))))
/-- What Save leaves. -/
def SavePost (w0 w' : World) (bb : Nat) (b : Bk) (id : Int) (x : List UInt8) (J : Res) (e : Ending) : Prop := e = .returned (.int .i64 (if (b.save id x).2 then 0 else 3)) ∧ Own w0 w' (Sep (BkR bb (b.save id x).1) J)
theorem Bk.save_no {b : Bk} {id : Int} {x : List UInt8} (h : b.full = 0) : b.save id x = (b.ask (2 * id + 1), false) := by unfold Bk.save; rw [if_pos h]
theorem Bk.save_yes {b : Bk} {id : Int} {x : List UInt8} (h : ¬ b.full = 0) : b.save id x = (((b.ask (2 * id + 1)).less).take id x, true) := by unfold Bk.save; rw [if_neg h]
def lessF (f : Int) : Int := if 0 < f then f - 1 else f
theorem less_eq (b : Bk) : b.less = { b with full := lessF b.full } := by
  unfold Bk.less lessF
  split
  · rfl
  · rfl
theorem lessF_r {f : Int} (h0 : -9223372036854775808 ≤ f) (h1 : f < 9223372036854775808) : -9223372036854775808 ≤ lessF f ∧ lessF f < 9223372036854775808 := by unfold lessF; split <;> omega
theorem Own.shutBkP {w0 w : World} {bb : Nat} {hd : Hb} {hs : List Hd} {ni nb nh nq : Nat} {b : Bk} {ids : List Int} {bs : List (List UInt8)} {asked : List Int} {f : Int} {J : Res} (hb : b = ⟨ids, bs, asked, f⟩) (h : Own w0 w (BkP bb hd hs ni nb nh nq ids bs asked f J)) (hk : BkOk ⟨ids, bs, asked, f⟩ hd hs) (e1 : ids.length = ni) (e2 : bs.length = nb) (e3 : hs.length = nh) (e4 : asked.length = nq) :
    Own w0 w (Sep (BkR bb b) J) := by
  subst hb e1 e2 e3 e4
  exact Own.shutBk hk h
set_option maxHeartbeats 8000000 in
theorem bsave_any {w0 w : World} {bb : Nat} {b : Bk} {J : Res} [Stab J] (h : Own w0 w (Sep (BkR bb b) J)) (id : Int) (v : Value) (x : List UInt8) (hq : b.asked.length ≤ 1000000000) (hb : b.ids.length ≤ 1000000000) (hJ : ∀ W F, J W F → Only (fun _ => False) w0 W → SlC W v x) (hx : x.length ≤ 140737488351232) :
    Calls Try.prog 32 #[ptr bb, .int .u64 id, v] w (fun e w' => SavePost w0 w' bb b id x J e) := by
  obtain ⟨vo, vc, rfl⟩ : ∃ vo vc, v = .slice vo x.length vc := by
    obtain ⟨F, ⟨A, B, _, hB, _⟩, _, ho⟩ := h
    exact (hJ _ _ hB ho).shape
  have HJ := Lib.hid hJ
  have HX := Lib.hid hx
  obtain ⟨hd, hs, hk, h1⟩ := h.openBk
  have HK := Lib.hid hk
  have HB := Lib.hid hb
  have HQ := Lib.hid hq
  have HF0 := Lib.hid hk.f0
  have HF1 := Lib.hid hk.f1
  obtain ⟨xn, hxn⟩ : ∃ n, x.length = n := ⟨_, rfl⟩
  obtain ⟨nq, hnq⟩ : ∃ n, b.asked.length = n := ⟨_, rfl⟩
  obtain ⟨ni, hni⟩ : ∃ n, b.ids.length = n := ⟨_, rfl⟩
  obtain ⟨nb, hnb⟩ : ∃ n, b.bs.length = n := ⟨_, rfl⟩
  obtain ⟨nh, hnh⟩ : ∃ n, hs.length = n := ⟨_, rfl⟩
  have HNB : Hid (nh = nb) := Lib.hid (by rw [← hnh, ← hnb]; exact hk.n)
  have HNIB : Hid (ni = nb) := Lib.hid (by rw [← hni, ← hnb]; exact hk.m)
  unfold bkc at h1
  rw [hni, hnb, hnq, hnh] at h1
  rw [hxn]
  obtain ⟨⟨c0, c1, c2, c3⟩, f0, f1, f2, f3⟩ := h1.blk4c
  have HS := Lib.hid (h1.ac (by ac_rfl : _ = Sep (RowG 34 (.slice hd.qo nq hd.qc) b.asked) (Sep (Blk bb (.cells #[.slice hd.io ni hd.ic, .slice hd.ho nb hd.hc, .slice hd.qo nq hd.qc, .int .i64 b.full] 51)) (Sep (RowG 34 (.slice hd.io ni hd.ic) b.ids) (Sep (RowG 35 (.slice hd.ho nh hd.hc) hs) (Sep (Fix (HdsOk hs b.bs)) J))))))
  obtain ⟨q0, hq0⟩ : ∃ q, IntKind.u64.wrap (2 * id) = q := ⟨_, rfl⟩
  obtain ⟨q, hqe⟩ : ∃ q, IntKind.u64.wrap (q0 + 1) = q := ⟨_, rfl⟩
  have HQE : Hid (wu (2 * id + 1) = q) := Lib.hid (by rw [← hqe, ← hq0, wrapU, wrapU]; unfold wu; omega)
  have HXN := Lib.hid hxn
  have HNQ := Lib.hid hnq
  have HNI := Lib.hid hni
  have HNN := Lib.hid hnb
  have HNH := Lib.hid hnh
  obtain ⟨F, hF⟩ : ∃ f, b.full = f := ⟨_, rfl⟩
  rw [hF] at c3 HF0 HF1
  have HFF := Lib.hid hF
  clear h h1 hk hb hq hnq hni hnb hnh hJ hx hxn hF
  go_enter Try.func32, Try.ntmps32
  go_wp2_with (at_builtin; refine own_appendG elNu HS.out q 1 (by have := HQ.out; have := HNQ.out; omega) (by have := HQ.out; have := HNQ.out; omega) rfl _ _ rfl (by first | rfl | simp [Act.eval]) #[.int .u64 q] rfl (by first | rfl | simp [Act.eval]) ?_)
  intro g2 cap2 n2 w5 hn2 hown
  have HS1 := Lib.hid (hown.out.swap)
  obtain ⟨m, hm⟩ : ∃ m, nq + 1 = m := ⟨_, rfl⟩
  obtain rfl : n2 = m := by have h1 := hn2.out; have h2 := HNQ.out; (try simp only [List.length_append, List.length_singleton] at h1); omega
  have HM : Hid ((b.asked ++ [wu (2 * id + 1)]).length = n2) := Lib.hid (by have h2 := HNQ.out; rw [List.length_append, List.length_singleton]; omega)
  clear hown hn2 c0 c1 c2 c3 f0 f1 f2 f3 HS hm
  rw [HFF.out] at HS1
  obtain ⟨⟨c0, c1, c2, c3⟩, f0, f1, f2, f3⟩ := HS1.out.blk4c
  have HSH : Hid (Shp (some (⟨g2, 0, none⟩ : Addr)) n2 cap2) := Lib.hid (by
    have h1 := (shp_own (HS1.out.swap)).1
    have h2 := HM.out
    rw [List.length_append, List.length_singleton] at h1 h2
    rw [h2] at h1
    exact h1)
  go_upto_region 2 with fail
  have HS2 := Lib.hid (HS1.out.store 2 (.slice (some ⟨g2, 0, none⟩) n2 cap2))
  generalize World.setCell w5 _ _ = w6 at *
  clear HS1 c0 c1 c2 c3 f0 f1 f2 f3 hqe hq0
  obtain ⟨h2, hh2⟩ : ∃ h2 : Hb, h2 = { hd with qo := some ⟨g2, 0, none⟩, qc := cap2 } := ⟨_, rfl⟩
  have HH2 := Lib.hid hh2
  have HS3 : Hid (Own w0 w6 (BkP bb h2 hs ni nb nh n2 b.ids b.bs (b.asked ++ [wu (2 * id + 1)]) F J)) := Lib.hid (by
    unfold BkP
    rw [hh2, HQE.out]
    exact HS2.out.ac (by ac_rfl))
  have HK2 : Hid (BkOk ⟨b.ids, b.bs, b.asked ++ [wu (2 * id + 1)], F⟩ h2 hs) := Lib.hid (by
    rw [hh2]
    exact ⟨HK.out.n, HK.out.m, HK.out.si, HK.out.sb, by rw [HM.out]; exact HSH.out, HF0.out, HF1.out⟩)
  clear HS2 hh2
  unfold BkP at HS3
  obtain ⟨⟨c0, c1, c2, c3⟩, f0, f1, f2, f3⟩ := HS3.out.blk4c
  by_cases hz : F = 0
  · have hzd : (F == 0) = true := by simpa using hz
    have HZ := Lib.hid (Bk.save_no (id := id) (x := x) (HFF.out.trans hz))
    clear hz
    go_wp2_with fail
    go_ret
    refine ⟨by rw [HZ.out]; rfl, ?_⟩
    rw [HZ.out]
    exact Own.shutBkP (by unfold Bk.ask; rw [HFF.out]) HS3.out HK2.out HNI.out HNN.out HNH.out HM.out
  · have hzd : (F == 0) = false := by simpa using hz
    have HZ := Lib.hid (Bk.save_yes (id := id) (x := x) (fun e => hz (HFF.out.symm.trans e)))
    clear hz
    by_cases hp : 0 < F
    · have HL : Hid (lessF F = F - 1) := Lib.hid (by unfold lessF; rw [if_pos hp])
      have hw : wrap64 (F - 1) = F - 1 := IntWalk.wrap64_in _ ⟨by have := HF1.out; omega, by have := HF1.out; omega⟩
      go_upto_region 6 with fail
      have HS4 := Lib.hid (HS3.out.store 3 (.int .i64 (F - 1)))
      generalize World.setCell w6 _ _ = w7 at *
      clear HS3 c0 c1 c2 c3 f0 f1 f2 f3 hw hp hzd
      have HS5 : Hid (Own w0 w7 (BkP bb h2 hs ni nb nh n2 b.ids b.bs (b.asked ++ [wu (2 * id + 1)]) (lessF F) J)) := Lib.hid (by
        unfold BkP
        rw [HL.out]
        exact HS4.out)
      clear HS4
      obtain ⟨f, hf⟩ : ∃ f, lessF F = f := ⟨_, rfl⟩
      have HFr := Lib.hid (lessF_r HF0.out HF1.out)
      have HBL : Hid ((b.ask (2 * id + 1)).less = ⟨b.ids, b.bs, b.asked ++ [wu (2 * id + 1)], f⟩) := Lib.hid (by rw [less_eq, ← hf]; unfold Bk.ask; rw [← HFF.out])
      rw [hf] at HS5 HFr
      clear hf HL
      unfold BkP at HS5
      obtain ⟨⟨c0, c1, c2, c3⟩, f0, f1, f2, f3⟩ := HS5.out.blk4c
      have hfd := bfind_any w7 bb h2.io ni h2.ic b.ids HNI.out (by have := HB.out; have := HNI.out; omega) HS5.out.swap.rowSlg c0 id
      obtain ⟨iv, hiv⟩ : ∃ v, ixV (ixOf id b.ids) = v := ⟨_, rfl⟩
      rw [hiv] at hfd
      have HFD := Lib.hid hfd
      have HIV := Lib.hid hiv
      clear hfd hiv
      go_wp2_with fail
      refine HFD.out.mono ?_
      rintro e wx ⟨rfl, rfl⟩
      clear HFD
      cases hat : ixOf id b.ids with
      | none =>
        have hneg : iv = -1 := by rw [← HIV.out, hat]; rfl
        subst hneg
        have HA := Lib.hid hat
        clear hat HIV
        have HS6 := Lib.hid (HS5.out.swap)
        go_wp2_with (at_builtin; refine own_appendG elNu HS6.out id 1 (by have := HB.out; have := HNI.out; omega) (by have := HB.out; have := HNI.out; omega) rfl _ _ rfl (by first | rfl | simp [Act.eval]) #[.int .u64 id] rfl (by first | rfl | simp [Act.eval]) ?_)
        intro g3 cap3 n3 w8 hn3 hown
        have HS7 := Lib.hid (hown.out.swap)
        have HM3 : Hid ((b.ids ++ [id]).length = n3) := Lib.hid (by have h1 := hn3.out; rw [List.length_append, List.length_singleton]; (try simp only [List.length_append, List.length_singleton] at h1); omega)
        have HSH3 : Hid (Shp (some (⟨g3, 0, none⟩ : Addr)) n3 cap3) := Lib.hid (by
          have h1 := (shp_own hown.out).1
          rw [HM3.out] at h1
          exact h1)
        clear hown hn3 c0 c1 c2 c3 f0 f1 f2 f3 HS5 HS6
        obtain ⟨⟨c0, c1, c2, c3⟩, f0, f1, f2, f3⟩ := HS7.out.blk4c
        go_upto_region 9 with fail
        have HS8 := Lib.hid (HS7.out.store 0 (.slice (some ⟨g3, 0, none⟩) n3 cap3))
        generalize World.setCell w8 _ _ = w9 at *
        clear HS7 c0 c1 c2 c3 f0 f1 f2 f3
        have HSd := Lib.hid ((HS8.out.drew).ac (by simp only [List.setIfInBounds_toArray, List.set_cons_zero, List.set_cons_succ]; ac_rfl : _ = Sep (Blk bb (.cells #[.slice (some ⟨g3, 0, none⟩) n3 cap3, .slice h2.ho nb h2.hc, .slice h2.qo n2 h2.qc, .int .i64 f] 51)) (Sep (RowG 35 (.slice h2.ho nh h2.hc) hs) (Sep (RowG 34 (.slice (some ⟨g3, 0, none⟩) n3 cap3) (b.ids ++ [id])) (Sep (RowG 34 (.slice h2.qo n2 h2.qc) (b.asked ++ [wu (2 * id + 1)])) (Sep (Fix (HdsOk hs b.bs)) J))))))
        clear HS8
        have hcp : ∀ W F, J W F → Only (fun _ => False) w0 W → Calls Try.prog 38 #[.slice vo xn vc] W fun e w' => ∃ v', e = .returned v' ∧ w'.ownsRow W.heap.size 5 1 v' x.length (u8s x) ∧ Only (fun _ => False) W w' := fun W F hW hWo => by
          have h1 := HJ.out W F hW hWo
          have h2 := raw_copy _ x W h1 (by have := HX.out; omega)
          rw [HXN.out] at h2 ⊢
          exact h2
        have HCP := Lib.hid hcp
        clear hcp
        refine anyG.start (fun w' => w'.cell? ⟨bb, 1, none⟩ = some (.slice h2.ho nb h2.hc)) [11] (by kernel_rfl) ?_ (fun hHeld => ?_)
        · exact HSd.out.blk4c.1.2.1
        refine anyG.take [] (i := 0) (oi := ?_) (v := ?_) ?_ (by kernel_rfl) (by kernel_rfl) (by kernel_rfl) (by kernel_rfl) (by kernel_rfl) (by kernel_rfl) ?_ (Or.inl ⟨?_, ?_⟩) (by assumption) ?_
        rotate_left 2
        · (simp only [List.getElem?_toArray, List.getElem?_cons_zero]; rfl)
        · exact fun _ _ _ h => h
        · rfl
        · (intro w hSw; (try dsimp only at hSw); go_simp <;> with_reducible rfl)
        (try simp only [Act.put, List.setIfInBounds_toArray, List.set_cons_zero, List.set_cons_succ])
        refine anyG.take [] (i := 1) (oi := ?_) (v := ?_) ?_ (by kernel_rfl) (by kernel_rfl) (by kernel_rfl) (by kernel_rfl) (by kernel_rfl) (by kernel_rfl) ?_ (Or.inl ⟨?_, ?_⟩) (by assumption) ?_
        rotate_left 2
        · (simp only [List.getElem?_toArray, List.getElem?_cons_succ, List.getElem?_cons_zero]; rfl)
        · exact fun _ _ _ h => h
        · rfl
        · (intro w hSw; (try dsimp only at hSw); go_simp <;> with_reducible rfl)
        (try simp only [Act.put, List.setIfInBounds_toArray, List.set_cons_zero, List.set_cons_succ])
        refine anyG.take [] (i := 2) (oi := ?_) (v := ?_) ?_ (by kernel_rfl) (by kernel_rfl) (by kernel_rfl) (by kernel_rfl) (by kernel_rfl) (by kernel_rfl) ?_ (Or.inl ⟨?_, ?_⟩) (by assumption) ?_
        rotate_left 2
        · (simp only [List.getElem?_toArray, List.getElem?_cons_succ, List.getElem?_cons_zero]; rfl)
        · exact fun _ _ _ h => h
        · rfl
        · (intro w hSw; (try dsimp only at hSw); go_simp <;> with_reducible rfl)
        (try simp only [Act.put, List.setIfInBounds_toArray, List.set_cons_zero, List.set_cons_succ])
        refine anyG.take [] (i := 3) (oi := ?_) (v := ?_) ?_ (by kernel_rfl) (by kernel_rfl) (by kernel_rfl) (by kernel_rfl) (by kernel_rfl) (by kernel_rfl) ?_ (Or.inl ⟨?_, ?_⟩) (by assumption) ?_
        rotate_left 2
        · (simp only [List.getElem?_toArray, List.getElem?_cons_succ, List.getElem?_cons_zero]; rfl)
        · exact fun _ _ _ h => h
        · rfl
        · (intro w hSw; (try dsimp only at hSw); go_simp <;> with_reducible rfl)
        (try simp only [Act.put, List.setIfInBounds_toArray, List.set_cons_zero, List.set_cons_succ])
        refine anyG.take [] (i := 4) (oi := ?_) (v := ?_) ?_ (by kernel_rfl) (by kernel_rfl) (by kernel_rfl) (by kernel_rfl) (by kernel_rfl) (by kernel_rfl) ?_ (Or.inl ⟨?_, ?_⟩) (by assumption) ?_
        rotate_left 2
        · (simp only [List.getElem?_toArray, List.getElem?_cons_succ, List.getElem?_cons_zero]; rfl)
        · exact fun _ _ _ h => h
        · rfl
        · (intro w hSw; (try dsimp only at hSw); go_simp <;> with_reducible rfl)
        (try simp only [Act.put, List.setIfInBounds_toArray, List.set_cons_zero, List.set_cons_succ])
        refine anyG.take [] (i := 5) (oi := ?_) (v := ?_) ?_ (by kernel_rfl) (by kernel_rfl) (by kernel_rfl) (by kernel_rfl) (by kernel_rfl) (by kernel_rfl) ?_ (Or.inl ⟨?_, ?_⟩) (by assumption) ?_
        rotate_left 2
        · (simp only [List.getElem?_toArray, List.getElem?_cons_succ, List.getElem?_cons_zero]; rfl)
        · exact fun _ _ _ h => h
        · rfl
        · (intro w hSw; (try dsimp only at hSw); go_simp <;> with_reducible rfl)
        (try simp only [Act.put, List.setIfInBounds_toArray, List.set_cons_zero, List.set_cons_succ])
        refine anyG.ready (rs := [6]) (by kernel_rfl) (by simp) (AllG.early (o := ?o6_1) ?h6_1 (fun K hK => ?s6_1) AllG.nil)
        case h6_1 => (simp only [List.getElem?_toArray, List.getElem?_cons_succ, List.getElem?_cons_zero]; rfl)
        case' s6_1 =>
          (go_simp; refine (Own.jcall HSd.out.snd.snd.snd.snd.snd HCP.out).mono ?_; rintro r wb ⟨v', rfl, hown, ho⟩; obtain ⟨ao, c, rfl, hb1⟩ := HSd.out.bytesFix ho hown; have HB1 := Lib.hid (hb1.ac (by ac_rfl : _ = Sep (RowG 35 (.slice h2.ho nh h2.hc) hs) (Sep (Blk bb (.cells #[.slice (some ⟨g3, 0, none⟩) n3 cap3, .slice h2.ho nb h2.hc, .slice h2.qo n2 h2.qc, .int .i64 f] 51)) (Sep (Fix fun w => SlC w (.slice ao x.length c) x) (Sep (RowG 34 (.slice (some ⟨g3, 0, none⟩) n3 cap3) (b.ids ++ [id])) (Sep (RowG 34 (.slice h2.qo n2 h2.qc) (b.asked ++ [wu (2 * id + 1)])) (Sep (Fix (HdsOk hs b.bs)) J))))))); clear hb1 hown ho HSd)
          refine hK.out _ _ ?_ (fun hHeld => ?_)
          · exact HB1.out.swap.blk4c.1.2.1
          clear hK K
          (try simp only [Act.put, List.setIfInBounds_toArray, List.set_cons_zero, List.set_cons_succ])
          refine anyG.ready (rs := [7]) (by kernel_rfl) (by simp) (AllG.early (o := ?o7_2) ?h7_2 (fun K hK => ?s7_2) AllG.nil)
          case h7_2 => (simp only [List.getElem?_toArray, List.getElem?_cons_succ, List.getElem?_cons_zero]; rfl)
          case' s7_2 =>
            go_simp
            refine hK.out _ _ ?_ (fun hHeld => ?_)
            · exact (HB1.out.alloc _).snd.swap.blk4c.1.2.1
            clear hK K
            (try simp only [Act.put, List.setIfInBounds_toArray, List.set_cons_zero, List.set_cons_succ])
            refine anyG.ready (rs := [8]) (by kernel_rfl) (by simp) (AllG.early (o := ?o8_3) ?h8_3 (fun K hK => ?s8_3) AllG.nil)
            case h8_3 => (simp only [List.getElem?_toArray, List.getElem?_cons_succ, List.getElem?_cons_zero]; rfl)
            case' s8_3 =>
              (refine step_appendG elHdB HB1.out (⟨ao, x.length, c⟩ : Hd) 1 (by have := HB.out; have := HNI.out; have := HNH.out; have := HNB.out; have := HNIB.out; omega) (by have := HB.out; have := HNI.out; have := HNH.out; have := HNB.out; have := HNIB.out; omega) rfl (.tmp 56) (.tmp 59) rfl (by rw [HNB.out]; first | rfl | simp [Act.eval]) #[.slice ao x.length c] rfl (by first | rfl | simp [Act.eval]) ?_; intro g4 cap4 n4 wc hn4 hown; have HN4 : Hid ((hs ++ [(⟨ao, x.length, c⟩ : Hd)]).length = n4) := Lib.hid hn4.out.symm; have HSH4 : Hid (Shp (some (⟨g4, 0, none⟩ : Addr)) n4 cap4) := Lib.hid (by have h1 := (shp_own hown.out).1; rw [HN4.out] at h1; exact h1); have HB2 := Lib.hid (hown.out.swap); clear hown hn4 HB1)
              refine hK.out _ _ ?_ (fun hHeld => ?_)
              · exact HB2.out.blk4c.1.2.1
              clear hK K
              (try simp only [Act.put, List.setIfInBounds_toArray, List.set_cons_zero, List.set_cons_succ])
              refine anyG.take2 [10] (i := 9) (oi := ?_) (v := ?_) ?_ (by kernel_rfl) (by kernel_rfl) (by kernel_rfl) (by kernel_rfl) (by kernel_rfl) (by kernel_rfl) ?_ (Or.inl ⟨?_, ?_⟩) (by assumption) ?_
              rotate_left 2
              · (simp only [List.getElem?_toArray, List.getElem?_cons_succ, List.getElem?_cons_zero]; rfl)
              · exact fun _ _ _ h => h
              · rfl
              · (intro w hSw; (try dsimp only at hSw); go_simp <;> with_reducible rfl)
              (try simp only [Act.put, List.setIfInBounds_toArray, List.set_cons_zero, List.set_cons_succ])
              refine anyG.take [] (i := 10) (oi := ?_) (v := ?_) ?_ (by kernel_rfl) (by kernel_rfl) (by kernel_rfl) (by kernel_rfl) (by kernel_rfl) (by kernel_rfl) ?_ (Or.inl ⟨?_, ?_⟩) (by assumption) ?_
              rotate_left 2
              · (simp only [List.getElem?_toArray, List.getElem?_cons_succ, List.getElem?_cons_zero]; rfl)
              · exact fun _ _ _ h => h
              · rfl
              · (intro w hSw; (try dsimp only at hSw); go_simp <;> with_reducible rfl)
              (try simp only [Act.put, List.setIfInBounds_toArray, List.set_cons_zero, List.set_cons_succ])
              obtain ⟨⟨c0, c1, c2, c3⟩, f0, f1, f2, f3⟩ := HB2.out.blk4c
              have HB3 := Lib.hid (HB2.out.store 1 (.slice (some ⟨g4, 0, none⟩) n4 cap4))
              refine anyG.ready (rs := [11]) (by kernel_rfl) (by simp) (AllG.late (o := ?o11_4) ?h11_4 (by kernel_rfl) (of_decide_eq_true (by kernel_rfl)) (fun K hK => ?s11_4) AllG.nil)
              case h11_4 => (simp only [List.getElem?_toArray, List.getElem?_cons_succ, List.getElem?_cons_zero]; rfl)
              case' s11_4 =>
                go_simp
                refine hK.out _ _ ?_
                clear hK K
                (try simp only [Act.put, List.setIfInBounds_toArray, List.set_cons_zero, List.set_cons_succ])
                refine anyG.done (by kernel_rfl) ?_
                clear c0 c1 c2 c3 f0 f1 f2 f3 HB2
                generalize World.setCell wc _ _ = wd at *
                go_wp2_with fail
                go_ret
                have hnn : nh + 1 = n4 := by rw [← HNH.out, ← HN4.out, List.length_append, List.length_singleton]
                have h9 : Own w0 wd (Sep (Fix fun w => SlC w (.slice ao x.length c) x) (Sep (Fix (HdsOk hs b.bs)) (Sep (Blk bb (.cells #[.slice (some ⟨g3, 0, none⟩) n3 cap3, .slice (some ⟨g4, 0, none⟩) n4 cap4, .slice h2.qo n2 h2.qc, .int .i64 f] 51)) (Sep (RowG 35 (.slice (some ⟨g4, 0, none⟩) n4 cap4) (hs ++ [(⟨ao, x.length, c⟩ : Hd)])) (Sep (RowG 34 (.slice (some ⟨g3, 0, none⟩) n3 cap3) (b.ids ++ [id])) (Sep (RowG 34 (.slice h2.qo n2 h2.qc) (b.asked ++ [wu (2 * id + 1)])) J)))))) := HB3.out.ac (by simp only [List.setIfInBounds_toArray, List.set_cons_zero, List.set_cons_succ]; ac_rfl)
                have h10 := h9.fix2.fixI (Q := HdsOk (hs ++ [(⟨ao, x.length, c⟩ : Hd)]) (b.bs ++ [x])) fun w hw => HdsOk.add hw.2 HK.out.n hw.1 HX.out
                have hbe : ((b.ask (2 * id + 1)).less).take id x = ⟨b.ids ++ [id], b.bs ++ [x], b.asked ++ [wu (2 * id + 1)], f⟩ := by
                  rw [HBL.out]
                  unfold Bk.take Bk.at
                  rw [HA.out]
                refine ⟨by rw [HZ.out]; rfl, ?_⟩
                rw [HZ.out]
                refine Own.shutBkP (hd := ⟨some ⟨g3, 0, none⟩, cap3, some ⟨g4, 0, none⟩, cap4, h2.qo, h2.qc⟩) (hs := hs ++ [⟨ao, x.length, c⟩]) hbe (ni := n3) (nb := n4) (nh := n4) (nq := n2) ?_ ⟨?_, ?_, ?_, ?_, ?_, HFr.out.1, HFr.out.2⟩ HM3.out ?_ HN4.out HM.out
                · unfold BkP; dsimp only; exact h10.ac (by ac_rfl)
                · rw [List.length_append, List.length_append, HK.out.n]; rfl
                · rw [List.length_append, List.length_append, HK.out.m]; rfl
                · show Shp _ (b.ids ++ [id]).length _; rw [HM3.out]; exact HSH3.out
                · show Shp _ (b.bs ++ [x]).length _; rw [List.length_append, List.length_singleton, HNN.out, ← HNB.out, hnn]; exact HSH4.out
                · show Shp _ (b.asked ++ [wu (2 * id + 1)]).length _; rw [HM.out]; have := HK2.out.sq; rw [show (Bk.mk b.ids b.bs (b.asked ++ [wu (2 * id + 1)]) F).asked.length = n2 from HM.out] at this; exact this
                · show (b.bs ++ [x]).length = n4; rw [List.length_append, List.length_singleton, HNN.out, ← HNB.out, hnn]
      | some i =>
        have hpos : iv = (i : Int) := by rw [← HIV.out, hat]; rfl
        subst hpos
        have hi : i < nb := by have h1 := (ixOf_some hat).1; have h2 := HK.out.m; have h3 := HNN.out; omega
        have hin : ¬ (i : Int) < 0 := by omega
        have hi0 : (0 : Int) ≤ (i : Int) := by omega
        have hiI : (i : Int) < (nb : Int) := by omega
        have HA := Lib.hid hat
        have HI := Lib.hid hi
        clear hat HIV
        obtain ⟨g, hg⟩ := own_addr HS5.out.swap.swap.snd.snd (by have h1 := HNH.out; have h2 := HNB.out; omega)
        obtain ⟨ho, hho⟩ : ∃ v, h2.ho = v := ⟨_, rfl⟩
        have HHO := Lib.hid hho
        rw [hho] at hg HS5 c1
        subst hg
        clear hho
        go_upto_region 11 with fail
        have HSd := Lib.hid ((HS5.out.drew).ac (by ac_rfl : _ = Sep (Blk bb (.cells #[.slice h2.io ni h2.ic, .slice (some ⟨g, 0, none⟩) nb h2.hc, .slice h2.qo n2 h2.qc, .int .i64 f] 51)) (Sep (RowG 35 (.slice (some ⟨g, 0, none⟩) nh h2.hc) hs) (Sep (RowG 34 (.slice h2.io ni h2.ic) b.ids) (Sep (RowG 34 (.slice h2.qo n2 h2.qc) (b.asked ++ [wu (2 * id + 1)])) (Sep (Fix (HdsOk hs b.bs)) J))))))
        clear HS5 c0 c1 c2 c3 f0 f1 f2 f3
        have hcp : ∀ W F, J W F → Only (fun _ => False) w0 W → Calls Try.prog 38 #[.slice vo xn vc] W fun e w' => ∃ v', e = .returned v' ∧ w'.ownsRow W.heap.size 5 1 v' x.length (u8s x) ∧ Only (fun _ => False) W w' := fun W F hW hWo => by
          have h1 := HJ.out W F hW hWo
          have h2 := raw_copy _ x W h1 (by have := HX.out; omega)
          rw [HXN.out] at h2 ⊢
          exact h2
        have HCP := Lib.hid hcp
        clear hcp
        refine anyG.start (fun w' => w'.cell? ⟨bb, 1, none⟩ = some (.slice (some ⟨g, 0, none⟩) nb h2.hc)) [8] (by kernel_rfl) ?_ (fun hHeld => ?_)
        · exact HSd.out.blk4c.1.2.1
        refine anyG.take [] (i := 0) (oi := ?_) (v := ?_) ?_ (by kernel_rfl) (by kernel_rfl) (by kernel_rfl) (by kernel_rfl) (by kernel_rfl) (by kernel_rfl) ?_ (Or.inl ⟨?_, ?_⟩) (by assumption) ?_
        rotate_left 2
        · (simp only [List.getElem?_toArray, List.getElem?_cons_zero]; rfl)
        · exact fun _ _ _ h => h
        · rfl
        · (intro w hSw; (try dsimp only at hSw); go_simp <;> with_reducible rfl)
        (try simp only [Act.put, List.setIfInBounds_toArray, List.set_cons_zero, List.set_cons_succ])
        refine anyG.take [] (i := 1) (oi := ?_) (v := ?_) ?_ (by kernel_rfl) (by kernel_rfl) (by kernel_rfl) (by kernel_rfl) (by kernel_rfl) (by kernel_rfl) ?_ (Or.inl ⟨?_, ?_⟩) (by assumption) ?_
        rotate_left 2
        · (simp only [List.getElem?_toArray, List.getElem?_cons_succ, List.getElem?_cons_zero]; rfl)
        · exact fun _ _ _ h => h
        · rfl
        · (intro w hSw; (try dsimp only at hSw); go_simp <;> with_reducible rfl)
        (try simp only [Act.put, List.setIfInBounds_toArray, List.set_cons_zero, List.set_cons_succ])
        refine anyG.take [] (i := 2) (oi := ?_) (v := ?_) ?_ (by kernel_rfl) (by kernel_rfl) (by kernel_rfl) (by kernel_rfl) (by kernel_rfl) (by kernel_rfl) ?_ (Or.inl ⟨?_, ?_⟩) (by assumption) ?_
        rotate_left 2
        · (simp only [List.getElem?_toArray, List.getElem?_cons_succ, List.getElem?_cons_zero]; rfl)
        · exact fun _ _ _ h => h
        · rfl
        · (intro w hSw; (try dsimp only at hSw); go_simp <;> with_reducible rfl)
        (try simp only [Act.put, List.setIfInBounds_toArray, List.set_cons_zero, List.set_cons_succ])
        refine anyG.take [] (i := 3) (oi := ?_) (v := ?_) ?_ (by kernel_rfl) (by kernel_rfl) (by kernel_rfl) (by kernel_rfl) (by kernel_rfl) (by kernel_rfl) ?_ (Or.inl ⟨?_, ?_⟩) (by assumption) ?_
        rotate_left 2
        · (simp only [List.getElem?_toArray, List.getElem?_cons_succ, List.getElem?_cons_zero]; rfl)
        · exact fun _ _ _ h => h
        · rfl
        · (intro w hSw; (try dsimp only at hSw); go_simp <;> with_reducible rfl)
        (try simp only [Act.put, List.setIfInBounds_toArray, List.set_cons_zero, List.set_cons_succ])
        refine anyG.take [] (i := 4) (oi := ?_) (v := ?_) ?_ (by kernel_rfl) (by kernel_rfl) (by kernel_rfl) (by kernel_rfl) (by kernel_rfl) (by kernel_rfl) ?_ (Or.inl ⟨?_, ?_⟩) (by assumption) ?_
        rotate_left 2
        · (simp only [List.getElem?_toArray, List.getElem?_cons_succ, List.getElem?_cons_zero]; rfl)
        · exact fun _ _ _ h => h
        · rfl
        · (intro w hSw; (try dsimp only at hSw); go_simp <;> with_reducible rfl)
        (try simp only [Act.put, List.setIfInBounds_toArray, List.set_cons_zero, List.set_cons_succ])
        refine anyG.take [] (i := 5) (oi := ?_) (v := ?_) ?_ (by kernel_rfl) (by kernel_rfl) (by kernel_rfl) (by kernel_rfl) (by kernel_rfl) (by kernel_rfl) ?_ (Or.inl ⟨?_, ?_⟩) (by assumption) ?_
        rotate_left 2
        · (simp only [List.getElem?_toArray, List.getElem?_cons_succ, List.getElem?_cons_zero]; rfl)
        · exact fun _ _ _ h => h
        · rfl
        · (intro w hSw; (try dsimp only at hSw); go_simp <;> with_reducible rfl)
        (try simp only [Act.put, List.setIfInBounds_toArray, List.set_cons_zero, List.set_cons_succ])
        refine anyG.ready (rs := [6]) (by kernel_rfl) (by simp) (AllG.early (o := ?o6_5) ?h6_5 (fun K hK => ?s6_5) AllG.nil)
        case h6_5 => (simp only [List.getElem?_toArray, List.getElem?_cons_succ, List.getElem?_cons_zero]; rfl)
        case' s6_5 =>
          (go_simp; refine (Own.jcall HSd.out.snd.snd.snd.snd.snd HCP.out).mono ?_; rintro r wb ⟨v', rfl, hown, ho⟩; obtain ⟨ao, c, rfl, hb1⟩ := HSd.out.bytesFix ho hown; have HB1 := Lib.hid (hb1.ac (by ac_rfl : _ = Sep (RowG 35 (.slice (some ⟨g, 0, none⟩) nh h2.hc) hs) (Sep (Blk bb (.cells #[.slice h2.io ni h2.ic, .slice (some ⟨g, 0, none⟩) nb h2.hc, .slice h2.qo n2 h2.qc, .int .i64 f] 51)) (Sep (Fix fun w => SlC w (.slice ao x.length c) x) (Sep (RowG 34 (.slice h2.io ni h2.ic) b.ids) (Sep (RowG 34 (.slice h2.qo n2 h2.qc) (b.asked ++ [wu (2 * id + 1)])) (Sep (Fix (HdsOk hs b.bs)) J))))))); clear hb1 hown ho HSd)
          refine hK.out _ _ ?_ (fun hHeld => ?_)
          · exact HB1.out.swap.blk4c.1.2.1
          clear hK K
          (try simp only [Act.put, List.setIfInBounds_toArray, List.set_cons_zero, List.set_cons_succ])
          refine anyG.take [] (i := 7) (oi := ?_) (v := ?_) ?_ (by kernel_rfl) (by kernel_rfl) (by kernel_rfl) (by kernel_rfl) (by kernel_rfl) (by kernel_rfl) ?_ (Or.inl ⟨?_, ?_⟩) (by assumption) ?_
          rotate_left 2
          · (simp only [List.getElem?_toArray, List.getElem?_cons_succ, List.getElem?_cons_zero]; rfl)
          · exact fun _ _ _ h => h
          · rfl
          · (intro w hSw; (try dsimp only at hSw); go_simp <;> with_reducible rfl)
          (try simp only [Act.put, List.setIfInBounds_toArray, List.set_cons_zero, List.set_cons_succ])
          have hlt2 : i < (cAll hs).length := by rw [cAll_length, HNH.out, HNB.out]; have := HI.out; show i < nb * 1; omega
          obtain ⟨hcell, hfrz⟩ := own_cellG HB1.out hlt2
          have HB4 := Lib.hid (HB1.out.setG (i := i) rfl (by have h1 := HNH.out; have h2 := HNB.out; have h3 := HI.out; omega) (m := (⟨ao, x.length, c⟩ : Hd)) (v := .slice ao x.length c) rfl)
          refine anyG.ready (rs := [8]) (by kernel_rfl) (by simp) (AllG.late (o := ?o8_6) ?h8_6 (by kernel_rfl) (of_decide_eq_true (by kernel_rfl)) (fun K hK => ?s8_6) AllG.nil)
          case h8_6 => (simp only [List.getElem?_toArray, List.getElem?_cons_succ, List.getElem?_cons_zero]; rfl)
          case' s8_6 =>
            go_simp
            refine hK.out _ _ ?_
            clear hK K
            (try simp only [Act.put, List.setIfInBounds_toArray, List.set_cons_zero, List.set_cons_succ])
            refine anyG.done (by kernel_rfl) ?_
            clear hcell hfrz hlt2 HB1
            generalize World.setCell wb _ _ = wd at *
            go_wp2_with fail
            go_ret
            have h9 : Own w0 wd (Sep (Fix fun w => SlC w (.slice ao x.length c) x) (Sep (Fix (HdsOk hs b.bs)) (Sep (Blk bb (.cells #[.slice h2.io ni h2.ic, .slice (some ⟨g, 0, none⟩) nb h2.hc, .slice h2.qo n2 h2.qc, .int .i64 f] 51)) (Sep (RowG 35 (.slice (some ⟨g, 0, none⟩) nh h2.hc) (hs.set i (⟨ao, x.length, c⟩ : Hd))) (Sep (RowG 34 (.slice h2.io ni h2.ic) b.ids) (Sep (RowG 34 (.slice h2.qo n2 h2.qc) (b.asked ++ [wu (2 * id + 1)])) J)))))) := HB4.out.ac (by ac_rfl)
            have hib : i < b.bs.length := by have h3 := HI.out; have h4 := HNN.out; omega
            have h10 := h9.fix2.fixI (Q := HdsOk (hs.set i (⟨ao, x.length, c⟩ : Hd)) (b.bs.set i x)) fun w hw => HdsOk.set hw.2 HK.out.n hib hw.1 HX.out
            have hbe : ((b.ask (2 * id + 1)).less).take id x = ⟨b.ids, b.bs.set i x, b.asked ++ [wu (2 * id + 1)], f⟩ := by
              rw [HBL.out]
              unfold Bk.take Bk.at
              rw [HA.out]
            refine ⟨by rw [HZ.out]; rfl, ?_⟩
            rw [HZ.out]
            refine Own.shutBkP (hd := h2) (hs := hs.set i ⟨ao, x.length, c⟩) hbe (ni := ni) (nb := nb) (nh := nh) (nq := n2) ?_ ⟨?_, ?_, HK2.out.si, ?_, HK2.out.sq, HFr.out.1, HFr.out.2⟩ HNI.out ?_ ?_ HM.out
            · unfold BkP; rw [HHO.out]; exact h10.ac (by ac_rfl)
            · rw [List.length_set, List.length_set, HK.out.n]
            · rw [List.length_set, HK.out.m]
            · show Shp _ (b.bs.set i x).length _; rw [List.length_set]; exact HK2.out.sb
            · rw [List.length_set, HNN.out]
            · rw [List.length_set, HNH.out]
    · have HL : Hid (lessF F = F) := Lib.hid (by unfold lessF; rw [if_neg hp])
      have hpd : decide (0 < F) = false := decide_eq_false hp
      go_upto_region 6 with fail
      have HS5 : Hid (Own w0 w6 (BkP bb h2 hs ni nb nh n2 b.ids b.bs (b.asked ++ [wu (2 * id + 1)]) (lessF F) J)) := Lib.hid (by
        unfold BkP
        rw [HL.out]
        exact HS3.out)
      clear HS3 c0 c1 c2 c3 f0 f1 f2 f3 hp hpd hzd
      obtain ⟨w7, h7⟩ : ∃ W, W = w6 := ⟨w6, rfl⟩
      subst h7
      obtain ⟨f, hf⟩ : ∃ f, lessF F = f := ⟨_, rfl⟩
      have HFr := Lib.hid (lessF_r HF0.out HF1.out)
      have HBL : Hid ((b.ask (2 * id + 1)).less = ⟨b.ids, b.bs, b.asked ++ [wu (2 * id + 1)], f⟩) := Lib.hid (by rw [less_eq, ← hf]; unfold Bk.ask; rw [← HFF.out])
      rw [hf] at HS5 HFr
      clear hf HL
      unfold BkP at HS5
      obtain ⟨⟨c0, c1, c2, c3⟩, f0, f1, f2, f3⟩ := HS5.out.blk4c
      have hfd := bfind_any w7 bb h2.io ni h2.ic b.ids HNI.out (by have := HB.out; have := HNI.out; omega) HS5.out.swap.rowSlg c0 id
      obtain ⟨iv, hiv⟩ : ∃ v, ixV (ixOf id b.ids) = v := ⟨_, rfl⟩
      rw [hiv] at hfd
      have HFD := Lib.hid hfd
      have HIV := Lib.hid hiv
      clear hfd hiv
      go_wp2_with fail
      refine HFD.out.mono ?_
      rintro e wx ⟨rfl, rfl⟩
      clear HFD
      cases hat : ixOf id b.ids with
      | none =>
        have hneg : iv = -1 := by rw [← HIV.out, hat]; rfl
        subst hneg
        have HA := Lib.hid hat
        clear hat HIV
        have HS6 := Lib.hid (HS5.out.swap)
        go_wp2_with (at_builtin; refine own_appendG elNu HS6.out id 1 (by have := HB.out; have := HNI.out; omega) (by have := HB.out; have := HNI.out; omega) rfl _ _ rfl (by first | rfl | simp [Act.eval]) #[.int .u64 id] rfl (by first | rfl | simp [Act.eval]) ?_)
        intro g3 cap3 n3 w8 hn3 hown
        have HS7 := Lib.hid (hown.out.swap)
        have HM3 : Hid ((b.ids ++ [id]).length = n3) := Lib.hid (by have h1 := hn3.out; rw [List.length_append, List.length_singleton]; (try simp only [List.length_append, List.length_singleton] at h1); omega)
        have HSH3 : Hid (Shp (some (⟨g3, 0, none⟩ : Addr)) n3 cap3) := Lib.hid (by
          have h1 := (shp_own hown.out).1
          rw [HM3.out] at h1
          exact h1)
        clear hown hn3 c0 c1 c2 c3 f0 f1 f2 f3 HS5 HS6
        obtain ⟨⟨c0, c1, c2, c3⟩, f0, f1, f2, f3⟩ := HS7.out.blk4c
        go_upto_region 9 with fail
        have HS8 := Lib.hid (HS7.out.store 0 (.slice (some ⟨g3, 0, none⟩) n3 cap3))
        generalize World.setCell w8 _ _ = w9 at *
        clear HS7 c0 c1 c2 c3 f0 f1 f2 f3
        have HSd := Lib.hid ((HS8.out.drew).ac (by simp only [List.setIfInBounds_toArray, List.set_cons_zero, List.set_cons_succ]; ac_rfl : _ = Sep (Blk bb (.cells #[.slice (some ⟨g3, 0, none⟩) n3 cap3, .slice h2.ho nb h2.hc, .slice h2.qo n2 h2.qc, .int .i64 f] 51)) (Sep (RowG 35 (.slice h2.ho nh h2.hc) hs) (Sep (RowG 34 (.slice (some ⟨g3, 0, none⟩) n3 cap3) (b.ids ++ [id])) (Sep (RowG 34 (.slice h2.qo n2 h2.qc) (b.asked ++ [wu (2 * id + 1)])) (Sep (Fix (HdsOk hs b.bs)) J))))))
        clear HS8
        have hcp : ∀ W F, J W F → Only (fun _ => False) w0 W → Calls Try.prog 38 #[.slice vo xn vc] W fun e w' => ∃ v', e = .returned v' ∧ w'.ownsRow W.heap.size 5 1 v' x.length (u8s x) ∧ Only (fun _ => False) W w' := fun W F hW hWo => by
          have h1 := HJ.out W F hW hWo
          have h2 := raw_copy _ x W h1 (by have := HX.out; omega)
          rw [HXN.out] at h2 ⊢
          exact h2
        have HCP := Lib.hid hcp
        clear hcp
        refine anyG.start (fun w' => w'.cell? ⟨bb, 1, none⟩ = some (.slice h2.ho nb h2.hc)) [11] (by kernel_rfl) ?_ (fun hHeld => ?_)
        · exact HSd.out.blk4c.1.2.1
        refine anyG.take [] (i := 0) (oi := ?_) (v := ?_) ?_ (by kernel_rfl) (by kernel_rfl) (by kernel_rfl) (by kernel_rfl) (by kernel_rfl) (by kernel_rfl) ?_ (Or.inl ⟨?_, ?_⟩) (by assumption) ?_
        rotate_left 2
        · (simp only [List.getElem?_toArray, List.getElem?_cons_zero]; rfl)
        · exact fun _ _ _ h => h
        · rfl
        · (intro w hSw; (try dsimp only at hSw); go_simp <;> with_reducible rfl)
        (try simp only [Act.put, List.setIfInBounds_toArray, List.set_cons_zero, List.set_cons_succ])
        refine anyG.take [] (i := 1) (oi := ?_) (v := ?_) ?_ (by kernel_rfl) (by kernel_rfl) (by kernel_rfl) (by kernel_rfl) (by kernel_rfl) (by kernel_rfl) ?_ (Or.inl ⟨?_, ?_⟩) (by assumption) ?_
        rotate_left 2
        · (simp only [List.getElem?_toArray, List.getElem?_cons_succ, List.getElem?_cons_zero]; rfl)
        · exact fun _ _ _ h => h
        · rfl
        · (intro w hSw; (try dsimp only at hSw); go_simp <;> with_reducible rfl)
        (try simp only [Act.put, List.setIfInBounds_toArray, List.set_cons_zero, List.set_cons_succ])
        refine anyG.take [] (i := 2) (oi := ?_) (v := ?_) ?_ (by kernel_rfl) (by kernel_rfl) (by kernel_rfl) (by kernel_rfl) (by kernel_rfl) (by kernel_rfl) ?_ (Or.inl ⟨?_, ?_⟩) (by assumption) ?_
        rotate_left 2
        · (simp only [List.getElem?_toArray, List.getElem?_cons_succ, List.getElem?_cons_zero]; rfl)
        · exact fun _ _ _ h => h
        · rfl
        · (intro w hSw; (try dsimp only at hSw); go_simp <;> with_reducible rfl)
        (try simp only [Act.put, List.setIfInBounds_toArray, List.set_cons_zero, List.set_cons_succ])
        refine anyG.take [] (i := 3) (oi := ?_) (v := ?_) ?_ (by kernel_rfl) (by kernel_rfl) (by kernel_rfl) (by kernel_rfl) (by kernel_rfl) (by kernel_rfl) ?_ (Or.inl ⟨?_, ?_⟩) (by assumption) ?_
        rotate_left 2
        · (simp only [List.getElem?_toArray, List.getElem?_cons_succ, List.getElem?_cons_zero]; rfl)
        · exact fun _ _ _ h => h
        · rfl
        · (intro w hSw; (try dsimp only at hSw); go_simp <;> with_reducible rfl)
        (try simp only [Act.put, List.setIfInBounds_toArray, List.set_cons_zero, List.set_cons_succ])
        refine anyG.take [] (i := 4) (oi := ?_) (v := ?_) ?_ (by kernel_rfl) (by kernel_rfl) (by kernel_rfl) (by kernel_rfl) (by kernel_rfl) (by kernel_rfl) ?_ (Or.inl ⟨?_, ?_⟩) (by assumption) ?_
        rotate_left 2
        · (simp only [List.getElem?_toArray, List.getElem?_cons_succ, List.getElem?_cons_zero]; rfl)
        · exact fun _ _ _ h => h
        · rfl
        · (intro w hSw; (try dsimp only at hSw); go_simp <;> with_reducible rfl)
        (try simp only [Act.put, List.setIfInBounds_toArray, List.set_cons_zero, List.set_cons_succ])
        refine anyG.take [] (i := 5) (oi := ?_) (v := ?_) ?_ (by kernel_rfl) (by kernel_rfl) (by kernel_rfl) (by kernel_rfl) (by kernel_rfl) (by kernel_rfl) ?_ (Or.inl ⟨?_, ?_⟩) (by assumption) ?_
        rotate_left 2
        · (simp only [List.getElem?_toArray, List.getElem?_cons_succ, List.getElem?_cons_zero]; rfl)
        · exact fun _ _ _ h => h
        · rfl
        · (intro w hSw; (try dsimp only at hSw); go_simp <;> with_reducible rfl)
        (try simp only [Act.put, List.setIfInBounds_toArray, List.set_cons_zero, List.set_cons_succ])
        refine anyG.ready (rs := [6]) (by kernel_rfl) (by simp) (AllG.early (o := ?o6_7) ?h6_7 (fun K hK => ?s6_7) AllG.nil)
        case h6_7 => (simp only [List.getElem?_toArray, List.getElem?_cons_succ, List.getElem?_cons_zero]; rfl)
        case' s6_7 =>
          (go_simp; refine (Own.jcall HSd.out.snd.snd.snd.snd.snd HCP.out).mono ?_; rintro r wb ⟨v', rfl, hown, ho⟩; obtain ⟨ao, c, rfl, hb1⟩ := HSd.out.bytesFix ho hown; have HB1 := Lib.hid (hb1.ac (by ac_rfl : _ = Sep (RowG 35 (.slice h2.ho nh h2.hc) hs) (Sep (Blk bb (.cells #[.slice (some ⟨g3, 0, none⟩) n3 cap3, .slice h2.ho nb h2.hc, .slice h2.qo n2 h2.qc, .int .i64 f] 51)) (Sep (Fix fun w => SlC w (.slice ao x.length c) x) (Sep (RowG 34 (.slice (some ⟨g3, 0, none⟩) n3 cap3) (b.ids ++ [id])) (Sep (RowG 34 (.slice h2.qo n2 h2.qc) (b.asked ++ [wu (2 * id + 1)])) (Sep (Fix (HdsOk hs b.bs)) J))))))); clear hb1 hown ho HSd)
          refine hK.out _ _ ?_ (fun hHeld => ?_)
          · exact HB1.out.swap.blk4c.1.2.1
          clear hK K
          (try simp only [Act.put, List.setIfInBounds_toArray, List.set_cons_zero, List.set_cons_succ])
          refine anyG.ready (rs := [7]) (by kernel_rfl) (by simp) (AllG.early (o := ?o7_8) ?h7_8 (fun K hK => ?s7_8) AllG.nil)
          case h7_8 => (simp only [List.getElem?_toArray, List.getElem?_cons_succ, List.getElem?_cons_zero]; rfl)
          case' s7_8 =>
            go_simp
            refine hK.out _ _ ?_ (fun hHeld => ?_)
            · exact (HB1.out.alloc _).snd.swap.blk4c.1.2.1
            clear hK K
            (try simp only [Act.put, List.setIfInBounds_toArray, List.set_cons_zero, List.set_cons_succ])
            refine anyG.ready (rs := [8]) (by kernel_rfl) (by simp) (AllG.early (o := ?o8_9) ?h8_9 (fun K hK => ?s8_9) AllG.nil)
            case h8_9 => (simp only [List.getElem?_toArray, List.getElem?_cons_succ, List.getElem?_cons_zero]; rfl)
            case' s8_9 =>
              (refine step_appendG elHdB HB1.out (⟨ao, x.length, c⟩ : Hd) 1 (by have := HB.out; have := HNI.out; have := HNH.out; have := HNB.out; have := HNIB.out; omega) (by have := HB.out; have := HNI.out; have := HNH.out; have := HNB.out; have := HNIB.out; omega) rfl (.tmp 56) (.tmp 59) rfl (by rw [HNB.out]; first | rfl | simp [Act.eval]) #[.slice ao x.length c] rfl (by first | rfl | simp [Act.eval]) ?_; intro g4 cap4 n4 wc hn4 hown; have HN4 : Hid ((hs ++ [(⟨ao, x.length, c⟩ : Hd)]).length = n4) := Lib.hid hn4.out.symm; have HSH4 : Hid (Shp (some (⟨g4, 0, none⟩ : Addr)) n4 cap4) := Lib.hid (by have h1 := (shp_own hown.out).1; rw [HN4.out] at h1; exact h1); have HB2 := Lib.hid (hown.out.swap); clear hown hn4 HB1)
              refine hK.out _ _ ?_ (fun hHeld => ?_)
              · exact HB2.out.blk4c.1.2.1
              clear hK K
              (try simp only [Act.put, List.setIfInBounds_toArray, List.set_cons_zero, List.set_cons_succ])
              refine anyG.take2 [10] (i := 9) (oi := ?_) (v := ?_) ?_ (by kernel_rfl) (by kernel_rfl) (by kernel_rfl) (by kernel_rfl) (by kernel_rfl) (by kernel_rfl) ?_ (Or.inl ⟨?_, ?_⟩) (by assumption) ?_
              rotate_left 2
              · (simp only [List.getElem?_toArray, List.getElem?_cons_succ, List.getElem?_cons_zero]; rfl)
              · exact fun _ _ _ h => h
              · rfl
              · (intro w hSw; (try dsimp only at hSw); go_simp <;> with_reducible rfl)
              (try simp only [Act.put, List.setIfInBounds_toArray, List.set_cons_zero, List.set_cons_succ])
              refine anyG.take [] (i := 10) (oi := ?_) (v := ?_) ?_ (by kernel_rfl) (by kernel_rfl) (by kernel_rfl) (by kernel_rfl) (by kernel_rfl) (by kernel_rfl) ?_ (Or.inl ⟨?_, ?_⟩) (by assumption) ?_
              rotate_left 2
              · (simp only [List.getElem?_toArray, List.getElem?_cons_succ, List.getElem?_cons_zero]; rfl)
              · exact fun _ _ _ h => h
              · rfl
              · (intro w hSw; (try dsimp only at hSw); go_simp <;> with_reducible rfl)
              (try simp only [Act.put, List.setIfInBounds_toArray, List.set_cons_zero, List.set_cons_succ])
              obtain ⟨⟨c0, c1, c2, c3⟩, f0, f1, f2, f3⟩ := HB2.out.blk4c
              have HB3 := Lib.hid (HB2.out.store 1 (.slice (some ⟨g4, 0, none⟩) n4 cap4))
              refine anyG.ready (rs := [11]) (by kernel_rfl) (by simp) (AllG.late (o := ?o11_10) ?h11_10 (by kernel_rfl) (of_decide_eq_true (by kernel_rfl)) (fun K hK => ?s11_10) AllG.nil)
              case h11_10 => (simp only [List.getElem?_toArray, List.getElem?_cons_succ, List.getElem?_cons_zero]; rfl)
              case' s11_10 =>
                go_simp
                refine hK.out _ _ ?_
                clear hK K
                (try simp only [Act.put, List.setIfInBounds_toArray, List.set_cons_zero, List.set_cons_succ])
                refine anyG.done (by kernel_rfl) ?_
                clear c0 c1 c2 c3 f0 f1 f2 f3 HB2
                generalize World.setCell wc _ _ = wd at *
                go_wp2_with fail
                go_ret
                have hnn : nh + 1 = n4 := by rw [← HNH.out, ← HN4.out, List.length_append, List.length_singleton]
                have h9 : Own w0 wd (Sep (Fix fun w => SlC w (.slice ao x.length c) x) (Sep (Fix (HdsOk hs b.bs)) (Sep (Blk bb (.cells #[.slice (some ⟨g3, 0, none⟩) n3 cap3, .slice (some ⟨g4, 0, none⟩) n4 cap4, .slice h2.qo n2 h2.qc, .int .i64 f] 51)) (Sep (RowG 35 (.slice (some ⟨g4, 0, none⟩) n4 cap4) (hs ++ [(⟨ao, x.length, c⟩ : Hd)])) (Sep (RowG 34 (.slice (some ⟨g3, 0, none⟩) n3 cap3) (b.ids ++ [id])) (Sep (RowG 34 (.slice h2.qo n2 h2.qc) (b.asked ++ [wu (2 * id + 1)])) J)))))) := HB3.out.ac (by simp only [List.setIfInBounds_toArray, List.set_cons_zero, List.set_cons_succ]; ac_rfl)
                have h10 := h9.fix2.fixI (Q := HdsOk (hs ++ [(⟨ao, x.length, c⟩ : Hd)]) (b.bs ++ [x])) fun w hw => HdsOk.add hw.2 HK.out.n hw.1 HX.out
                have hbe : ((b.ask (2 * id + 1)).less).take id x = ⟨b.ids ++ [id], b.bs ++ [x], b.asked ++ [wu (2 * id + 1)], f⟩ := by
                  rw [HBL.out]
                  unfold Bk.take Bk.at
                  rw [HA.out]
                refine ⟨by rw [HZ.out]; rfl, ?_⟩
                rw [HZ.out]
                refine Own.shutBkP (hd := ⟨some ⟨g3, 0, none⟩, cap3, some ⟨g4, 0, none⟩, cap4, h2.qo, h2.qc⟩) (hs := hs ++ [⟨ao, x.length, c⟩]) hbe (ni := n3) (nb := n4) (nh := n4) (nq := n2) ?_ ⟨?_, ?_, ?_, ?_, ?_, HFr.out.1, HFr.out.2⟩ HM3.out ?_ HN4.out HM.out
                · unfold BkP; dsimp only; exact h10.ac (by ac_rfl)
                · rw [List.length_append, List.length_append, HK.out.n]; rfl
                · rw [List.length_append, List.length_append, HK.out.m]; rfl
                · show Shp _ (b.ids ++ [id]).length _; rw [HM3.out]; exact HSH3.out
                · show Shp _ (b.bs ++ [x]).length _; rw [List.length_append, List.length_singleton, HNN.out, ← HNB.out, hnn]; exact HSH4.out
                · show Shp _ (b.asked ++ [wu (2 * id + 1)]).length _; rw [HM.out]; have := HK2.out.sq; rw [show (Bk.mk b.ids b.bs (b.asked ++ [wu (2 * id + 1)]) F).asked.length = n2 from HM.out] at this; exact this
                · show (b.bs ++ [x]).length = n4; rw [List.length_append, List.length_singleton, HNN.out, ← HNB.out, hnn]
      | some i =>
        have hpos : iv = (i : Int) := by rw [← HIV.out, hat]; rfl
        subst hpos
        have hi : i < nb := by have h1 := (ixOf_some hat).1; have h2 := HK.out.m; have h3 := HNN.out; omega
        have hin : ¬ (i : Int) < 0 := by omega
        have hi0 : (0 : Int) ≤ (i : Int) := by omega
        have hiI : (i : Int) < (nb : Int) := by omega
        have HA := Lib.hid hat
        have HI := Lib.hid hi
        clear hat HIV
        obtain ⟨g, hg⟩ := own_addr HS5.out.swap.swap.snd.snd (by have h1 := HNH.out; have h2 := HNB.out; omega)
        obtain ⟨ho, hho⟩ : ∃ v, h2.ho = v := ⟨_, rfl⟩
        have HHO := Lib.hid hho
        rw [hho] at hg HS5 c1
        subst hg
        clear hho
        go_upto_region 11 with fail
        have HSd := Lib.hid ((HS5.out.drew).ac (by ac_rfl : _ = Sep (Blk bb (.cells #[.slice h2.io ni h2.ic, .slice (some ⟨g, 0, none⟩) nb h2.hc, .slice h2.qo n2 h2.qc, .int .i64 f] 51)) (Sep (RowG 35 (.slice (some ⟨g, 0, none⟩) nh h2.hc) hs) (Sep (RowG 34 (.slice h2.io ni h2.ic) b.ids) (Sep (RowG 34 (.slice h2.qo n2 h2.qc) (b.asked ++ [wu (2 * id + 1)])) (Sep (Fix (HdsOk hs b.bs)) J))))))
        clear HS5 c0 c1 c2 c3 f0 f1 f2 f3
        have hcp : ∀ W F, J W F → Only (fun _ => False) w0 W → Calls Try.prog 38 #[.slice vo xn vc] W fun e w' => ∃ v', e = .returned v' ∧ w'.ownsRow W.heap.size 5 1 v' x.length (u8s x) ∧ Only (fun _ => False) W w' := fun W F hW hWo => by
          have h1 := HJ.out W F hW hWo
          have h2 := raw_copy _ x W h1 (by have := HX.out; omega)
          rw [HXN.out] at h2 ⊢
          exact h2
        have HCP := Lib.hid hcp
        clear hcp
        refine anyG.start (fun w' => w'.cell? ⟨bb, 1, none⟩ = some (.slice (some ⟨g, 0, none⟩) nb h2.hc)) [8] (by kernel_rfl) ?_ (fun hHeld => ?_)
        · exact HSd.out.blk4c.1.2.1
        refine anyG.take [] (i := 0) (oi := ?_) (v := ?_) ?_ (by kernel_rfl) (by kernel_rfl) (by kernel_rfl) (by kernel_rfl) (by kernel_rfl) (by kernel_rfl) ?_ (Or.inl ⟨?_, ?_⟩) (by assumption) ?_
        rotate_left 2
        · (simp only [List.getElem?_toArray, List.getElem?_cons_zero]; rfl)
        · exact fun _ _ _ h => h
        · rfl
        · (intro w hSw; (try dsimp only at hSw); go_simp <;> with_reducible rfl)
        (try simp only [Act.put, List.setIfInBounds_toArray, List.set_cons_zero, List.set_cons_succ])
        refine anyG.take [] (i := 1) (oi := ?_) (v := ?_) ?_ (by kernel_rfl) (by kernel_rfl) (by kernel_rfl) (by kernel_rfl) (by kernel_rfl) (by kernel_rfl) ?_ (Or.inl ⟨?_, ?_⟩) (by assumption) ?_
        rotate_left 2
        · (simp only [List.getElem?_toArray, List.getElem?_cons_succ, List.getElem?_cons_zero]; rfl)
        · exact fun _ _ _ h => h
        · rfl
        · (intro w hSw; (try dsimp only at hSw); go_simp <;> with_reducible rfl)
        (try simp only [Act.put, List.setIfInBounds_toArray, List.set_cons_zero, List.set_cons_succ])
        refine anyG.take [] (i := 2) (oi := ?_) (v := ?_) ?_ (by kernel_rfl) (by kernel_rfl) (by kernel_rfl) (by kernel_rfl) (by kernel_rfl) (by kernel_rfl) ?_ (Or.inl ⟨?_, ?_⟩) (by assumption) ?_
        rotate_left 2
        · (simp only [List.getElem?_toArray, List.getElem?_cons_succ, List.getElem?_cons_zero]; rfl)
        · exact fun _ _ _ h => h
        · rfl
        · (intro w hSw; (try dsimp only at hSw); go_simp <;> with_reducible rfl)
        (try simp only [Act.put, List.setIfInBounds_toArray, List.set_cons_zero, List.set_cons_succ])
        refine anyG.take [] (i := 3) (oi := ?_) (v := ?_) ?_ (by kernel_rfl) (by kernel_rfl) (by kernel_rfl) (by kernel_rfl) (by kernel_rfl) (by kernel_rfl) ?_ (Or.inl ⟨?_, ?_⟩) (by assumption) ?_
        rotate_left 2
        · (simp only [List.getElem?_toArray, List.getElem?_cons_succ, List.getElem?_cons_zero]; rfl)
        · exact fun _ _ _ h => h
        · rfl
        · (intro w hSw; (try dsimp only at hSw); go_simp <;> with_reducible rfl)
        (try simp only [Act.put, List.setIfInBounds_toArray, List.set_cons_zero, List.set_cons_succ])
        refine anyG.take [] (i := 4) (oi := ?_) (v := ?_) ?_ (by kernel_rfl) (by kernel_rfl) (by kernel_rfl) (by kernel_rfl) (by kernel_rfl) (by kernel_rfl) ?_ (Or.inl ⟨?_, ?_⟩) (by assumption) ?_
        rotate_left 2
        · (simp only [List.getElem?_toArray, List.getElem?_cons_succ, List.getElem?_cons_zero]; rfl)
        · exact fun _ _ _ h => h
        · rfl
        · (intro w hSw; (try dsimp only at hSw); go_simp <;> with_reducible rfl)
        (try simp only [Act.put, List.setIfInBounds_toArray, List.set_cons_zero, List.set_cons_succ])
        refine anyG.take [] (i := 5) (oi := ?_) (v := ?_) ?_ (by kernel_rfl) (by kernel_rfl) (by kernel_rfl) (by kernel_rfl) (by kernel_rfl) (by kernel_rfl) ?_ (Or.inl ⟨?_, ?_⟩) (by assumption) ?_
        rotate_left 2
        · (simp only [List.getElem?_toArray, List.getElem?_cons_succ, List.getElem?_cons_zero]; rfl)
        · exact fun _ _ _ h => h
        · rfl
        · (intro w hSw; (try dsimp only at hSw); go_simp <;> with_reducible rfl)
        (try simp only [Act.put, List.setIfInBounds_toArray, List.set_cons_zero, List.set_cons_succ])
        refine anyG.ready (rs := [6]) (by kernel_rfl) (by simp) (AllG.early (o := ?o6_11) ?h6_11 (fun K hK => ?s6_11) AllG.nil)
        case h6_11 => (simp only [List.getElem?_toArray, List.getElem?_cons_succ, List.getElem?_cons_zero]; rfl)
        case' s6_11 =>
          (go_simp; refine (Own.jcall HSd.out.snd.snd.snd.snd.snd HCP.out).mono ?_; rintro r wb ⟨v', rfl, hown, ho⟩; obtain ⟨ao, c, rfl, hb1⟩ := HSd.out.bytesFix ho hown; have HB1 := Lib.hid (hb1.ac (by ac_rfl : _ = Sep (RowG 35 (.slice (some ⟨g, 0, none⟩) nh h2.hc) hs) (Sep (Blk bb (.cells #[.slice h2.io ni h2.ic, .slice (some ⟨g, 0, none⟩) nb h2.hc, .slice h2.qo n2 h2.qc, .int .i64 f] 51)) (Sep (Fix fun w => SlC w (.slice ao x.length c) x) (Sep (RowG 34 (.slice h2.io ni h2.ic) b.ids) (Sep (RowG 34 (.slice h2.qo n2 h2.qc) (b.asked ++ [wu (2 * id + 1)])) (Sep (Fix (HdsOk hs b.bs)) J))))))); clear hb1 hown ho HSd)
          refine hK.out _ _ ?_ (fun hHeld => ?_)
          · exact HB1.out.swap.blk4c.1.2.1
          clear hK K
          (try simp only [Act.put, List.setIfInBounds_toArray, List.set_cons_zero, List.set_cons_succ])
          refine anyG.take [] (i := 7) (oi := ?_) (v := ?_) ?_ (by kernel_rfl) (by kernel_rfl) (by kernel_rfl) (by kernel_rfl) (by kernel_rfl) (by kernel_rfl) ?_ (Or.inl ⟨?_, ?_⟩) (by assumption) ?_
          rotate_left 2
          · (simp only [List.getElem?_toArray, List.getElem?_cons_succ, List.getElem?_cons_zero]; rfl)
          · exact fun _ _ _ h => h
          · rfl
          · (intro w hSw; (try dsimp only at hSw); go_simp <;> with_reducible rfl)
          (try simp only [Act.put, List.setIfInBounds_toArray, List.set_cons_zero, List.set_cons_succ])
          have hlt2 : i < (cAll hs).length := by rw [cAll_length, HNH.out, HNB.out]; have := HI.out; show i < nb * 1; omega
          obtain ⟨hcell, hfrz⟩ := own_cellG HB1.out hlt2
          have HB4 := Lib.hid (HB1.out.setG (i := i) rfl (by have h1 := HNH.out; have h2 := HNB.out; have h3 := HI.out; omega) (m := (⟨ao, x.length, c⟩ : Hd)) (v := .slice ao x.length c) rfl)
          refine anyG.ready (rs := [8]) (by kernel_rfl) (by simp) (AllG.late (o := ?o8_12) ?h8_12 (by kernel_rfl) (of_decide_eq_true (by kernel_rfl)) (fun K hK => ?s8_12) AllG.nil)
          case h8_12 => (simp only [List.getElem?_toArray, List.getElem?_cons_succ, List.getElem?_cons_zero]; rfl)
          case' s8_12 =>
            go_simp
            refine hK.out _ _ ?_
            clear hK K
            (try simp only [Act.put, List.setIfInBounds_toArray, List.set_cons_zero, List.set_cons_succ])
            refine anyG.done (by kernel_rfl) ?_
            clear hcell hfrz hlt2 HB1
            generalize World.setCell wb _ _ = wd at *
            go_wp2_with fail
            go_ret
            have h9 : Own w0 wd (Sep (Fix fun w => SlC w (.slice ao x.length c) x) (Sep (Fix (HdsOk hs b.bs)) (Sep (Blk bb (.cells #[.slice h2.io ni h2.ic, .slice (some ⟨g, 0, none⟩) nb h2.hc, .slice h2.qo n2 h2.qc, .int .i64 f] 51)) (Sep (RowG 35 (.slice (some ⟨g, 0, none⟩) nh h2.hc) (hs.set i (⟨ao, x.length, c⟩ : Hd))) (Sep (RowG 34 (.slice h2.io ni h2.ic) b.ids) (Sep (RowG 34 (.slice h2.qo n2 h2.qc) (b.asked ++ [wu (2 * id + 1)])) J)))))) := HB4.out.ac (by ac_rfl)
            have hib : i < b.bs.length := by have h3 := HI.out; have h4 := HNN.out; omega
            have h10 := h9.fix2.fixI (Q := HdsOk (hs.set i (⟨ao, x.length, c⟩ : Hd)) (b.bs.set i x)) fun w hw => HdsOk.set hw.2 HK.out.n hib hw.1 HX.out
            have hbe : ((b.ask (2 * id + 1)).less).take id x = ⟨b.ids, b.bs.set i x, b.asked ++ [wu (2 * id + 1)], f⟩ := by
              rw [HBL.out]
              unfold Bk.take Bk.at
              rw [HA.out]
            refine ⟨by rw [HZ.out]; rfl, ?_⟩
            rw [HZ.out]
            refine Own.shutBkP (hd := h2) (hs := hs.set i ⟨ao, x.length, c⟩) hbe (ni := ni) (nb := nb) (nh := nh) (nq := n2) ?_ ⟨?_, ?_, HK2.out.si, ?_, HK2.out.sq, HFr.out.1, HFr.out.2⟩ HNI.out ?_ ?_ HM.out
            · unfold BkP; rw [HHO.out]; exact h10.ac (by ac_rfl)
            · rw [List.length_set, List.length_set, HK.out.n]
            · rw [List.length_set, HK.out.m]
            · show Shp _ (b.bs.set i x).length _; rw [List.length_set]; exact HK2.out.sb
            · rw [List.length_set, HNN.out]
            · rw [List.length_set, HNH.out]

end Go.Proofs.Ytjmelhmjcbliaaa
