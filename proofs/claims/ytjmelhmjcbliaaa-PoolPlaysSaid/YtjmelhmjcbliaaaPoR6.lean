/-
  The reference's pool: one goes.
-/
import Derived.Test.YtjmelhmjcbliaaaPoR5
import Derived.StillTailTactics
namespace Go.Proofs.Ytjmelhmjcbliaaa
open Go Go.RowKit
set_option linter.unusedVariables false
set_option linter.unusedSimpArgs false
set_option maxRecDepth 100000

theorem next_pin {k i : Nat} {L : List Pl} {x : Pl} (hx : L.getD (i % L.length) default = x) (h : 0 < x.p) : nextP (k + 1) L i = nextP k L (i + 1) := by
  rw [nextP, if_pos (by rw [hx]; exact h)]
theorem next_used {k i : Nat} {L : List Pl} {x : Pl} (hx : L.getD (i % L.length) default = x) (h : x.p = 0) (hu : x.u = true) : nextP (k + 1) L i = nextP k (L.set (i % L.length) { x with u := false }) (i + 1) := by
  rw [nextP, if_neg (by rw [hx]; omega), if_pos (by rw [hx]; exact hu), hx]
theorem next_goes {k i : Nat} {L : List Pl} {x : Pl} (hx : L.getD (i % L.length) default = x) (h : x.p = 0) (hu : x.u = false) : nextP (k + 1) L i = (L, some (i % L.length)) := by
  rw [nextP, if_neg (by rw [hx]; omega), if_neg (by rw [hx, hu]; simp)]
theorem hand_mod {n hd : Nat} (h : hd = 0 ∨ hd < n) : hd % n = hd := by
  rcases h with rfl | h
  · exact Nat.zero_mod _
  · exact Nat.mod_eq_of_lt h
theorem hand_step (i n : Nat) : (i % n + 1) % n = (i + 1) % n := by rw [Nat.add_mod, Nat.mod_mod, ← Nat.add_mod]
theorem rb_get {R : List Rb} {L : List Pl} (hk : R.map (·.v) = L) {j : Nat} (hj : j < R.length) : L.getD j default = (R.getD j default).v := by
  rw [← hk, List.getD_eq_getElem?_getD, List.getD_eq_getElem?_getD, List.getElem?_map, List.getElem?_eq_getElem hj]
  rfl
theorem set_erase {α : Type} : ∀ (l : List α) (j : Nat) (x : α), (l.set j x).eraseIdx j = l.eraseIdx j
  | [], _, _ => rfl
  | _ :: _, 0, _ => rfl
  | c :: l, j + 1, x => by
    show c :: (l.set j x).eraseIdx j = c :: l.eraseIdx j
    rw [set_erase l j x]
theorem goes_at {st : Po} {n j : Nat} {L1 : List Pl} (hn : st.L.length = n) (h : nextP (2 * n) st.L st.hand = (L1, some j)) : st.goes = (if (Po.save { st with L := L1, hand := j } j).2 then ((Po.save { st with L := L1, hand := j } j).1.out j, (L1.getD j default).id, 0) else ((Po.save { st with L := L1, hand := j } j).1, 0, 3)) := by
  unfold Po.goes
  rw [hn, h]
  rfl
/-- Where the loop of goes stands behind k steps. -/
def GoS (w0 W : World) (p bb n k : Nat) (st : Po) (J : Res) : Prop := ∃ (R : List Rb) (L : List Pl) (i : Nat), L.length = n ∧ nextP (2 * n - k) L i = nextP (2 * n) st.L st.hand ∧ Own w0 W (Sep (RpR p bb R { st with L := L, hand := i % n }) J)

set_option maxHeartbeats 8000000 in
theorem rpgoes_any {w0 w : World} {p bb : Nat} {R : List Rb} {st : Po} {J : Res} [Stab J] (h : Own w0 w (Sep (RpR p bb R st) J)) (hl : R.length ≤ 1000000000) (hq : st.bk.asked.length ≤ 1000000000) (hb : st.bk.ids.length ≤ 1000000000) (hh : st.hand = 0 ∨ st.hand < st.L.length) :
    Calls Try.prog 45 #[ptr p] w (fun e w' => e = .returned (.tuple #[.int .u64 st.goes.2.1, .int .i64 st.goes.2.2]) ∧ ∃ R', Own w0 w' (Sep (RpR p bb R' st.goes.1) J)) := by
  obtain ⟨n, hn⟩ : ∃ n, st.L.length = n := ⟨_, rfl⟩
  obtain ⟨hd, hhd⟩ : ∃ x, st.hand = x := ⟨_, rfl⟩
  rw [hn, hhd] at hh
  have H0 : Hid (GoS w0 w p bb n 0 st J) := Lib.hid ⟨R, st.L, hd, hn, by rw [hhd]; rfl, by rw [hand_mod hh, ← hhd]; exact h⟩
  obtain ⟨ro, rc, hk, hO⟩ := h.openRp
  have hln : R.length = n := by rw [rb_len hk, hn]
  unfold rpc at hO
  rw [hhd] at hO
  have c3 := hO.blk4c.1.2.2.2
  have HN := Lib.hid hn
  have HHD := Lib.hid hhd
  have hn9 : (n : Int) ≤ 1000000000 := by omega
  have HQ := Lib.hid hq
  have HB := Lib.hid hb
  clear h hk hO hn hhd hl hln hq hb
  go_enter Try.func45, Try.ntmps45
  go_upto_block 0 with fail
  clear c3
  go_cut [5] (fun _ wx => ∃ (R' : List Rb) (L : List Pl) (H : Nat), nextP (2 * n) st.L st.hand = (L, none) ∧ Hid (Own w0 wx (Sep (RpR p bb R' { st with L := L, hand := H }) J)))
  case first =>
    go_wp2_with fail
    go_loopw [5] (fun v wr => ∃ k : Nat, k ≤ 2 * n ∧ v = .int .i64 (k : Int) ∧ Hid (GoS w0 wr p bb n k st J)) (fun v _ => 2 * n - (intOf v).toNat)
    case atStart => exact ⟨0, Nat.zero_le _, rfl, H0⟩
    case round =>
      clear H0
      obtain ⟨k, hk, rfl, HX⟩ := hrel
      obtain ⟨R1, L1, i, hL1, hnx, hO1⟩ := HX.out
      obtain ⟨ro1, rc1, hk1, hO2⟩ := hO1.openRp
      have hR1 : R1.length = n := by rw [rb_len hk1]; exact hL1
      have HR1 := Lib.hid hR1
      have HNX := Lib.hid hnx
      have HO1 := Lib.hid hO1
      have HO2 := Lib.hid hO2
      have HK1 := Lib.hid hk1
      have HL1 := Lib.hid hL1
      unfold rpc at hO2
      rw [hR1] at hO2
      obtain ⟨⟨c0, c1, c2, c3⟩, f0, f1, f2, f3⟩ := hO2.blk4c
      have hw2 : wrap64 (2 * (n : Int)) = 2 * (n : Int) := IntWalk.wrap64_in _ ⟨by omega, by omega⟩
      clear HX hL1 hnx hO1 hO2 hk1 hR1
      by_cases hlt : k < 2 * n
      · have hltI : (k : Int) < 2 * (n : Int) := by omega
        have hk0 : (0 : Int) ≤ (k : Int) := by omega
        obtain ⟨j, hj⟩ : ∃ j, i % n = j := ⟨_, rfl⟩
        have hn0 : 0 < n := by omega
        have hjn : j < n := by rw [← hj]; exact Nat.mod_lt _ hn0
        have hjI : (j : Int) < (n : Int) := by omega
        have hj0 : (0 : Int) ≤ (j : Int) := by omega
        rw [hj] at c3 HO1 HO2
        have HJ := Lib.hid hj
        obtain ⟨g, rfl, r0, r1, r2, r3, r4⟩ := HO2.out.snd.rbCell (j := j) (by rw [HR1.out]; exact hjn)
        obtain ⟨x, hx⟩ : ∃ x, R1.getD j default = x := ⟨_, rfl⟩
        rw [hx] at r0 r1 r2 r3 r4
        obtain ⟨xo, xc, xv⟩ := x
        obtain ⟨xi, xb, xd, xp, xu⟩ := xv
        dsimp only at r0 r1 r2 r3 r4
        have HXX := Lib.hid hx
        have HGT : Hid (L1.getD (i % L1.length) default = ⟨xi, xb, xd, xp, xu⟩) := Lib.hid (by rw [HL1.out, hj, rb_get HK1.out (by rw [HR1.out]; exact hjn), hx])
        clear hx hj
        have HO3 : Hid (Own w0 wr (Sep (Blk p (.cells #[ptr bb, .int .i64 (st.most : Int), .slice (some ⟨g, 0, none⟩) n rc1, .int .i64 (j : Int)] 33)) (Sep (RowG 74 (.slice (some ⟨g, 0, none⟩) R1.length rc1) R1) (Sep (Fix (RbsOk R1)) (Sep (BkR bb st.bk) J))))) := Lib.hid (by
          have h1 := HO2.out
          unfold rpc at h1
          rw [HR1.out] at h1
          rw [HR1.out]
          exact h1)
        clear HO2
        go_upto_region 5 with fail
        go_quiet (fail)
        have HO4 := Lib.hid (HO3.out.drewN nq)
        have HO14 := Lib.hid (HO1.out.drewN nq)
        generalize World.drewN wr _ = w4 at *
        clear c0 c1 c2 c3 f0 f1 f2 f3 r0 r1 r2 r3 r4 HO3 HO1
        obtain ⟨⟨c0, c1, c2, c3⟩, f0, f1, f2, f3⟩ := HO4.out.blk4c
        obtain ⟨g2, hg2, r0, r1, r2, r3, r4⟩ := HO4.out.snd.rbCell (j := j) (by rw [HR1.out]; exact hjn)
        simp only [Option.some.injEq, Addr.mk.injEq, and_true] at hg2
        subst hg2
        rw [HXX.out] at r0 r1 r2 r3 r4
        dsimp only at r0 r1 r2 r3 r4
        have hjw : IntKind.i64.wrap ((j : Int) + 1) = (j : Int) + 1 := IntWalk.i64_in _ ⟨by omega, by omega⟩
        have htm : ((j : Int) + 1).tmod (n : Int) = (((j + 1) % n : Nat) : Int) := by rw [Int.tmod_eq_emod_of_nonneg (by omega)]; push_cast; rfl
        by_cases hp : xp = 0
        · subst hp
          cases xu with
          | false =>
            have hng : nextP (2 * n) st.L st.hand = (L1, some j) := by
              rw [← HNX.out]
              have h1 := next_goes (k := 2 * n - k - 1) (i := i) (L := L1) (x := ⟨xi, xb, xd, 0, false⟩) HGT.out rfl rfl
              have e : 2 * n - k = 2 * n - k - 1 + 1 := by omega
              rw [e, h1, HL1.out, HJ.out]
            have hga := goes_at HN.out hng
            have hL1j : L1.getD j default = ⟨xi, xb, xd, 0, false⟩ := by have h1 := HGT.out; rw [HL1.out, HJ.out] at h1; exact h1
            rw [hL1j] at hga
            have hjR : j < R1.length := by rw [HR1.out]; exact hjn
            cases xd with
            | false =>
              have hsv : Po.save { st with L := L1, hand := j } j = ({ st with L := L1, hand := j }, true) := by
                unfold Po.save
                rw [if_neg]
                show ¬ (L1.getD j default).d = true
                rw [hL1j]
                simp
              rw [hsv] at hga
              have HGA := Lib.hid hga
              have hou := rpout_any HO14.out j hjR (by rw [HR1.out]; omega) (.inr (by show j < L1.length; rw [HL1.out]; exact hjn))
              have HOU := Lib.hid hou
              clear hga hsv hou hng hL1j hjR hjw htm HO4 HO14
              go_wp2_with fail
              refine HOU.out.mono ?_
              rintro e w7 ⟨rfl, ho⟩
              have HO7 := Lib.hid ho
              clear HOU ho c0 c1 c2 c3 f0 f1 f2 f3 r0 r1 r2 r3 r4
              go_wp2_with fail
              go_ret2
              rw [HGA.out]
              exact ⟨rfl, _, HO7.out⟩
            | true =>
              have hsave : Po.save { st with L := L1, hand := j } j = if (st.bk.save xi xb).2 then ({ st with L := L1.set j ⟨xi, xb, false, 0, false⟩, hand := j, bk := (st.bk.save xi xb).1 }, true) else ({ st with L := L1, hand := j, bk := (st.bk.save xi xb).1 }, false) := by
                have hpl : Po.pl { st with L := L1, hand := j } j = ⟨xi, xb, true, 0, false⟩ := hL1j
                unfold Po.save
                rw [hpl]
                rfl
              have hmem : R1.getD j default ∈ R1 := getD_mem hjR _
              have hbx : ∀ W, RbsOk R1 W → SlC W (.slice xo xb.length xc) xb ∧ xb.length ≤ 140737488351232 := fun W hW => by
                have h8 := hW _ hmem
                rw [HXX.out] at h8
                exact h8
              have ho5 : Own w0 w4.drew (Sep (BkR bb st.bk) (Sep (Fix (RbsOk R1)) (Sep (Blk p (.cells #[ptr bb, .int .i64 (st.most : Int), .slice (some ⟨g, 0, none⟩) n rc1, .int .i64 (j : Int)] 33)) (Sep (RowG 74 (.slice (some ⟨g, 0, none⟩) R1.length rc1) R1) J)))) := HO4.out.drew.ac (by ac_rfl)
              have hsv := bsave_any ho5 xi (.slice xo xb.length xc) xb HQ.out HB.out (fun W F hJ _ => (hbx W (jfix hJ)).1) (hbx _ ho5.snd.fixed).2
              have HSV := Lib.hid hsv
              obtain ⟨bl, hbl⟩ : ∃ l, xb.length = l := ⟨_, rfl⟩
              have HBL := Lib.hid hbl
              rw [hbl] at r1
              have HGA := Lib.hid hga
              have HSVE := Lib.hid hsave
              clear hga hsave hsv ho5 hbx hmem hng hL1j hbl hjw htm HO14
              go_upto_region 8 with fail
              go_still_tail 12, (by kernel_rfl)
              change wpList _ _ _ _ _ w4.drew
              rw [HBL.out] at HSV
              go_wp2_with fail
              refine HSV.out.mono ?_
              rintro e w7 ⟨rfl, ho⟩
              have c37 := (ho.ac (by ac_rfl : _ = Sep (Blk p (.cells #[ptr bb, .int .i64 (st.most : Int), .slice (some ⟨g, 0, none⟩) n rc1, .int .i64 (j : Int)] 33)) (Sep (BkR bb (st.bk.save xi xb).1) (Sep (Fix (RbsOk R1)) (Sep (RowG 74 (.slice (some ⟨g, 0, none⟩) R1.length rc1) R1) J))))).blk4c.1.2.2.2
              obtain ⟨g7, hg7, r07, _⟩ := (ho.ac (by ac_rfl : _ = Sep (RowG 74 (.slice (some ⟨g, 0, none⟩) R1.length rc1) R1) (Sep (Blk p (.cells #[ptr bb, .int .i64 (st.most : Int), .slice (some ⟨g, 0, none⟩) n rc1, .int .i64 (j : Int)] 33)) (Sep (BkR bb (st.bk.save xi xb).1) (Sep (Fix (RbsOk R1)) J))))).rbCell hjR
              simp only [Option.some.injEq, Addr.mk.injEq, and_true] at hg7
              subst hg7
              rw [HXX.out] at r07
              dsimp only at r07
              have HO7 : Hid (Own w0 w7 (Sep (RpR p bb R1 { st with L := L1, hand := j, bk := (st.bk.save xi xb).1 }) J)) := Lib.hid (Own.shutRp (ro := some ⟨g, 0, none⟩) (rc := rc1) HK1.out (by
                unfold rpc
                rw [HR1.out]
                rw [HR1.out] at ho
                exact ho.ac (by ac_rfl)))
              clear HSV ho c0 c1 c2 c3 f0 f1 f2 f3 r0 r1 r2 r3 r4 HO4
              have hou := rpout_any HO7.out j hjR (by rw [HR1.out]; omega) (.inr (by show j < L1.length; rw [HL1.out]; exact hjn))
              have HOU := Lib.hid hou
              clear hou
              cases hb2 : (st.bk.save xi xb).2 with
              | true =>
                have heq : Po.out { st with L := L1.set j ⟨xi, xb, false, 0, false⟩, hand := j, bk := (st.bk.save xi xb).1 } j = Po.out { st with L := L1, hand := j, bk := (st.bk.save xi xb).1 } j := by
                  unfold Po.out
                  simp only [set_erase, List.length_set]
                have hgo : st.goes = (Po.out { st with L := L1, hand := j, bk := (st.bk.save xi xb).1 } j, xi, 0) := by
                  rw [HGA.out, HSVE.out, hb2, ← heq]
                  rfl
                have HGO := Lib.hid hgo
                clear heq hgo hb2
                go_wp2_with fail
                refine HOU.out.mono ?_
                rintro e w8 ⟨rfl, ho8⟩
                have HO8 := Lib.hid ho8
                clear HOU ho8 c37 r07
                go_wp2_with fail
                go_ret2
                rw [HGO.out]
                exact ⟨rfl, _, HO8.out⟩
              | false =>
                have hgo : st.goes = ({ st with L := L1, hand := j, bk := (st.bk.save xi xb).1 }, 0, 3) := by
                  rw [HGA.out, HSVE.out, hb2]
                  rfl
                have HGO := Lib.hid hgo
                clear hgo hb2 HOU c37 r07
                go_wp2_with fail
                go_ret2
                rw [HGO.out]
                exact ⟨rfl, _, HO7.out⟩
          | true =>
            have z4 := HO4.out.snd.rbFree (j := j) (i := 4) (by rw [HR1.out]; exact hjn) (by decide)
            go_upto_region 16 with fail
            have HO5 : Hid (Own w0 _ (Sep (RowG 74 (.slice (some ⟨g, 0, none⟩) R1.length rc1) (R1.set j ⟨xo, xc, ⟨xi, xb, xd, 0, false⟩⟩)) (Sep (Blk p (.cells #[ptr bb, .int .i64 (st.most : Int), .slice (some ⟨g, 0, none⟩) n rc1, .int .i64 (j : Int)] 33)) (Sep (Fix (RbsOk R1)) (Sep (BkR bb st.bk) J))))) := Lib.hid (HO4.out.swap.rbSet (j := j) (i := 4) (by rw [HR1.out]; exact hjn) (by decide) (.bool false) ⟨xo, xc, ⟨xi, xb, xd, 0, false⟩⟩ (by rw [HXX.out]; rfl))
            generalize World.setCell w4 _ _ = w5 at *
            clear c0 c1 c2 c3 f0 f1 f2 f3 r0 r1 r2 r3 r4 z4 HO4
            obtain ⟨⟨c0, c1, c2, c3⟩, f0, f1, f2, f3⟩ := HO5.out.swap.blk4c
            have hnz : ¬ n = 0 := by omega
            go_still_tail 14, (by kernel_rfl)
            change wpList _ _ _ _ _ w5.drew
            have HO6 := Lib.hid HO5.out.swap.drew
            clear c0 c1 c2 c3 f0 f1 f2 f3
            generalize World.drew w5 = w6 at *
            obtain ⟨⟨c0, c1, c2, c3⟩, f0, f1, f2, f3⟩ := HO6.out.blk4c
            have hnx2 := next_used (k := 2 * n - (k + 1)) (i := i) (L := L1) (x := ⟨xi, xb, xd, 0, true⟩) HGT.out rfl rfl
            have HNX2 := Lib.hid hnx2
            clear hnx2 hjw htm hnz HO5
            go_wp2_with fail
            go_roundw
            case rel =>
              have h6 : Own w0 _ (Sep (Blk p (.cells #[ptr bb, .int .i64 (st.most : Int), .slice (some ⟨g, 0, none⟩) n rc1, .int .i64 (((j + 1) % n : Nat) : Int)] 33)) (Sep (RowG 74 (.slice (some ⟨g, 0, none⟩) R1.length rc1) (R1.set j ⟨xo, xc, ⟨xi, xb, xd, 0, false⟩⟩)) (Sep (Fix (RbsOk R1)) (Sep (BkR bb st.bk) J)))) := HO6.out.store 3 (.int .i64 (((j + 1) % n : Nat) : Int))
              have hmap : (R1.set j ⟨xo, xc, ⟨xi, xb, xd, 0, false⟩⟩).map (·.v) = L1.set (i % L1.length) { (⟨xi, xb, xd, 0, true⟩ : Pl) with u := false } := by
                have h1 : R1.map (·.v) = L1 := HK1.out
                rw [List.map_set, h1, HL1.out, HJ.out]
              refine ⟨k + 1, by omega, by go_num, Lib.hid ⟨R1.set j ⟨xo, xc, ⟨xi, xb, xd, 0, false⟩⟩, L1.set (i % L1.length) { (⟨xi, xb, xd, 0, true⟩ : Pl) with u := false }, i + 1, by rw [List.length_set]; exact HL1.out, ?_, ?_⟩⟩
              · rw [← HNX2.out, ← HNX.out]
                congr 1
                omega
              · refine Own.shutRp (ro := some ⟨g, 0, none⟩) (rc := rc1) hmap ?_
                unfold rpc
                rw [← hand_step i n, HJ.out, List.length_set, HR1.out]
                rw [HR1.out] at h6
                have h7 := (h6.ac (by ac_rfl : _ = Sep (Fix (RbsOk R1)) (Sep (Blk p (.cells #[ptr bb, .int .i64 (st.most : Int), .slice (some ⟨g, 0, none⟩) n rc1, .int .i64 (((j + 1) % n : Nat) : Int)] 33)) (Sep (RowG 74 (.slice (some ⟨g, 0, none⟩) n rc1) (R1.set j ⟨xo, xc, ⟨xi, xb, xd, 0, false⟩⟩)) (Sep (BkR bb st.bk) J))))).fixI (Q := RbsOk (R1.set j ⟨xo, xc, ⟨xi, xb, xd, 0, false⟩⟩)) (fun W hW y hy => by
                  rcases List.mem_or_eq_of_mem_set hy with h | rfl
                  · exact hW y h
                  · have h8 := hW (R1.getD j default) (getD_mem (by rw [HR1.out]; exact hjn) _)
                    rw [HXX.out] at h8
                    exact h8)
                exact h7.ac (by ac_rfl)
            case measure => simp [intOf]; omega
        · have hpI : ¬ (xp : Int) = 0 := by omega
          go_upto_region 16 with fail
          have hnz : ¬ n = 0 := by omega
          go_still_tail 14, (by kernel_rfl)
          change wpList _ _ _ _ _ w4.drew
          have HO5 := Lib.hid HO4.out.drew
          clear c0 c1 c2 c3 f0 f1 f2 f3 r0 r1 r2 r3 r4
          generalize World.drew w4 = w5 at *
          obtain ⟨⟨c0, c1, c2, c3⟩, f0, f1, f2, f3⟩ := HO5.out.blk4c
          have hnx2 := next_pin (k := 2 * n - (k + 1)) (i := i) (L := L1) (x := ⟨xi, xb, xd, xp, xu⟩) HGT.out (by show 0 < xp; omega)
          have HNX2 := Lib.hid hnx2
          clear hnx2 hjw htm hnz
          go_wp2_with fail
          go_roundw
          case rel =>
            have h6 : Own w0 _ (Sep (Blk p (.cells #[ptr bb, .int .i64 (st.most : Int), .slice (some ⟨g, 0, none⟩) n rc1, .int .i64 (((j + 1) % n : Nat) : Int)] 33)) (Sep (RowG 74 (.slice (some ⟨g, 0, none⟩) R1.length rc1) R1) (Sep (Fix (RbsOk R1)) (Sep (BkR bb st.bk) J)))) := HO5.out.store 3 (.int .i64 (((j + 1) % n : Nat) : Int))
            refine ⟨k + 1, by omega, by go_num, Lib.hid ⟨R1, L1, i + 1, HL1.out, ?_, ?_⟩⟩
            · rw [← HNX2.out, ← HNX.out]
              congr 1
              omega
            · refine Own.shutRp (ro := some ⟨g, 0, none⟩) (rc := rc1) HK1.out ?_
              unfold rpc
              rw [← hand_step i n, HJ.out, HR1.out]
              rw [HR1.out] at h6
              exact h6
          case measure => simp [intOf]; omega
      · have hkn : ¬ (k : Int) < 2 * (n : Int) := by omega
        obtain rfl : k = 2 * n := by omega
        have hnil : nextP (2 * n) st.L st.hand = (L1, none) := by rw [← HNX.out, Nat.sub_self]; rfl
        have HNIL := Lib.hid hnil
        clear hnil hlt
        go_wp2_with fail
        go_meet
        exact ⟨R1, L1, _, HNIL.out, HO1⟩
  case rest =>
    clear H0
    obtain ⟨R1, L1, H, hnil, HO⟩ := hcut
    obtain ⟨w5, hw5⟩ : ∃ W, W = wc := ⟨wc, rfl⟩
    subst hw5
    have hg : st.goes = ({ st with L := L1 }, 0, 9) := by
      rw [goes_none (by rw [HN.out, hnil]), HN.out, hnil]
    have HG := Lib.hid hg
    obtain ⟨ro1, rc1, hk1, hO2⟩ := HO.out.openRp
    have HO2 := Lib.hid hO2
    have HK1 := Lib.hid hk1
    unfold rpc at hO2
    obtain ⟨⟨c0, c1, c2, c3⟩, f0, f1, f2, f3⟩ := hO2.blk4c
    clear hnil hg hk1 hO2
    go_wp2_with fail
    go_ret2
    rw [HG.out]
    have h5 : Own w0 _ (Sep (Blk p (.cells #[ptr bb, .int .i64 (st.most : Int), .slice ro1 R1.length rc1, .int .i64 (hd : Int)] 33)) (Sep (RowG 74 (.slice ro1 R1.length rc1) R1) (Sep (Fix (RbsOk R1)) (Sep (BkR bb st.bk) J)))) := HO2.out.store 3 (.int .i64 (hd : Int))
    refine ⟨rfl, R1, Own.shutRp (ro := ro1) (rc := rc1) HK1.out ?_⟩
    unfold rpc
    rw [HHD.out]
    exact h5

end Go.Proofs.Ytjmelhmjcbliaaa
