/-
  The walk of the statement ExtentTwice.
-/
import Derived.Test.YtfclfmobmaemkaaExt7
import Derived.Test.YtfclfmobmaemkaaExtArg
import Derived.Deep.DeepCutAuto
import Derived.Deep.CutBlock
namespace Go.Proofs.Ytfclfmobmaemkaa
open Go Go.RowKit
set_option linter.unusedVariables false
set_option linter.unusedSimpArgs false
set_option maxRecDepth 100000

def xmodN (m : Nat) (z : Int) : Nat := ((wrap64 (z.tmod m + m)).tmod m).toNat
theorem xmodN_spec (m : Nat) (h0 : 0 < m) (hm : m ≤ 1000) (z : Int) : xmodN m z < m ∧ (wrap64 (z.tmod m + m)).tmod m = (xmodN m z : Int) := by
  have h1 : -(m : Int) < z.tmod m ∧ z.tmod m < m := by
    have a := Int.tmod_lt_of_pos z (show (0 : Int) < m by omega)
    have b := Int.lt_tmod_of_pos z (show (0 : Int) < m by omega)
    exact ⟨by omega, a⟩
  have h2 : wrap64 (z.tmod m + m) = z.tmod m + m := IntWalk.wrap64_in _ ⟨by omega, by omega⟩
  unfold xmodN
  rw [h2]
  have h3 : 0 ≤ (z.tmod m + m).tmod m := Int.tmod_nonneg _ (by omega)
  have h4 : (z.tmod m + m).tmod m < m := Int.tmod_lt_of_pos _ (by omega)
  exact ⟨by omega, by omega⟩

theorem op_cells3 {w0 w : World} {A B J : Res} {op : Nat} {u v x : Value} (h : Own w0 w (Sep A (Sep B (Sep (Blk op (.cells #[u, v, x] 38 (0, 0))) J)))) : w.cell? ⟨op, 0, none⟩ = some u ∧ w.cell? ⟨op, 1, none⟩ = some v ∧ w.cell? ⟨op, 2, none⟩ = some x := by
  have h1 := h.snd.snd.held
  exact ⟨blk_cell h1 0 rfl, blk_cell h1 1 rfl, blk_cell h1 2 rfl⟩

theorem own_drop3 {w0 w : World} {A B C J : Res} (h : Own w0 w (Sep A (Sep B (Sep C J)))) : Own w0 w (Sep B (Sep A J)) := (h.swap.assoc'.ac (J := Sep C (Sep B (Sep A J))) (by ac_rfl)).snd

set_option maxRecDepth 100000 in
set_option maxHeartbeats 4000000 in
theorem twice_walk (z : Int) (ao : Option Addr) (c : Nat) (os : List OpE) (w : World) (ho : SlE w ao os) :
    Calls Try.prog 6 #[.int .i64 z, .slice ao os.length c] w fun e w' => e = .returned (.bool true) ∧ Quiet w w' := by
  obtain ⟨h100, hm⟩ := xmodN_spec 100 (by decide) (by decide) z
  have hm : (wrap64 (z.tmod 100 + 100)).tmod 100 = (xmodN 100 z : Int) := hm
  obtain ⟨y, hy⟩ : ∃ y, y = xmodN 100 z := ⟨_, rfl⟩
  rw [← hy] at h100 hm
  obtain ⟨yy, hyy⟩ : ∃ yy : Int, yy = (wrap64 (z.tmod 100 + 100)).tmod 100 := ⟨_, rfl⟩
  rw [← hyy] at hm
  have HO := Lib.hid ho
  have HM := Lib.hid hm
  have HYY := Lib.hid hyy
  have H100 := Lib.hid h100
  clear ho hm hy hyy h100
  go_enter Try.func6, Try.ntmps6
  go_wp2_with fail
  refine (xawake_any w).mono ?_
  rintro e w0 ⟨rfl, hq⟩
  have H0 := Lib.hid ((Own.start w).quiet hq); clear hq
  go_wp2_with fail
  rw [← HYY.out, HM.out]
  clear HM HYY
  have hy0 : (y : Int) < 100 := by have := H100.out; omega
  have hy1 : (0 : Int) ≤ (y : Int) := by omega
  refine (xown_new H0.out 0 40 40 (by decide) (by decide)).mono ?_
  rintro e w1 ⟨p, rfl, h1⟩
  have H1 := Lib.hid h1; clear h1 H0
  go_wp2_with fail
  refine (xown_new H1.out y 40 ((y : Int) + 40) rfl (by have := H100.out; omega)).mono ?_
  rintro e w2 ⟨q, rfl, h2⟩
  have H2 : Hid (Own w w2 (Sep (SpR 51 p 0 (List.replicate 40 false)) (Sep (SpR 51 q y (List.replicate 40 false)) Emp))) := Lib.hid (h2.ac (by ac_rfl)); clear h2 H1
  go_wp2_with fail
  go_loopw [9] (fun i wr => ∃ (k : Nat) (l : List Bool), k ≤ os.length ∧ k ≤ 100 ∧ i = .int .i64 k ∧ l.length = 40 ∧ Hid (Own w wr (Sep (SpR 51 p 0 l) (Sep (SpR 51 q y l) Emp)))) (fun i _ => os.length - (intOf i).toNat)
  case atStart => exact ⟨0, _, Nat.zero_le _, by omega, rfl, List.length_replicate, H2⟩
  case round =>
    clear H2
    obtain ⟨k, l, hk, hk2, rfl, hl40, HP⟩ := hrel
    have HLN := Lib.hid hl40
    clear hl40
    by_cases hin : k < os.length ∧ k < 100
    · obtain ⟨hlt, h100⟩ := hin
      have hltI : (k : Int) < (os.length : Int) := by omega
      have h100I : (k : Int) < 100 := by omega
      have hk0 : (0 : Int) ≤ (k : Int) := by omega
      obtain ⟨g, off, rfl, hx⟩ := HO.out k hlt
      obtain ⟨x, hxe⟩ : ∃ x, x = os.getD k default := ⟨_, rfl⟩
      rw [← hxe] at hx
      clear hxe
      have hx := hx.keep HP.out.only
      obtain ⟨xk, xs, xn⟩ := x
      obtain ⟨d0, d1, d2, rk, rs, rn⟩ := hx
      simp only at d0 d1 d2 rk rs rn
      have HRN := Lib.hid rn
      have HRS := Lib.hid rs
      have HLT := Lib.hid hlt
      have HL1 := Lib.hid h100
      clear hk hk2 rn rk
      by_cases hout : xs < -1000 ∨ 1000 < xs
      · have HR1 : Hid (Own w _ (Sep (SpR 51 p 0 l) (Sep (SpR 51 q y l) Emp))) := Lib.hid ((HP.out.alloc (.cells #[.int .i64 xk, .int .i64 xs, .int .i64 xn] 38)).snd)
        clear HP
        by_cases hs1 : xs < -1000
        · have hs1d : decide (xs < -1000) = true := decide_eq_true hs1
          clear hout
          go_wp2_with fail
          go_roundw
          case rel => exact ⟨k + 1, l, HLT.out, HL1.out, by go_num, HLN.out, HR1⟩
          case measure => have := HLT.out; simp [intOf]; omega
        · have hs2 : 1000 < xs := by omega
          have hs1d : decide (xs < -1000) = false := decide_eq_false hs1
          have hs2d : decide (1000 < xs) = true := decide_eq_true hs2
          clear hout hs1
          go_wp2_with fail
          go_roundw
          case rel => exact ⟨k + 1, l, HLT.out, HL1.out, by go_num, HLN.out, HR1⟩
          case measure => have := HLT.out; simp [intOf]; omega
      · have hs1 : ¬ xs < -1000 := by omega
        have hs2 : ¬ 1000 < xs := by omega
        have hs1d : decide (xs < -1000) = false := decide_eq_false hs1
        have hs2d : decide (1000 < xs) = false := decide_eq_false hs2
        have hsa : -1000 ≤ xs := by omega
        have hsb : xs ≤ 1000 := by omega
        clear hout hs1 hs2
        go_upto_region 12 with fail
        have hpl : Own w _ (Sep (SpR 51 p 0 l) (Sep (SpR 51 q y l) (Sep (Blk wr.heap.size (.cells #[.int .i64 xk, .int .i64 xs, .int .i64 xn] 38 (0, 0))) Emp))) := (HP.out.alloc (.cells #[.int .i64 xk, .int .i64 xs, .int .i64 xn] 38)).ac (by ac_rfl)
        obtain ⟨op, hop⟩ : ∃ op, op = wr.heap.size := ⟨_, rfl⟩
        rw [← hop] at hpl ⊢
        clear d0 d1 d2 hop HP
        generalize wr.alloc (.cells #[.int .i64 xk, .int .i64 xs, .int .i64 xn] 38) = w3 at *
        obtain ⟨e0, e1, e2⟩ := op_cells3 hpl
        have HPO := Lib.hid hpl
        clear hpl
        go_wp2_with fail
        refine (xown_left HPO.out).mono ?_
        rintro e w4 ⟨rfl, h4⟩
        obtain ⟨f0, f1, f2⟩ := op_cells3 h4
        have H4 := Lib.hid h4
        clear h4 HPO e0 e1 e2
        go_upto_block 2 with fail
        obtain ⟨hq3, hqe⟩ := xmodN_spec 3 (by decide) (by decide) xk
        have hqe2 : (wrap64 (xk.tmod 3 + 3)).tmod 3 = (xmodN 3 xk : Int) := hqe
        obtain ⟨qv, hqv⟩ : ∃ qv : Int, qv = (wrap64 (xk.tmod 3 + 3)).tmod 3 := ⟨_, rfl⟩
        have hkinds : qv = 0 ∨ qv = 1 ∨ qv = 2 := by omega
        rw [← hqv]
        have HKD := Lib.hid hkinds
        obtain ⟨m, hm⟩ : ∃ m, m = l.count false := ⟨_, rfl⟩
        rw [← hm]
        have HMM := Lib.hid hm
        clear hq3 hqe hqe2 hqv hkinds hm
        go_cut [9, 11, 12] (fun s g h wx => s = .int .i64 k ∧ ∃ (E : Nat) (l' : List Bool), g = .int .i64 E ∧ h = .int .i64 E ∧ Hid (l'.length = 40) ∧ Hid ((E = 0 → l'.count false ≠ l.count false) ∧ (E ≠ 0 → l' = l)) ∧ Hid (Own w wx (Sep (SpR 51 p 0 l') (Sep (SpR 51 q y l') Emp))))
        case first =>
          rcases HKD.out with rfl | rfl | rfl
          · as_aux_lemma =>
              by_cases hE : allocE l xn = 0
              · obtain ⟨d, hn1, _, hd, _, _, hV⟩ := alloc_free hE
                have HR : Hid ((allocL l xn).count false ≠ l.count false) := Lib.hid (alloc_count hE)
                have hd2 : (d : Int) ≤ 40 := by
                  have := HLN.out
                  omega
                have HE := Lib.hid hE
                have HV := Lib.hid hV
                clear hE hV hd hn1
                go_wp2_with fail
                refine (xown_alloc H4.out xn HRN.out).mono ?_
                rintro e w5 ⟨rfl, h5⟩
                obtain ⟨e0, e1, e2⟩ := op_cells3 h5
                rw [HE.out, HV.out 0, Nat.zero_add]
                have H5 := Lib.hid h5.swap
                clear h5 f0 f1 f2
                go_wp2_with fail
                refine (xown_alloc H5.out xn HRN.out).mono ?_
                rintro e w6 ⟨rfl, h6⟩
                rw [HE.out, HV.out y]
                have H6 : Hid (Own w w6 (Sep (SpR 51 p 0 (allocL l xn)) (Sep (SpR 51 q y (allocL l xn)) Emp))) := Lib.hid (own_drop3 h6)
                obtain ⟨vy, hvy⟩ : ∃ vy : Int, vy = ((y + d : Nat) : Int) := ⟨_, rfl⟩
                rw [← hvy]
                have hvn : (vy != (d : Int) + (y : Int)) = false := by rw [hvy]; simp; omega
                clear h6 H5 e0 e1 e2 hvy
                go_wp2_with fail
                go_meet
                exact ⟨rfl, 0, _, rfl, rfl, Lib.hid ((allocL_length l xn).trans HLN.out), Lib.hid ⟨fun _ => HR.out, fun h => absurd rfl h⟩, H6⟩
              · have HS := Lib.hid (alloc_same hE)
                have hE1 : ((allocE l xn : Int) == 0) = false := by simpa using hE
                obtain ⟨E, hEE⟩ : ∃ E, E = allocE l xn := ⟨_, rfl⟩
                rw [← hEE] at hE hE1
                have HE := Lib.hid hEE
                have HEN := Lib.hid hE
                clear hE hEE
                go_wp2_with fail
                refine (xown_alloc H4.out xn HRN.out).mono ?_
                rintro e w5 ⟨rfl, h5⟩
                obtain ⟨e0, e1, e2⟩ := op_cells3 h5
                rw [← HE.out, (HS.out 0).2]
                rw [(HS.out 0).1] at h5
                have H5 := Lib.hid h5.swap
                clear h5 f0 f1 f2
                go_wp2_with fail
                refine (xown_alloc H5.out xn HRN.out).mono ?_
                rintro e w6 ⟨rfl, h6⟩
                rw [← HE.out, (HS.out y).2]
                rw [(HS.out 0).1] at h6
                have H6 : Hid (Own w w6 (Sep (SpR 51 p 0 l) (Sep (SpR 51 q y l) Emp))) := Lib.hid (own_drop3 h6)
                clear h6 H5 e0 e1 e2
                go_wp2_with fail
                go_meet
                exact ⟨rfl, E, _, rfl, rfl, HLN, Lib.hid ⟨fun h => absurd h HEN.out, fun _ => rfl⟩, H6⟩
          · as_aux_lemma =>
              have hmv := turn_moved l xs xn true y
              have HR : Hid ((turnE 0 l xs xn true = 0 → (turnL 0 l xs xn true).count false ≠ l.count false) ∧ (turnE 0 l xs xn true ≠ 0 → turnL 0 l xs xn true = l)) := Lib.hid ⟨turn_count, turn_same⟩
              have HMV := Lib.hid hmv
              have hxs : i64R' (xs + y) := by unfold i64R'; omega
              have HXS := Lib.hid hxs
              clear hmv hxs
              go_wp2_with fail
              refine (xown_take H4.out xs xn HRS.out HRN.out).mono ?_
              rintro e w5 ⟨rfl, h5⟩
              obtain ⟨e0, e1, e2⟩ := op_cells3 h5
              have H5 := Lib.hid h5.swap
              clear h5 f0 f1 f2
              obtain ⟨E, hE⟩ : ∃ E, E = turnE 0 l xs xn true := ⟨_, rfl⟩
              rw [← hE]
              have HE := Lib.hid hE
              clear hE
              go_wp2_with fail
              refine (xown_take H5.out (xs + y) xn HXS.out HRN.out).mono ?_
              rintro e w6 ⟨rfl, h6⟩
              rw [HMV.out.1, ← HE.out]
              rw [HMV.out.2] at h6
              have H6 : Hid (Own w w6 (Sep (SpR 51 p 0 (turnL 0 l xs xn true)) (Sep (SpR 51 q y (turnL 0 l xs xn true)) Emp))) := Lib.hid (own_drop3 h6)
              clear h6 H5 e0 e1 e2
              go_wp2_with fail
              go_meet
              exact ⟨rfl, E, _, rfl, rfl, Lib.hid ((turnL_length _ _ _ _ _).trans HLN.out), Lib.hid (by rw [HE.out]; exact HR.out), H6⟩
          · as_aux_lemma =>
              have hmv := turn_moved l xs xn false y
              have HR : Hid ((turnE 0 l xs xn false = 0 → (turnL 0 l xs xn false).count false ≠ l.count false) ∧ (turnE 0 l xs xn false ≠ 0 → turnL 0 l xs xn false = l)) := Lib.hid ⟨turn_count, turn_same⟩
              have HMV := Lib.hid hmv
              have hxs : i64R' (xs + y) := by unfold i64R'; omega
              have HXS := Lib.hid hxs
              clear hmv hxs
              go_wp2_with fail
              refine (xown_free H4.out xs xn HRS.out HRN.out).mono ?_
              rintro e w5 ⟨rfl, h5⟩
              obtain ⟨e0, e1, e2⟩ := op_cells3 h5
              have H5 := Lib.hid h5.swap
              clear h5 f0 f1 f2
              obtain ⟨E, hE⟩ : ∃ E, E = turnE 0 l xs xn false := ⟨_, rfl⟩
              rw [← hE]
              have HE := Lib.hid hE
              clear hE
              go_wp2_with fail
              refine (xown_free H5.out (xs + y) xn HXS.out HRN.out).mono ?_
              rintro e w6 ⟨rfl, h6⟩
              rw [HMV.out.1, ← HE.out]
              rw [HMV.out.2] at h6
              have H6 : Hid (Own w w6 (Sep (SpR 51 p 0 (turnL 0 l xs xn false)) (Sep (SpR 51 q y (turnL 0 l xs xn false)) Emp))) := Lib.hid (own_drop3 h6)
              clear h6 H5 e0 e1 e2
              go_wp2_with fail
              go_meet
              exact ⟨rfl, E, _, rfl, rfl, Lib.hid ((turnL_length _ _ _ _ _).trans HLN.out), Lib.hid (by rw [HE.out]; exact HR.out), H6⟩
        case rest =>
          obtain ⟨rfl, E, l2, rfl, rfl, HL2, HR, HX⟩ := hcut
          by_cases hE : E = 0
          · obtain rfl := hE
            have hne : ((l2.count false : Int) == (m : Int)) = false := by
              have := HR.out.1 rfl
              rw [← HMM.out] at this
              simp; omega
            obtain ⟨m2, hm2⟩ : ∃ m2, m2 = l2.count false := ⟨_, rfl⟩
            rw [← hm2] at hne
            have HM2 := Lib.hid hm2
            have HX2 := Lib.hid HX.out.swap
            clear hm2 HR H4
            go_wp2_with fail
            refine (xown_left HX.out).mono ?_
            rintro e w6 ⟨rfl, h6⟩
            have H6 := Lib.hid h6.swap
            clear h6 HX HX2
            rw [← HM2.out]
            go_wp2_with fail
            refine (xown_left H6.out).mono ?_
            rintro e w7 ⟨rfl, h7⟩
            have H7 := Lib.hid h7.swap
            clear h7 H6
            rw [← HM2.out]
            go_wp2_with fail
            refine (xown_left H7.out).mono ?_
            rintro e w8 ⟨rfl, h8⟩
            have H8 := Lib.hid h8
            clear h8 H7
            rw [← HM2.out]
            go_wp2_with fail
            go_roundw
            case rel => exact ⟨k + 1, l2, HLT.out, HL1.out, by go_num, HL2.out, H8⟩
            case measure => have := HLT.out; simp [intOf]; omega
          · obtain rfl := HR.out.2 hE
            have hE1 : ((E : Int) == 0) = false := by simpa using hE
            have hE2 : ((E : Int) != 0) = true := by simpa using hE
            clear hE HR H4
            go_wp2_with fail
            refine (xown_left HX.out).mono ?_
            rintro e w6 ⟨rfl, h6⟩
            have H6 := Lib.hid h6.swap
            clear h6 HX
            rw [← HMM.out]
            go_wp2_with fail
            refine (xown_left H6.out).mono ?_
            rintro e w7 ⟨rfl, h7⟩
            have H7 := Lib.hid h7.swap
            clear h7 H6
            rw [← HMM.out]
            go_wp2_with fail
            refine (xown_left H7.out).mono ?_
            rintro e w8 ⟨rfl, h8⟩
            have H8 := Lib.hid h8
            clear h8 H7
            rw [← HMM.out]
            go_wp2_with fail
            go_roundw
            case rel => exact ⟨k + 1, l2, HLT.out, HL1.out, by go_num, HL2.out, H8⟩
            case measure => have := HLT.out; simp [intOf]; omega
    · have HQ := Lib.hid HP.out.only
      by_cases hlt : k < os.length
      · obtain rfl : k = 100 := by omega
        have hltI : ((100 : Nat) : Int) < (os.length : Int) := by omega
        clear hin HP
        go_wp2_with fail
        go_ret
        exact ⟨rfl, HQ.out⟩
      · have hltI : ¬ (k : Int) < (os.length : Int) := by omega
        have hltD : decide ((k : Int) < (os.length : Int)) = false := decide_eq_false hltI
        clear hin HP
        go_wp2_with fail
        go_ret
        exact ⟨rfl, HQ.out⟩

end Go.Proofs.Ytfclfmobmaemkaa
