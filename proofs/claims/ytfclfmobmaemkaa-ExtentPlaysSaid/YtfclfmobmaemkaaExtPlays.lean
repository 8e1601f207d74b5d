/-
  The walk of the statement ExtentPlays.
-/
import Derived.Test.YtfclfmobmaemkaaExtPlays0
namespace Go.Proofs.Ytfclfmobmaemkaa
open Go Go.RowKit
set_option linter.unusedVariables false
set_option linter.unusedSimpArgs false
set_option maxRecDepth 100000

set_option maxRecDepth 100000 in
set_option maxHeartbeats 4000000 in
theorem xplays_good (a n : Nat) (y : Int) (hy : y = (a : Int) + n) (hfit : a + n ≤ 4096) (ao : Option Addr) (c : Nat) (os : List OpE) (w : World) (ho : SlE w ao os) :
    Calls Try.prog 3 #[.int .i64 a, .int .i64 y, .slice ao os.length c] w fun e w' => e = .returned (.bool true) ∧ Quiet w w' := by
  have HO := Lib.hid ho
  have HY := Lib.hid hy
  have HF := Lib.hid hfit
  clear ho hy hfit
  go_enter Try.func3, Try.ntmps3
  go_wp2_with fail
  refine (xawake_any w).mono ?_
  rintro e w0 ⟨rfl, hq⟩
  have H0 := Lib.hid ((Own.start w).quiet hq); clear hq
  go_wp2_with fail
  refine (xown_new H0.out a n y HY.out HF.out).mono ?_
  rintro e w1 ⟨p, rfl, h1⟩
  have H1 := Lib.hid h1; clear h1 H0
  go_wp2_with fail
  refine (rown_new H1.out a n y HY.out HF.out).mono ?_
  rintro e w2 ⟨r, rfl, h2⟩
  have H2 : Hid (Own w w2 (Sep (SpR 51 p a (List.replicate n false)) (Sep (SpR 53 r a (flip (List.replicate n false))) Emp))) := Lib.hid (h2.ac (by ac_rfl)); clear h2 H1 HY HF
  go_wp2_with fail
  go_loopw [13] (fun i wr => ∃ (k : Nat) (l : List Bool), k ≤ os.length ∧ k ≤ 300 ∧ i = .int .i64 k ∧ Hid (Own w wr (Sep (SpR 51 p a l) (Sep (SpR 53 r a (flip l)) Emp)))) (fun i _ => os.length - (intOf i).toNat)
  case atStart => exact ⟨0, _, Nat.zero_le _, by omega, rfl, H2⟩
  case round =>
    clear H2
    obtain ⟨k, l, hk, hk2, rfl, HP⟩ := hrel
    by_cases hin : k < os.length ∧ k < 300
    · obtain ⟨hlt, h300⟩ := hin
      have hltI : (k : Int) < (os.length : Int) := by omega
      have h300I : (k : Int) < 300 := by omega
      have hk0 : (0 : Int) ≤ (k : Int) := by omega
      obtain ⟨g, off, rfl, hx⟩ := HO.out k hlt
      obtain ⟨x, hxe⟩ : ∃ x, x = os.getD k default := ⟨_, rfl⟩
      rw [← hxe] at hx
      clear hxe
      have hx := hx.keep HP.out.only
      obtain ⟨xk, xs, xn⟩ := x
      obtain ⟨d0, d1, d2, rk, rs, rn⟩ := hx
      simp only at d0 d1 d2 rk rs rn
      have HRN := Lib.hid rn
      have HRS := Lib.hid rs
      have HLT := Lib.hid hlt
      have HL1 := Lib.hid h300
      clear hk hk2 rn rs rk
      go_upto_block 2 with fail
      have hpl : Own w _ (Sep (SpR 51 p a l) (Sep (SpR 53 r a (flip l)) (Sep (Blk wr.heap.size (.cells #[.int .i64 xk, .int .i64 xs, .int .i64 xn] 38 (0, 0))) Emp))) := (HP.out.alloc (.cells #[.int .i64 xk, .int .i64 xs, .int .i64 xn] 38)).ac (by ac_rfl)
      obtain ⟨op, hop⟩ : ∃ op, op = wr.heap.size := ⟨_, rfl⟩
      rw [← hop] at hpl ⊢
      clear d0 d1 d2 hop HP
      generalize wr.alloc (.cells #[.int .i64 xk, .int .i64 xs, .int .i64 xn] 38) = w3 at *
      obtain ⟨e0, e1, e2⟩ := op_cells3 hpl
      have HPO := Lib.hid hpl
      clear hpl
      obtain ⟨hq3, hqe⟩ := xmodN_spec 3 (by decide) (by decide) xk
      have hqe2 : (wrap64 (xk.tmod 3 + 3)).tmod 3 = (xmodN 3 xk : Int) := hqe
      obtain ⟨qv, hqv⟩ : ∃ qv : Int, qv = (wrap64 (xk.tmod 3 + 3)).tmod 3 := ⟨_, rfl⟩
      have hkinds : qv = 0 ∨ qv = 1 ∨ qv = 2 := by omega
      rw [← hqv]
      have HKD := Lib.hid hkinds
      clear hq3 hqe hqe2 hqv hkinds
      go_cut [13] (fun s wx => s = .int .i64 k ∧ ∃ (l' : List Bool), Hid (Own w wx (Sep (SpR 51 p a l') (Sep (SpR 53 r a (flip l')) Emp))))
      case first =>
        rcases HKD.out with rfl | rfl | rfl
        · as_aux_lemma =>
            go_wp2_with fail
            refine (xown_alloc HPO.out xn HRN.out).mono ?_
            rintro e w4 ⟨rfl, h4⟩
            obtain ⟨f0, f1, f2⟩ := op_cells3 h4
            have H4 := Lib.hid h4.swap
            clear h4 HPO e0 e1 e2
            obtain ⟨E, hE⟩ : ∃ E, E = allocE l xn := ⟨_, rfl⟩
            obtain ⟨V, hV⟩ : ∃ V, V = allocV a l xn := ⟨_, rfl⟩
            rw [← hE, ← hV]
            have HE := Lib.hid hE
            have HV := Lib.hid hV
            clear hE hV
            go_wp2_with fail
            refine (rown_alloc H4.out xn HRN.out).mono ?_
            rintro e w5 ⟨rfl, h5⟩
            have H5 : Hid (Own w w5 (Sep (SpR 51 p a (allocL l xn)) (Sep (SpR 53 r a (flip (allocL l xn))) Emp))) := Lib.hid (own_drop3 h5)
            clear h5 H4 f0 f1 f2
            rw [← HE.out, ← HV.out]
            have hEE : ((E : Int) != (E : Int)) = false := by simp
            have hVV : ((V : Int) != (V : Int)) = false := by simp
            go_wp2_with fail
            go_meet
            exact ⟨rfl, _, H5⟩
        · as_aux_lemma =>
            have hc1 := fun (W : World) (hW : Own w W (Sep (SpR 51 p a l) (Sep (SpR 53 r a (flip l)) (Sep (Blk op (.cells #[.int .i64 xk, .int .i64 xs, .int .i64 xn] 38 (0, 0))) Emp)))) => xown_take hW xs xn HRS.out HRN.out
            have hc2 := fun (W : World) (hW : Own w W (Sep (SpR 53 r a (flip l)) (Sep (SpR 51 p a (turnL a l xs xn true)) (Sep (Blk op (.cells #[.int .i64 xk, .int .i64 xs, .int .i64 xn] 38 (0, 0))) Emp)))) => rown_take hW xs xn HRS.out HRN.out
            have HC1 := Lib.hid hc1
            have HC2 := Lib.hid hc2
            clear hc1 hc2
            have HQd := Lib.hid HPO.out.drew
            go_upto_region 23 with fail
            clear e0 e1 e2 HPO
            go_region_held3 (fun w' => w'.cell? ⟨op, 0, none⟩ = some (.int .i64 xk) ∧ w'.cell? ⟨op, 1, none⟩ = some (.int .i64 xs) ∧ w'.cell? ⟨op, 2, none⟩ = some (.int .i64 xn))
              (first
                | exact op_cells3 HA2.out
                | exact op_cells3 HA1.out
                | exact op_cells3 HQd.out)
              (first
                | (go_at_call 11; (with_reducible refine (HC1.out _ HQd.out).mono ?_); rintro e w5 ⟨rfl, ha⟩; have HA1 := Lib.hid ha.swap; clear ha)
                | (go_at_call 16; (with_reducible refine (HC2.out _ HA1.out).mono ?_); rintro e w6 ⟨rfl, ha⟩; have HA2 := Lib.hid ha; clear ha))
            have H5 : Hid (Own w w6 (Sep (SpR 51 p a (turnL a l xs xn true)) (Sep (SpR 53 r a (flip (turnL a l xs xn true))) Emp))) := Lib.hid (own_drop3 HA2.out)
            clear HC1 HC2 HQd HA1 HA2
            go_wp2_with fail
            go_meet
            exact ⟨rfl, _, H5⟩
        · as_aux_lemma =>
            have hc1 := fun (W : World) (hW : Own w W (Sep (SpR 51 p a l) (Sep (SpR 53 r a (flip l)) (Sep (Blk op (.cells #[.int .i64 xk, .int .i64 xs, .int .i64 xn] 38 (0, 0))) Emp)))) => xown_free hW xs xn HRS.out HRN.out
            have hc2 := fun (W : World) (hW : Own w W (Sep (SpR 53 r a (flip l)) (Sep (SpR 51 p a (turnL a l xs xn false)) (Sep (Blk op (.cells #[.int .i64 xk, .int .i64 xs, .int .i64 xn] 38 (0, 0))) Emp)))) => rown_free hW xs xn HRS.out HRN.out
            have HC1 := Lib.hid hc1
            have HC2 := Lib.hid hc2
            clear hc1 hc2
            have HQd := Lib.hid HPO.out.drew
            go_upto_region 15 with fail
            clear e0 e1 e2 HPO
            go_region_held3 (fun w' => w'.cell? ⟨op, 0, none⟩ = some (.int .i64 xk) ∧ w'.cell? ⟨op, 1, none⟩ = some (.int .i64 xs) ∧ w'.cell? ⟨op, 2, none⟩ = some (.int .i64 xn))
              (first
                | exact op_cells3 HA2.out
                | exact op_cells3 HA1.out
                | exact op_cells3 HQd.out)
              (first
                | (go_at_call 12; (with_reducible refine (HC1.out _ HQd.out).mono ?_); rintro e w5 ⟨rfl, ha⟩; have HA1 := Lib.hid ha.swap; clear ha)
                | (go_at_call 17; (with_reducible refine (HC2.out _ HA1.out).mono ?_); rintro e w6 ⟨rfl, ha⟩; have HA2 := Lib.hid ha; clear ha))
            have H5 : Hid (Own w w6 (Sep (SpR 51 p a (turnL a l xs xn false)) (Sep (SpR 53 r a (flip (turnL a l xs xn false))) Emp))) := Lib.hid (own_drop3 HA2.out)
            clear HC1 HC2 HQd HA1 HA2
            go_wp2_with fail
            go_meet
            exact ⟨rfl, _, H5⟩
      case rest =>
        obtain ⟨rfl, l2, HX⟩ := hcut
        clear HPO HKD e0 e1 e2
        go_wp2_with fail
        refine (xown_left HX.out).mono ?_
        rintro e w6 ⟨rfl, h6⟩
        have H6 := Lib.hid h6.swap
        clear h6 HX
        obtain ⟨m, hm⟩ : ∃ m, m = l2.count false := ⟨_, rfl⟩
        rw [← hm]
        have HMM := Lib.hid hm
        clear hm
        have hmm : ((m : Int) != (m : Int)) = false := by simp
        go_wp2_with fail
        refine (rown_left H6.out).mono ?_
        rintro e w7 ⟨rfl, h7⟩
        have H7 := Lib.hid h7.swap
        clear h7 H6
        rw [← HMM.out]
        go_wp2_with fail
        refine (xown_holes H7.out).mono ?_
        rintro e w8 ⟨v, rfl, h8⟩
        have H8 : Hid (Own w w8 (Sep (SpR 53 r a (flip l2)) (Sep (HolesR v (hol a l2)) (Sep (SpR 51 p a l2) Emp)))) := Lib.hid (h8.ac (by ac_rfl))
        clear h8 H7 hmm HMM
        go_wp2_with fail
        refine (xown_rholes H8.out).mono ?_
        rintro e w9 ⟨v2, rfl, h9⟩
        have H9 : Hid (Own w w9 (Sep (HolesR v (hol a l2)) (Sep (RHolesR v2 (hol a l2)) (Sep (SpR 51 p a l2) (Sep (SpR 53 r a (flip l2)) Emp))))) := Lib.hid (h9.ac (by ac_rfl))
        have hlen : (hol a l2).length ≤ 4096 := by
          obtain ⟨g', hS⟩ := h9.snd.space
          have h1 := hS.fits
          have h2 := hol_length a l2
          rw [flip_length] at h1
          omega
        have HLEN := Lib.hid hlen
        clear h9 H8 hlen
        go_wp2_with fail
        refine (same_any H9.out HLEN.out).mono ?_
        rintro e w10 ⟨rfl, h10⟩
        obtain ⟨o1, c1, rfl⟩ := own_shapeN h10.owns
        have h11 : Own w w10 (Sep (HolesR (.slice o1 (hol a l2).length c1) (hol a l2)) (Sep (SpR 51 p a l2) (Sep (SpR 53 r a (flip l2)) Emp))) := h10.drop2
        obtain ⟨m, hm⟩ : ∃ m, m = (hol a l2).length := ⟨_, rfl⟩
        have hcl : (hcells (hol a l2)).length = m * 2 := by rw [hcells_length, hm]
        have HI0 : Hid (∃ xs : List Value, xs.length = m * 2 ∧ Own w w10 (Sep (RowV 43 2 (.slice o1 m c1) m xs) (Sep (SpR 51 p a l2) (Sep (SpR 53 r a (flip l2)) Emp)))) := Lib.hid ⟨_, hcl, by rw [hm]; exact h11⟩
        rw [← hm]
        have hm4 : m ≤ 4096 := by rw [hm]; exact HLEN.out
        clear h10 h11 hcl hm HLEN H9
        go_wp2_with fail
        go_loopw [20] (fun i wr => ∃ j : Nat, j ≤ m ∧ i = .int .i64 j ∧ Hid (∃ xs : List Value, xs.length = m * 2 ∧ Own w wr (Sep (RowV 43 2 (.slice o1 m c1) m xs) (Sep (SpR 51 p a l2) (Sep (SpR 53 r a (flip l2)) Emp))))) (fun i _ => m - (intOf i).toNat)
        case atStart => exact ⟨0, Nat.zero_le _, rfl, HI0⟩
        case round =>
          clear HI0
          obtain ⟨j, hj, rfl, HJ⟩ := hrel
          obtain ⟨xs, hxl, HX⟩ := HJ.out
          by_cases hlj : j < m
          · have hljI : (j : Int) < (m : Int) := by omega
            have hj0 : (0 : Int) ≤ (j : Int) := by omega
            obtain ⟨g1, rfl, k0, f0, hcap⟩ := rowV_cell HX.owns (j := j * 2) (u := xs[j * 2]'(by omega)) (List.getElem?_eq_getElem _)
            obtain ⟨g2, hg, k1, f1, _⟩ := rowV_cell HX.owns (j := j * 2 + 1) (u := xs[j * 2 + 1]'(by omega)) (List.getElem?_eq_getElem _)
            simp at hg
            subst hg
            have HN1 : Hid (∃ ys : List Value, ys.length = m * 2 ∧ Own w ((wr.setCell ⟨g1, j * 2, none⟩ (.int .i64 0)).setCell ⟨g1, j * 2 + 1, none⟩ (.int .i64 0)) (Sep (RowV 43 2 (.slice (some ⟨g1, 0, none⟩) m c1) m ys) (Sep (SpR 51 p a l2) (Sep (SpR 53 r a (flip l2)) Emp)))) := Lib.hid ⟨_, by simp [hxl], (HX.row_set (j := j * 2) (by omega) (.int .i64 0)).row_set (j := j * 2 + 1) (by simp; omega) (.int .i64 0)⟩
            generalize xs[j * 2]'(by omega) = u0 at *
            generalize xs[j * 2 + 1]'(by omega) = u1 at *
            clear HX HJ hxl
            go_wp2_with fail
            go_roundw
            case rel => exact ⟨j + 1, by omega, by go_num, HN1⟩
            case measure => simp [intOf]; omega
          · have hljI : ¬ (j : Int) < (m : Int) := by omega
            have H12 := Lib.hid HX.snd
            clear HX HJ
            go_wp2_with fail
            go_roundw
            case rel => exact ⟨k + 1, l2, HLT.out, HL1.out, by go_num, H12⟩
            case measure => have := HLT.out; simp [intOf]; omega
    · have HQ := Lib.hid HP.out.only
      by_cases hlt : k < os.length
      · obtain rfl : k = 300 := by omega
        have hltI : ((300 : Nat) : Int) < (os.length : Int) := by omega
        clear hin HP
        go_wp2_with fail
        go_ret
        exact ⟨rfl, HQ.out⟩
      · have hltI : ¬ (k : Int) < (os.length : Int) := by omega
        have hltD : decide ((k : Int) < (os.length : Int)) = false := decide_eq_false hltI
        clear hin HP
        go_wp2_with fail
        go_ret
        exact ⟨rfl, HQ.out⟩

theorem xplays_walk (x y : Int) (ao : Option Addr) (c : Nat) (os : List OpE) (w : World) (ho : SlE w ao os) :
    Calls Try.prog 3 #[.int .i64 x, .int .i64 y, .slice ao os.length c] w fun e w' => e = .returned (.bool true) ∧ Quiet w w' := by
  by_cases h : x < 0 ∨ y < x ∨ 4096 < y
  · exact xplays_bad x y _ w h
  · obtain ⟨a, rfl⟩ : ∃ a : Nat, x = a := ⟨x.toNat, by omega⟩
    exact xplays_good a (y - a).toNat y (by omega) (by omega) ao c os w ho

end Go.Proofs.Ytfclfmobmaemkaa
