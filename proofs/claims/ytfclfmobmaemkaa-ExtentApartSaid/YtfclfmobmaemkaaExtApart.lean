/-
  The walk of the statement ExtentApart.
-/
import Derived.Test.YtfclfmobmaemkaaExtTwice
import Derived.Test.YtfclfmobmaemkaaQue
import Derived.Test.YtfclfmobmaemkaaExtSt4
namespace Go.Proofs.Ytfclfmobmaemkaa
open Go Go.RowKit
set_option linter.unusedVariables false
set_option linter.unusedSimpArgs false
set_option maxRecDepth 100000

theorem hcells_cons (x : Nat × Nat) (hs : List (Nat × Nat)) : hcells (x :: hs) = .int .i64 (x.1 : Int) :: .int .i64 (x.2 : Int) :: hcells hs := by simp [hcells]
theorem getD_seg {T : List Bool} {d n : Nat} {b : Bool} (h2 : d + n ≤ T.length) (hb : ¬ b ∈ (T.drop d).take n) {i : Nat} (h : d ≤ i) (hi : i < d + n) : T[i]? = some (!b) := by
  have h1 : i < T.length := by omega
  have h3 : ¬ T[i]? = some b := fun e => hb ((mem_seg h2).2 ⟨i, h, hi, e⟩)
  rw [List.getElem?_eq_getElem h1] at h3 ⊢
  exact congrArg some (bool_other (fun e => h3 (by rw [e])))
/-- The parts of the walk: the space, the statement's own flags, the list of what was handed out. -/
abbrev ApartR (p gt : Nat) (T tk : List Bool) (v : Value) (hs : List (Nat × Nat)) : Res :=
  Sep (SpR 51 p 0 T) (Sep (Blk gt (.cells (bools tk).toArray 4 (0, 0))) (Sep (QueV 43 2 v hs.length (hcells hs)) Emp))

set_option maxRecDepth 100000 in
set_option maxHeartbeats 8000000 in
theorem apart_walk (z : Int) (ao : Option Addr) (c : Nat) (ks : List Int) (w : World) (ho : SlI w ao ks) :
    Calls Try.prog 4 #[.int .i64 z, .slice ao ks.length c] w fun e w' => e = .returned (.bool true) ∧ Quiet w w' := by
  obtain ⟨h200, hm⟩ := xmodN_spec 200 (by decide) (by decide) z
  have hm : (wrap64 (z.tmod 200 + 200)).tmod 200 = (xmodN 200 z : Int) := hm
  obtain ⟨y, hy⟩ : ∃ y, y = xmodN 200 z := ⟨_, rfl⟩
  rw [← hy] at h200 hm
  have HO := Lib.hid ho
  have HM := Lib.hid hm
  have H200 := Lib.hid h200
  clear ho hm hy h200
  go_enter Try.func4, Try.ntmps4
  go_wp2_with fail
  refine (xawake_any w).mono ?_
  rintro e w0 ⟨rfl, hq⟩
  have H0 := Lib.hid ((Own.start w).quiet hq); clear hq
  go_wp2_with fail
  rw [HM.out]
  obtain ⟨N, hN⟩ : ∃ N : Nat, N = y + 1 := ⟨_, rfl⟩
  have hNI : ((y : Int) + 1) = (N : Int) := by omega
  have hN1 : 1 ≤ N := by omega
  have hN2 : N ≤ 200 := by have := H200.out; omega
  rw [hNI, show wrap64 (N : Int) = (N : Int) from IntWalk.wrap64_in _ ⟨by omega, by omega⟩]
  clear hN hNI HM H200
  refine (xown_new H0.out 0 N (N : Int) (by simp) (by omega)).mono ?_
  rintro e w1 ⟨p, rfl, h1⟩
  have H1 := Lib.hid h1; clear h1 H0
  have hmk := run_make_bools N (by omega)
  have H2 : Hid (Own w (w1.alloc (.cells (bools (List.replicate N false)).toArray 4)) (ApartR p w1.heap.size (List.replicate N false) (List.replicate N false) (.slice none 0 0) [])) := Lib.hid (((H1.out.alloc (.cells (bools (List.replicate N false)).toArray 4)).que_nil 43 2).ac (by show _ = Sep _ (Sep _ (Sep (QueV _ _ _ 0 []) Emp)); ac_rfl))
  generalize (bools (List.replicate N false)).toArray = C at hmk H2
  go_upto_region 8 with fail
  obtain ⟨gt, hgt⟩ : ∃ gt, gt = w1.heap.size := ⟨_, rfl⟩
  rw [← hgt] at H2 ⊢
  generalize w1.alloc (.cells C 4) = w2 at *
  clear hmk hgt H1
  go_wp2_with fail
  go_loopw [8, 9] (fun lv i wr => ∃ (k : Nat) (hs : List (Nat × Nat)) (T : List Bool), k ≤ ks.length ∧ k ≤ 100 ∧ i = .int .i64 k ∧ hs.length ≤ k ∧ Hid (Cov N hs T) ∧ Hid (Own w wr (ApartR p gt T T lv hs))) (fun _ i _ => ks.length - (intOf i).toNat)
  case atStart => exact ⟨0, [], _, Nat.zero_le _, by omega, rfl, Nat.le_refl _, Lib.hid (Cov.nil N), H2⟩
  case round =>
    clear H2
    obtain ⟨k, hs, T, hk, hk2, rfl, hhk, HC, HP⟩ := hrel
    obtain ⟨bo, bc, rfl⟩ := HP.out.snd.snd.que_shape
    by_cases hin : k < ks.length ∧ k < 100
    · obtain ⟨hlt, h100⟩ := hin
      have hltI : (k : Int) < (ks.length : Int) := by omega
      have h100I : (k : Int) < 100 := by omega
      have hk0 : (0 : Int) ≤ (k : Int) := by omega
      obtain ⟨g, off, rfl, hx⟩ := HO.out k hlt
      have dx := HP.out.only.cellq hx
      obtain ⟨x, hxe⟩ : ∃ x, x = ks.getD k 0 := ⟨_, rfl⟩
      rw [← hxe] at dx
      have HLT := Lib.hid hlt
      have HL1 := Lib.hid h100
      have HHK := Lib.hid hhk
      have HTN := Lib.hid HC.out.len
      clear hk hk2 hx hxe
      obtain ⟨h20, hm20⟩ := xmodN_spec 20 (by decide) (by decide) x
      have hm20 : (wrap64 (x.tmod 20 + 20)).tmod 20 = (xmodN 20 x : Int) := hm20
      obtain ⟨qv, hqv⟩ : ∃ qv : Int, qv = (wrap64 (x.tmod 20 + 20)).tmod 20 := ⟨_, rfl⟩
      obtain ⟨n, hn⟩ : ∃ n : Nat, n = xmodN 20 x + 1 := ⟨_, rfl⟩
      have hqn : wrap64 (qv + 1) = (n : Int) := by rw [hqv, hm20, IntWalk.wrap64_in _ ⟨by omega, by omega⟩]; omega
      have hn1 : 1 ≤ n := by omega
      have hn20 : n ≤ 20 := by omega
      have HQN := Lib.hid hqn
      have HQV := Lib.hid hqv
      clear h20 hm20 hqv hn hqn
      go_upto_region 13 with fail
      rw [← HQV.out, HQN.out]
      clear HQN HQV
      obtain ⟨m, hm⟩ : ∃ m, m = hs.length := ⟨_, rfl⟩
      rw [← hm] at HP HHK ⊢
      have HMM := Lib.hid hm
      by_cases hfree : x.tmod 3 = 0 ∧ 0 < m
      · obtain ⟨hx3, hpos⟩ := hfree
        have hx3b : (x.tmod 3 == 0) = true := by simpa using hx3
        have hposI : (0 : Int) < (m : Int) := by omega
        cases hs with
        | nil => simp at hm; omega
        | cons s hs =>
          obtain ⟨s0, n0⟩ := s
          obtain ⟨k1, k2, k3, hcov⟩ := HC.out.free
          simp only at k1 k2 k3 hcov
          rcases HP.out.snd.snd.que with ⟨hv, _⟩ | ⟨g2, o2, c2, hv, hqa⟩
          · simp at hv; omega
          · simp at hv
            obtain ⟨rfl, _, rfl⟩ := hv
            have d0 : wr.cell? ⟨g2, o2, none⟩ = some (.int .i64 (s0 : Int)) := hqa.cell (j := 0) (by rw [hcells_cons]; rfl)
            have d1 : wr.cell? ⟨g2, o2 + 1, none⟩ = some (.int .i64 (n0 : Int)) := hqa.cell (j := 1) (by rw [hcells_cons]; rfl)
            have hcap : m ≤ bc := by have := hqa.le; omega
            obtain ⟨ta, hta⟩ : ∃ ta, ta = tailAt 2 g2 o2 bc := ⟨_, rfl⟩
            have hml : m - 1 = hs.length := by simp at hm; omega
            have hpl : Own w (wr.alloc (.cells #[.int .i64 (s0 : Int), .int .i64 (n0 : Int)] 43)) (Sep (QueV 43 2 (.slice (some ta) hs.length (bc - 1)) hs.length (hcells hs)) (Sep (SpR 51 p 0 T) (Sep (Blk gt (.cells (bools T).toArray 4 (0, 0))) (Sep (Blk wr.heap.size (.cells #[.int .i64 (s0 : Int), .int .i64 (n0 : Int)] 43 (0, 0))) Emp)))) := by
              have h1 := (HP.out.alloc (.cells #[.int .i64 (s0 : Int), .int .i64 (n0 : Int)] 43))
              have h2 : Own w _ (Sep (QueV 43 2 (.slice (some ⟨g2, o2, none⟩) m bc) m (hcells ((s0, n0) :: hs))) (Sep (SpR 51 p 0 T) (Sep (Blk gt (.cells (bools T).toArray 4 (0, 0))) (Sep (Blk wr.heap.size (.cells #[.int .i64 (s0 : Int), .int .i64 (n0 : Int)] 43 (0, 0))) Emp)))) := h1.ac (by rw [hm]; unfold ApartR; ac_rfl)
              have h3 := h2.tail (by omega)
              rw [← hta, hml] at h3
              exact h3
            have HPL := Lib.hid hpl
            have HTA := Lib.hid hta
            have HML := Lib.hid hml
            have HCAP := Lib.hid hcap
            clear hpl hqa hta HP hpos hx3 hml hcap
            go_upto_region 15 with fail
            obtain ⟨hb, hhb⟩ : ∃ hb, hb = wr.heap.size := ⟨_, rfl⟩
            rw [← hhb] at HPL ⊢
            generalize wr.alloc (.cells #[.int .i64 (s0 : Int), .int .i64 (n0 : Int)] 43) = w3 at *
            clear d0 d1 dx hhb
            have he := HPL.out.snd.snd.snd.held
            have e0 : w3.cell? ⟨hb, 0, none⟩ = some (.int .i64 (s0 : Int)) := blk_cell he 0 rfl
            have e1 : w3.cell? ⟨hb, 1, none⟩ = some (.int .i64 (n0 : Int)) := blk_cell he 1 rfl
            clear he
            have HM1 : Hid (m = hs.length + 1) := Lib.hid (by simpa using hm)
            clear hm
            go_cut [8] (fun lv wx => lv = .slice (some ta) hs.length (bc - 1) ∧ Hid (wx = w3))
            case first =>
              have hc1 : m ≤ bc := HCAP.out
              have hm1 : 1 ≤ m := by have := HM1.out; omega
              by_cases hbc : bc = 1
              · subst hbc
                have hta : ta = ⟨g2, o2, none⟩ := by rw [HTA.out]; rfl
                have hm2 : m - 1 = hs.length := HML.out
                subst hta
                go_wp2_with fail
                go_meet
                exact ⟨rfl, Lib.hid rfl⟩
              · have hta : ta = ⟨g2, o2 + 2, none⟩ := by rw [HTA.out, tailAt, if_neg hbc]
                have hm2 : m - 1 = hs.length := HML.out
                subst hta
                go_wp2_with fail
                go_meet
                exact ⟨rfl, Lib.hid rfl⟩
            case rest =>
            obtain ⟨rfl, hwx⟩ := hcut
            obtain rfl := hwx.out
            clear hwx
            go_wp2_with fail
            have hTl : T.length = N := HTN.out
            have t1 : turnE 0 T (s0 : Int) (n0 : Int) false = 0 := by
              have := turnE_at 0 (l := T) (d := s0) (n := n0) k1 (by omega) false
              rw [if_neg k3] at this
              simpa using this
            have t2 : turnL 0 T (s0 : Int) (n0 : Int) false = setL T s0 n0 false := by
              have := turnL_at 0 (l := T) (d := s0) (n := n0) k1 (by omega) k3
              simpa using this
            have hs1 : i64R' (s0 : Int) := by unfold i64R'; omega
            have hn01 : i64R' (n0 : Int) := by unfold i64R'; omega
            refine (xown_free HPL.out.swap (s0 : Int) (n0 : Int) hs1 hn01).mono ?_
            rintro e w4 ⟨rfl, h4⟩
            rw [t1]
            rw [t2] at h4
            have HCV := Lib.hid hcov
            have H4 : Hid (Own w w4 (Sep (Blk gt (.cells (bools (setL T s0 (s0 - s0) false)).toArray 4 (0, 0))) (Sep (Blk hb (.cells #[.int .i64 (s0 : Int), .int .i64 (n0 : Int)] 43 (0, 0))) (Sep (SpR 51 p 0 (setL T s0 n0 false)) (Sep (QueV 43 2 (.slice (some ta) hs.length (bc - 1)) hs.length (hcells hs)) Emp))))) := Lib.hid (h4.ac (by rw [Nat.sub_self, setL_zero]; ac_rfl))
            have g0 : w4.cell? ⟨hb, 0, none⟩ = some (.int .i64 (s0 : Int)) := blk_cell H4.out.snd.held 0 rfl
            clear h4 t1 t2 hs1 hn01 e0 e1 HPL hcov k3
            go_wp2_with fail
            clear g0
            go_loopw [12] (fun kv wx => ∃ j : Nat, s0 ≤ j ∧ j ≤ s0 + n0 ∧ kv = .int .i64 j ∧ Hid (Own w wx (Sep (Blk gt (.cells (bools (setL T s0 (j - s0) false)).toArray 4 (0, 0))) (Sep (Blk hb (.cells #[.int .i64 (s0 : Int), .int .i64 (n0 : Int)] 43 (0, 0))) (Sep (SpR 51 p 0 (setL T s0 n0 false)) (Sep (QueV 43 2 (.slice (some ta) hs.length (bc - 1)) hs.length (hcells hs)) Emp)))))) (fun kv _ => s0 + n0 - (intOf kv).toNat)
            case atStart => exact ⟨s0, Nat.le_refl _, by omega, rfl, H4⟩
            case round =>
              clear H4
              obtain ⟨j, hj1, hj2, rfl, HJ⟩ := hrel
              have q0 : wr.cell? ⟨hb, 0, none⟩ = some (.int .i64 (s0 : Int)) := blk_cell HJ.out.snd.held 0 rfl
              have q1 : wr.cell? ⟨hb, 1, none⟩ = some (.int .i64 (n0 : Int)) := blk_cell HJ.out.snd.held 1 rfl
              by_cases hjl : j < s0 + n0
              · have hjlI : (j : Int) < (s0 : Int) + (n0 : Int) := by omega
                have hj0 : (0 : Int) ≤ (j : Int) := by omega
                have hTl : T.length = N := HTN.out
                have hjN : (j : Int) < (N : Int) := by omega
                have hlen : (setL T s0 (j - s0) false).length = N := by rw [setL_length (by omega)]; exact hTl
                have hcj : wr.cell? ⟨gt, j, none⟩ = some (.bool ((setL T s0 (j - s0) false).getD j false)) := blk_cell HJ.out.held j (bools_at (by omega))
                have hfj : wr.frozen? ⟨gt, j, none⟩ = false := blk_free HJ.out.held j
                have HNX := Lib.hid (HJ.out.store j (.bool false))
                have HSU : Hid ((bools (setL T s0 (j - s0) false)).toArray.setIfInBounds j (.bool false) = (bools (setL T s0 (j + 1 - s0) false)).toArray) := Lib.hid (by
                  rw [bools_set]
                  have := setL_succ (l := T) (a := s0) (n := j - s0) (by omega) false
                  rw [show s0 + (j - s0) = j by omega] at this
                  rw [this, show j - s0 + 1 = j + 1 - s0 by omega])
                generalize (setL T s0 (j - s0) false).getD j false = u at *
                clear hlen hTl hj2 HJ
                go_wp2_with fail
                go_roundw
                case rel => exact ⟨j + 1, by omega, by omega, by go_num, Lib.hid (by have := HNX.out; rw [HSU.out] at this; exact this)⟩
                case measure => simp [intOf]; omega
              · have hjlI : ¬ (j : Int) < (s0 : Int) + (n0 : Int) := by omega
                have hje : j - s0 = n0 := by omega
                have H6 : Hid (Own w wr (ApartR p gt (setL T s0 n0 false) (setL T s0 n0 false) (.slice (some ta) hs.length (bc - 1)) hs)) := Lib.hid (by
                  have h1 := HJ.out
                  rw [hje] at h1
                  have h2 : Own w wr (Sep (Blk hb (.cells #[.int .i64 (s0 : Int), .int .i64 (n0 : Int)] 43 (0, 0))) (ApartR p gt (setL T s0 n0 false) (setL T s0 n0 false) (.slice (some ta) hs.length (bc - 1)) hs)) := h1.ac (by unfold ApartR; ac_rfl)
                  exact h2.snd)
                clear HJ hj1 hj2 hjl hje
                go_wp2_with fail
                go_roundw
                case rel => exact ⟨k + 1, hs, _, HLT.out, HL1.out, by go_num, by have := HHK.out; have := HM1.out; omega, HCV, H6⟩
                case measure => have := HLT.out; simp [intOf]; omega
      · have hcase : (x.tmod 3 == 0) = false ∨ ((x.tmod 3 == 0) = true ∧ m = 0) := by
          by_cases h3 : x.tmod 3 = 0
          · exact .inr ⟨by simpa using h3, by omega⟩
          · exact .inl (by simpa using h3)
        clear hfree
        have hnr : i64R' (n : Int) := by unfold i64R'; omega
        have HNR := Lib.hid hnr
        have HN1 := Lib.hid hn1
        clear hnr
        rcases hcase with hx3 | ⟨hx3, hm0⟩
        all_goals
          (first | have hm0I : ¬ (0 : Int) < (m : Int) := by omega | skip)
          (first | have hm0D : decide ((0 : Int) < (m : Int)) = false := decide_eq_false hm0I | skip)
          (first | clear hm0 | skip)
          have HM0 := Lib.hid hm
          clear hm
          go_wp2_with fail
          refine (xown_alloc HP.out (n : Int) HNR.out).mono ?_
          rintro e w4 ⟨rfl, h4⟩
          by_cases hE : allocE T (n : Int) = 0
          · obtain ⟨d, _, hlow, hdn, hseg, hL, hV⟩ := alloc_free hE
            have e1 : (n : Int).toNat = n := by omega
            rw [e1] at hdn hseg hL
            rw [hE, hV 0, Nat.zero_add]
            rw [hL] at h4
            have hTl : T.length = N := HTN.out
            have hdN : d + n ≤ N := by omega
            have hcov := HC.out.take hn1 hdN hseg
            have HCV := Lib.hid hcov
            have HSG := Lib.hid hseg
            have H4 : Hid (Own w w4 (Sep (Blk gt (.cells (bools (setL T d (d - d) true)).toArray 4 (0, 0))) (Sep (SpR 51 p 0 (setL T d n true)) (Sep (QueV 43 2 (.slice bo m bc) hs.length (hcells hs)) Emp)))) := Lib.hid (h4.ac (by rw [Nat.sub_self, setL_zero]; ac_rfl))
            have hd0 : ¬ (d : Int) < 0 := by omega
            have hd0D : decide ((d : Int) < 0) = false := decide_eq_false hd0
            have hdNI : ¬ (N : Int) < (d : Int) + (n : Int) := by omega
            have hdND : decide ((N : Int) < (d : Int) + (n : Int)) = false := decide_eq_false hdNI
            have hd1 : (0 : Int) ≤ (d : Int) := by omega
            clear h4 hE hV hL hlow hcov hseg e1 hTl hdn HP
            go_wp2_with fail
            go_loopw [15] (fun kv wx => ∃ j : Nat, d ≤ j ∧ j ≤ d + n ∧ kv = .int .i64 j ∧ Hid (Own w wx (Sep (Blk gt (.cells (bools (setL T d (j - d) true)).toArray 4 (0, 0))) (Sep (SpR 51 p 0 (setL T d n true)) (Sep (QueV 43 2 (.slice bo m bc) hs.length (hcells hs)) Emp))))) (fun kv _ => d + n - (intOf kv).toNat)
            case atStart => exact ⟨d, Nat.le_refl _, by omega, rfl, H4⟩
            case round =>
              clear H4
              obtain ⟨j, hj1, hj2, rfl, HJ⟩ := hrel
              by_cases hjl : j < d + n
              · have hjlI : (j : Int) < (d : Int) + (n : Int) := by omega
                have hj0 : (0 : Int) ≤ (j : Int) := by omega
                have hTl : T.length = N := HTN.out
                have hjN : (j : Int) < (N : Int) := by omega
                have hcv : (setL T d (j - d) true)[j]? = some false := by
                  rw [setL_get (by omega), if_neg (by omega)]
                  exact getD_seg (b := true) (by omega) HSG.out hj1 hjl
                have hcj : wr.cell? ⟨gt, j, none⟩ = some (.bool false) := blk_cell HJ.out.held j (bools_is hcv)
                have hfj : wr.frozen? ⟨gt, j, none⟩ = false := blk_free HJ.out.held j
                have HNX := Lib.hid (HJ.out.store j (.bool true))
                have HSU : Hid ((bools (setL T d (j - d) true)).toArray.setIfInBounds j (.bool true) = (bools (setL T d (j + 1 - d) true)).toArray) := Lib.hid (by
                  rw [bools_set]
                  have := setL_succ (l := T) (a := d) (n := j - d) (by omega) true
                  rw [show d + (j - d) = j by omega] at this
                  rw [this, show j - d + 1 = j + 1 - d by omega])
                clear hcv hTl hj2 HJ
                go_wp2_with fail
                go_roundw
                case rel => exact ⟨j + 1, by omega, by omega, by go_num, Lib.hid (by have := HNX.out; rw [HSU.out] at this; exact this)⟩
                case measure => simp [intOf]; omega
              · have hjlI : ¬ (j : Int) < (d : Int) + (n : Int) := by omega
                have hje : j - d = n := by omega
                have HQ0 : Own w wr (Sep (QueV 43 2 (.slice bo m bc) m (hcells hs)) (Sep (SpR 51 p 0 (setL T d n true)) (Sep (Blk gt (.cells (bools (setL T d n true)).toArray 4 (0, 0))) Emp))) := by
                  have h1 := HJ.out
                  rw [hje, ← HM0.out] at h1
                  exact h1.ac (by ac_rfl)
                have HQ1 := Lib.hid ((HQ0.alloc (.cells #[.int .i64 (d : Int), .int .i64 (n : Int)] 43)).swap.imp fun F hF => hF)
                have hbs := fun w => run_buildSlice_one (P := Try.prog) w 35 43 _ 2 Try.underlying35 Try.infoHole rfl (by decide) (by decide) #[.int .i64 (d : Int), .int .i64 (n : Int)] rfl
                obtain ⟨i0, hi0, hz0, hz1, hz2⟩ := info_parts Try.infoHole3
                have hhl : (hcells hs).length = m * 2 := by rw [hcells_length, HM0.out]
                have HHL := Lib.hid hhl
                have hm101 : m ≤ 100 := by have := HHK.out; have := HL1.out; omega
                clear HJ hj1 hj2 hjl hje HQ0 hhl
                go_wp2_with (first | (at_builtin; refine wpList_append_que (w0 := w) rfl (.tmp 127) (.tmp 131) 35 rfl 43 i0 _ 2 16 Try.underlying35 hi0 hz0 hz1 hz2 rfl (by decide) (.slice bo m bc) m (hcells hs) _ rfl HQ1.out HHL.out ⟨wr.heap.size, 0, none⟩ 1 [.int .i64 (d : Int), .int .i64 (n : Int)] rfl rfl (World.news_of_block (heap_alloc_new wr _)) ?_ ?_ ?_ ?_))
                · exact ⟨rfl, rfl⟩
                · unfold maxLen; omega
                · omega
                intro g5 o5 c5 w5 h5
                have H6 : Hid (Own w w5 (ApartR p gt (setL T d n true) (setL T d n true) (.slice (some ⟨g5, o5, none⟩) (m + 1) c5) (hs ++ [(d, n)]))) := Lib.hid (by
                  have h6 : Own w w5 (Sep (Blk wr.heap.size (.cells #[.int .i64 (d : Int), .int .i64 (n : Int)] 43 (0, 0))) (ApartR p gt (setL T d n true) (setL T d n true) (.slice (some ⟨g5, o5, none⟩) (m + 1) c5) (hs ++ [(d, n)]))) := h5.ac (by
                    unfold ApartR
                    simp only [hcells_snoc, List.length_append, List.length_cons, List.length_nil, ← HM0.out]
                    ac_rfl)
                  exact h6.snd)
                clear h5 HQ1 hbs
                go_wp2_with fail
                go_roundw
                case rel => exact ⟨k + 1, hs ++ [(d, n)], _, HLT.out, HL1.out, by go_num, by have := HHK.out; have := HM0.out; simp; omega, HCV, H6⟩
                case measure => have := HLT.out; simp [intOf]; omega
          · have hE3 : allocE T (n : Int) = 3 := by
              cases hl : low (n : Int).toNat T with
              | none => exact (alloc_full (by omega) hl 0).1
              | some d => exact absurd (alloc_some (by omega) hl 0).1 hE
            obtain ⟨hL, hV⟩ := alloc_same hE 0
            rw [hE3, hV]
            rw [hL] at h4
            have H4 : Hid (Own w w4 (ApartR p gt T T (.slice bo m bc) hs)) := Lib.hid h4
            clear h4 hE hE3 hL hV HP
            go_wp2_with fail
            go_roundw
            case rel => exact ⟨k + 1, hs, T, HLT.out, HL1.out, by go_num, by have := HHK.out; have := HM0.out; omega, HC, H4⟩
            case measure => have := HLT.out; simp [intOf]; omega
    · have hends : (¬ (k : Int) < (ks.length : Int)) ∨ (k = 100 ∧ (k : Int) < (ks.length : Int)) := by omega
      obtain ⟨m, hm⟩ : ∃ m, m = hs.length := ⟨_, rfl⟩
      rw [← hm] at HP ⊢
      have HM0 := Lib.hid hm
      have hm100 : m ≤ 1000 := by omega
      clear hm hhk hin hk hk2
      rcases hends with hltI | ⟨rfl, hltI⟩
      all_goals
        (first | have hltD : decide ((k : Int) < (ks.length : Int)) = false := decide_eq_false hltI | skip)
        have HQ0 : Hid (Own w wr (Sep (SpR 51 p 0 T) (Sep (QueV 43 2 (.slice bo m bc) m (hcells hs)) (Sep (Blk gt (.cells (bools T).toArray 4 (0, 0))) Emp)))) := Lib.hid (by
          rw [HM0.out]
          have := HP.out
          rw [HM0.out] at this
          exact this.ac (by unfold ApartR; ac_rfl))
        clear HP
        go_wp2_with fail
        go_loopw [16] (fun iv wx => ∃ (j : Nat) (T' : List Bool), j ≤ m ∧ iv = .int .i64 j ∧ Hid (Cov N (hs.drop j) T') ∧ Hid (Own w wx (Sep (SpR 51 p 0 T') (Sep (QueV 43 2 (.slice bo m bc) m (hcells hs)) (Sep (Blk gt (.cells (bools T).toArray 4 (0, 0))) Emp))))) (fun iv _ => m - (intOf iv).toNat)
        case atStart => exact ⟨0, T, Nat.zero_le _, rfl, HC, HQ0⟩
        case round =>
          clear HQ0
          obtain ⟨j, T', hj, rfl, HCJ, HJ⟩ := hrel
          by_cases hjl : j < m
          · have hjlI : (j : Int) < (m : Int) := by omega
            have hj0 : (0 : Int) ≤ (j : Int) := by omega
            have hjs : j < hs.length := by rw [← HM0.out]; exact hjl
            have hdr : hs.drop j = hs.getD j (0, 0) :: hs.drop (j + 1) := by
              rw [List.drop_eq_getElem_cons hjs]
              simp [List.getD_eq_getElem?_getD, hjs]
            have hcj := HCJ.out
            rw [hdr] at hcj
            obtain ⟨k1, k2, k3, hcov⟩ := hcj.free
            obtain ⟨q1, q2⟩ := hcells_at hjs
            rcases HJ.out.snd.que with ⟨hv, _⟩ | ⟨g2, o2, c2, hv, hqa⟩
            · simp at hv; omega
            · simp at hv
              obtain ⟨rfl, rfl⟩ := hv
              have c0 := hqa.cell q1
              have c1 := hqa.cell q2
              rw [← Nat.add_assoc] at c1
              have hTl : T'.length = N := HCJ.out.len
              have t1 : turnE 0 T' ((hs.getD j (0, 0)).1 : Int) ((hs.getD j (0, 0)).2 : Int) false = 0 := by
                have := turnE_at 0 (l := T') (d := (hs.getD j (0, 0)).1) (n := (hs.getD j (0, 0)).2) k1 (by omega) false
                rw [if_neg k3] at this
                simpa using this
              have t2 : turnL 0 T' ((hs.getD j (0, 0)).1 : Int) ((hs.getD j (0, 0)).2 : Int) false = setL T' (hs.getD j (0, 0)).1 (hs.getD j (0, 0)).2 false := by
                have := turnL_at 0 (l := T') (d := (hs.getD j (0, 0)).1) (n := (hs.getD j (0, 0)).2) k1 (by omega) k3
                simpa using this
              have HCV := Lib.hid hcov
              generalize (hs.getD j (0, 0)).1 = s0 at *
              generalize (hs.getD j (0, 0)).2 = n0 at *
              have hs1 : i64R' (s0 : Int) := by unfold i64R'; omega
              have hn01 : i64R' (n0 : Int) := by unfold i64R'; omega
              have HS1 := Lib.hid hs1
              have HS2 := Lib.hid hn01
              have T1 := Lib.hid t1
              have T2 := Lib.hid t2
              have HJd := Lib.hid HJ.out.drew
              clear hdr hcj k1 k2 k3 hcov q1 q2 hqa hTl t1 t2 hs1 hn01 HJ HCJ hjs
              go_upto_region 38 with fail
              go_still_tail 11, (by kernel_rfl)
              change wpList _ _ _ _ _ wr.drew
              clear c0 c1
              go_wp2_with fail
              refine (xown_free HJd.out (s0 : Int) (n0 : Int) HS1.out HS2.out).mono ?_
              rintro e w4 ⟨rfl, h4⟩
              rw [T1.out]
              rw [T2.out] at h4
              have H4 := Lib.hid h4
              clear h4 HJd
              go_wp2_with fail
              go_roundw
              case rel => exact ⟨j + 1, _, by omega, by go_num, HCV, H4⟩
              case measure => simp [intOf]; omega
          · obtain rfl : j = m := by omega
            have hT : T' = List.replicate N false := by
              have := HCJ.out
              rw [List.drop_of_length_le (by rw [HM0.out]; exact Nat.le_refl _)] at this
              exact this.all
            obtain ⟨N1, rfl⟩ : ∃ N1, N = N1 + 1 := ⟨N - 1, by omega⟩
            have hH := hol_rep 0 N1
            have hC := count_rep (N1 + 1)
            have H4 : Hid (Own w wr (Sep (SpR 51 p 0 (List.replicate (N1 + 1) false)) (Sep (QueV 43 2 (.slice bo j bc) j (hcells hs)) (Sep (Blk gt (.cells (bools T).toArray 4 (0, 0))) Emp)))) := Lib.hid (by have := HJ.out; rwa [hT] at this)
            have HH := Lib.hid hH
            have HCN := Lib.hid hC
            clear hT hH hC HJ HCJ
            go_wp2_with fail
            refine (xown_holes H4.out).mono ?_
            rintro e w5 ⟨v, rfl, h5⟩
            rw [HH.out] at h5
            obtain ⟨ho, hc5, rfl⟩ := own_shapeN h5.owns
            have H5 := Lib.hid h5.swap
            clear h5 H4
            go_wp2_with fail
            refine (xown_left H5.out).mono ?_
            rintro e w6 ⟨rfl, h6⟩
            rw [HCN.out]
            obtain ⟨g8, rfl, c0, c1⟩ := hole_cells h6.swap (k := 0) (by simp)
            simp only [Nat.zero_mul, Nat.zero_add, List.getD_cons_zero] at c0 c1
            have H6 := Lib.hid h6.only
            clear h6 H5
            go_wp2_with fail
            go_ret
            exact ⟨rfl, H6.out⟩

end Go.Proofs.Ytfclfmobmaemkaa
