/-
  The walk of the statement ExtentLowest.
-/
import Derived.Test.YtfclfmobmaemkaaExtTwice
import Derived.Test.YtfclfmobmaemkaaExtSt3
namespace Go.Proofs.Ytfclfmobmaemkaa
open Go Go.RowKit
set_option linter.unusedVariables false
set_option linter.unusedSimpArgs false
set_option maxRecDepth 100000

set_option maxRecDepth 100000 in
set_option maxHeartbeats 4000000 in
theorem lowest_walk (ao : Option Addr) (c : Nat) (os : List OpE) (z : Int) (w : World) (ho : SlE w ao os) :
    Calls Try.prog 5 #[.slice ao os.length c, .int .i64 z] w fun e w' => e = .returned (.bool true) ∧ Quiet w w' := by
  obtain ⟨h20, hm⟩ := xmodN_spec 20 (by decide) (by decide) z
  have hm : (wrap64 (z.tmod 20 + 20)).tmod 20 = (xmodN 20 z : Int) := hm
  obtain ⟨y, hy⟩ : ∃ y, y = xmodN 20 z := ⟨_, rfl⟩
  rw [← hy] at h20 hm
  have HO := Lib.hid ho
  have HM := Lib.hid hm
  have H20 := Lib.hid h20
  clear ho hm hy h20
  go_enter Try.func5, Try.ntmps5
  go_wp2_with fail
  refine (xawake_any w).mono ?_
  rintro e w0 ⟨rfl, hq⟩
  have H0 := Lib.hid ((Own.start w).quiet hq); clear hq
  go_wp2_with fail
  refine (xown_new H0.out 0 60 60 (by decide) (by decide)).mono ?_
  rintro e w1 ⟨p, rfl, h1⟩
  have H1 := Lib.hid h1; clear h1 H0
  go_wp2_with fail
  go_loopw [7] (fun i wr => ∃ (k : Nat) (l : List Bool), k ≤ os.length ∧ k ≤ 60 ∧ i = .int .i64 k ∧ Hid (l.length = 60) ∧ Hid (Own w wr (Sep (SpR 51 p 0 l) Emp))) (fun i _ => os.length - (intOf i).toNat)
  case atStart => exact ⟨0, _, Nat.zero_le _, by omega, rfl, Lib.hid List.length_replicate, H1⟩
  case round =>
    clear H1
    obtain ⟨k, l, hk, hk2, rfl, HLN, HP⟩ := hrel
    by_cases hin : k < os.length ∧ k < 60
    · obtain ⟨hlt, h60⟩ := hin
      have hltI : (k : Int) < (os.length : Int) := by omega
      have h60I : (k : Int) < 60 := by omega
      have hk0 : (0 : Int) ≤ (k : Int) := by omega
      obtain ⟨g, off, rfl, hx⟩ := HO.out k hlt
      obtain ⟨x, hxe⟩ : ∃ x, x = os.getD k default := ⟨_, rfl⟩
      rw [← hxe] at hx
      clear hxe
      have hx := hx.keep HP.out.only
      obtain ⟨xk, xs, xn⟩ := x
      obtain ⟨_, d1, d2, _, rs, rn⟩ := hx
      simp only at d1 d2 rs rn
      have HRN := Lib.hid rn
      have HRS := Lib.hid rs
      have HLT := Lib.hid hlt
      have HL1 := Lib.hid h60
      have HPd := Lib.hid HP.out.drew
      clear hk hk2 rn rs
      go_upto_region 9 with fail
      go_still_tail 11, (by kernel_rfl)
      change wpList _ _ _ _ _ wr.drew
      clear d1 d2
      go_wp2_with fail
      refine (xown_take HPd.out xs xn HRS.out HRN.out).mono ?_
      rintro e w2 ⟨rfl, h2⟩
      have H2 := Lib.hid h2
      clear h2 HPd HP
      go_wp2_with fail
      go_roundw
      case rel => exact ⟨k + 1, _, HLT.out, HL1.out, by go_num, Lib.hid ((turnL_length _ _ _ _ _).trans HLN.out), H2⟩
      case measure => have := HLT.out; simp [intOf]; omega
    · have hstop : ∀ (wx : World), True := fun _ => trivial
      clear hstop
      have hends : (¬ (k : Int) < (os.length : Int)) ∨ (k = 60 ∧ (k : Int) < (os.length : Int)) := by omega
      clear hin hk hk2
      rcases hends with hltI | ⟨rfl, hltI⟩
      all_goals
        (first | have hltD : decide ((k : Int) < (os.length : Int)) = false := decide_eq_false hltI | skip)
        go_wp2_with fail
        refine (xown_holes HP.out).mono ?_
        rintro e w2 ⟨v, rfl, h2⟩
        obtain ⟨bo, bc, rfl⟩ := own_shapeN h2.owns
        have H2 := Lib.hid h2
        clear h2 HP
        go_wp2_with fail
        rw [HM.out]
        obtain ⟨n, hn⟩ : ∃ n : Nat, n = y + 1 := ⟨_, rfl⟩
        have hnI : ((y : Int) + 1) = (n : Int) := by omega
        have hn1 : 1 ≤ n := by omega
        have hn20 : n ≤ 20 := by have := H20.out; omega
        rw [hnI, show wrap64 (n : Int) = (n : Int) from IntWalk.wrap64_in _ ⟨by omega, by omega⟩]
        clear hn hnI
        have hnr : i64R' (n : Int) := by unfold i64R'; omega
        with_reducible (refine (xown_alloc H2.out.swap n hnr).mono ?_)
        rintro e w3 ⟨rfl, h3⟩
        have H3 := Lib.hid h3.swap
        have HN1 := Lib.hid hn1
        have HNR := Lib.hid hnr
        have hlen : (hol 0 l).length ≤ 60 := by have := hol_length 0 l; have := HLN.out; omega
        obtain ⟨m, hm⟩ : ∃ m, m = (hol 0 l).length := ⟨_, rfl⟩
        have HFH := Lib.hid (first_hole hn1 0 l)
        have HBD := Lib.hid (hol_bounds 0 l)
        obtain ⟨hs, hhs⟩ : ∃ hs, hs = hol 0 l := ⟨_, rfl⟩
        rw [← hm] at hlen ⊢
        obtain ⟨V, hV⟩ : ∃ V, V = allocV 0 l n := ⟨_, rfl⟩
        obtain ⟨E, hE⟩ : ∃ E, E = allocE l n := ⟨_, rfl⟩
        rw [← hV, ← hE]
        have H3 : Hid (Own w w3 (Sep (RowV 43 2 (.slice bo m bc) m (hcells hs)) (Sep (SpR 51 p 0 (allocL l n)) Emp))) := Lib.hid (by rw [hm, hhs]; exact H3.out)
        have HMH : Hid (m = hs.length) := Lib.hid (by rw [hm, hhs])
        rw [← hhs] at HFH HBD
        have HHS := Lib.hid hhs
        have HV := Lib.hid hV
        have HE := Lib.hid hE
        clear h3 H2 hm hhs hV hE hnr
        go_wp2_with fail
        go_loop [11] (fun i => ∃ j : Nat, j ≤ m ∧ i = .int .i64 j ∧ Hid (∀ t, t < j → (hs.getD t (0, 0)).2 < n)) (fun i => m - (intOf i).toNat)
        case atStart => exact ⟨0, Nat.zero_le _, rfl, Lib.hid (fun t ht => absurd ht (Nat.not_lt_zero t))⟩
        case round =>
          obtain ⟨j, hj, rfl, HJ⟩ := hrel
          by_cases hjl : j < m
          · obtain ⟨gb, rfl, k0, k1⟩ := hole_cells H3.out (k := j) (by rw [← HMH.out]; exact hjl)
            have hjlI : (j : Int) < (m : Int) := by omega
            have hj0 : (0 : Int) ≤ (j : Int) := by omega
            by_cases hbig : n ≤ (hs.getD j (0, 0)).2
            · have hfnd : hs.find? (fun h => decide (n ≤ h.2)) = some (hs.getD j (0, 0)) := find_first (by rw [← HMH.out]; exact hjl) HJ.out hbig
              obtain ⟨d, hd, hdx⟩ : ∃ d, low n l = some d ∧ (hs.getD j (0, 0)).1 = d := by
                have h1 := HFH.out
                rw [hfnd] at h1
                cases hl : low n l with
                | none => rw [hl] at h1; simp at h1
                | some d => rw [hl] at h1; simp at h1; exact ⟨d, rfl, by simpa using h1⟩
              obtain ⟨q1, q2, q3⟩ := alloc_some (n := (n : Int)) (l := l) (d := d) (by have := HN1.out; omega) (by simpa using hd) 0
              obtain ⟨d', _, r2, r3, r4, _, _⟩ := alloc_free q1
              have hdd : d' = d := by
                have e1 : (n : Int).toNat = n := by omega
                rw [e1, hd] at r2
                simpa using r2.symm
              subst hdd
              have e1 : (n : Int).toNat = n := by omega
              rw [e1] at r3 r4 q3
              have s1 := set_again 0 (l := l) (d := d') (n := n) HN1.out r3
              have s2 := set_back 0 (l := l) (d := d') (n := n) HN1.out r3 r4
              have sL : turnL 0 (setL l d' n true) (((0 : Nat) : Int) + (d' : Int)) ((1 : Nat) : Int) true = setL l d' n true := turn_same (by rw [s1]; decide)
              have hd60 : d' + n ≤ 60 := by rw [← HLN.out]; exact r3
              have H4 : Hid (Own w w3 (Sep (SpR 51 p 0 (setL l d' n true)) (Sep (RowV 43 2 (.slice (some ⟨gb, 0, none⟩) m bc) m (hcells hs)) Emp))) := Lib.hid (by have := H3.out.swap; rwa [q3] at this)
              obtain rfl : E = 0 := HE.out.trans q1
              have hVd : V = d' := by rw [HV.out, q2, Nat.zero_add]
              subst hVd
              have e0 : ∀ x : Nat, ((0 : Nat) : Int) + (x : Int) = (x : Int) := fun x => by simp
              rw [e0] at s1 s2 sL
              rw [hdx] at k0
              have hbigI : (n : Int) ≤ ((hs.getD j (0, 0)).2 : Int) := by omega
              generalize (hs.getD j (0, 0)).2 = len at *
              have S1 := Lib.hid s1
              have S2 := Lib.hid s2
              have SL := Lib.hid sL
              have hV1 : i64R' (V : Int) := by unfold i64R'; omega
              have HV1 := Lib.hid hV1
              clear hfnd hd hdx q1 q2 q3 r2 r3 r4 s1 s2 sL hV1 hd60 e1 e0 hbig H3
              go_wp2_with fail
              refine (xown_take H4.out (V : Int) 1 HV1.out (by unfold i64R'; decide)).mono ?_
              rintro e w4 ⟨rfl, h4⟩
              rw [show (1 : Int) = ((1 : Nat) : Int) from rfl, SL.out] at h4
              rw [show (1 : Int) = ((1 : Nat) : Int) from rfl, S1.out]
              have H5 := Lib.hid h4
              clear h4 H4 k0 k1
              go_wp2_with fail
              refine (xown_free H5.out (V : Int) n HV1.out HNR.out).mono ?_
              rintro e w5 ⟨rfl, h5⟩
              have t1 := S2.out.1
              have t2 := S2.out.2
              simp only [Bool.not_true] at t1 t2
              rw [t2] at h5
              rw [t1]
              have H6 := Lib.hid h5
              clear h5 H5 t1 t2
              go_wp2_with fail
              refine (xown_holes H6.out).mono ?_
              rintro e w6 ⟨v6, rfl, h6⟩
              obtain ⟨co, cc, rfl⟩ := own_shapeN h6.owns
              have hlm : (hol 0 l).length = m := by rw [HMH.out, HHS.out]
              rw [hlm]
              have H7 := Lib.hid h6.only
              clear h6 H6 hlm
              go_wp2_with fail
              go_ret
              exact ⟨rfl, H7.out⟩
            · have hsm : (hs.getD j (0, 0)).2 < n := Nat.lt_of_not_le hbig
              have hsmI : ¬ (n : Int) ≤ ((hs.getD j (0, 0)).2 : Int) := by omega
              have HJ2 : Hid (∀ t, t < j + 1 → (hs.getD t (0, 0)).2 < n) := Lib.hid (fun t ht => by
                by_cases e : t = j
                · subst e; exact hsm
                · exact HJ.out t (by omega))
              generalize (hs.getD j (0, 0)).1 = u0 at *
              generalize (hs.getD j (0, 0)).2 = u1 at *
              clear hbig hsm
              go_wp2_with fail
              go_round
              case rel => exact ⟨j + 1, by omega, by go_num, HJ2⟩
              case measure => simp [intOf]; omega
          · obtain rfl : j = m := by omega
            have hnone : low n l = none := by
              have h1 := HFH.out
              have h2 : hs.find? (fun h => decide (n ≤ h.2)) = none := find_none (fun t ht => HJ.out t (by rw [HMH.out]; exact ht))
              rw [h2] at h1
              cases hl : low n l with
              | none => rfl
              | some d => rw [hl] at h1; simp at h1
            obtain ⟨q1, q2, _⟩ := alloc_full (n := (n : Int)) (l := l) (by have := HN1.out; omega) (by simpa using hnone) 0
            obtain rfl : E = 3 := HE.out.trans q1
            obtain rfl : V = 0 := HV.out.trans q2
            have H7 := Lib.hid H3.out.only
            clear hnone q1 q2 H3
            go_wp2_with fail
            go_ret
            exact ⟨rfl, H7.out⟩

end Go.Proofs.Ytfclfmobmaemkaa
