/-
  The walk of the statement DiskFuses.
-/
import Derived.Test.YtioabebbddlokaaDiskArg
import Derived.Test.YtioabebbddlokaaDiskPads
import Derived.Deep.RegionHeld3
namespace Go.Proofs.Ytioabebbddlokaa
open Go Go.RowKit
set_option linter.unusedVariables false

theorem SlO.nil (w : World) (F : Nat → Prop) : SlO w F (.slice none 0 0) [] := ⟨.inl ⟨rfl, rfl⟩, fun a n c e => by simp at e⟩
/-- The disk behind so many writes of a fuse of n. -/
structure FS (n done : Nat) (D : DS) : Prop where
  sz : D.n = 16
  wr : D.wr = done
  le : done ≤ n
  st : (D.down = false ∧ D.fuse = (n : Int) - done) ∨ (D.down = true ∧ done = n)
  sy : D.sy = 0
  W : D.W.length ≤ done

def rightB (x : OpT) : Bool := decide (0 ≤ x.I) && decide (x.I < 16) && decide (x.B.length ≤ 64)
theorem FS.has {n done : Nat} {D : DS} (h : FS n done D) (i : Int) : D.has i = (decide (0 ≤ i) && decide (i < 16)) := by
  rw [DS.has, h.sz, Bool.eq_iff_iff]
  simp
theorem FS.wrong {n done : Nat} {D : DS} (h : FS n done D) {x : OpT} (hx : rightB x = false) : D.write x.I x.B = D ∧ D.wrE x.I x.B = 1 := by
  have e : (!D.has x.I || decide (64 < x.B.length)) = true := by
    rw [h.has, Bool.or_eq_true]
    simp [rightB] at hx
    simp
    omega
  simp only [DS.write, DS.wrE, e, if_true]
  exact ⟨trivial, trivial⟩
theorem FS.goes {n done : Nat} {D : DS} (h : FS n done D) {x : OpT} (hx : rightB x = true) (hd : done < n) : FS n (done + 1) (D.write x.I x.B) ∧ D.wrE x.I x.B = 0 ∧ (D.write x.I x.B).down = false := by
  have e : (!D.has x.I || decide (64 < x.B.length)) = false := by
    rw [h.has]
    simp [rightB] at hx
    simp
    omega
  rcases h.st with ⟨h1, h2⟩ | ⟨_, h2⟩
  · have hl := DS.last_burns h1 (by omega)
    simp only [DS.write, DS.wrE, e, hl.1, hl.2, if_true, Bool.false_eq_true, if_false]
    refine ⟨⟨h.sz, ?_, by omega, .inl ⟨h1, ?_⟩, h.sy, ?_⟩, trivial, h1⟩
    · show D.wr + 1 = _; rw [h.wr]
    · show D.fuse - 1 = _; omega
    · show (D.W ++ _).length ≤ _
      have := h.W
      simp
      omega
  · omega
theorem FS.gone {n done : Nat} {D : DS} (h : FS n done D) {x : OpT} (hx : rightB x = true) (hd : ¬ done < n) : FS n done (D.write x.I x.B) ∧ D.wrE x.I x.B = 4 ∧ (D.write x.I x.B).down = true := by
  have e : (!D.has x.I || decide (64 < x.B.length)) = false := by
    rw [h.has]
    simp [rightB] at hx
    simp
    omega
  have hle := h.le
  rcases h.st with ⟨h1, h2⟩ | ⟨h1, h2⟩
  · have hl := DS.last_goes h1 (by omega)
    simp only [DS.write, DS.wrE, e, hl.1, hl.2, if_true, Bool.false_eq_true, if_false]
    exact ⟨⟨h.sz, h.wr, h.le, .inr ⟨rfl, by omega⟩, h.sy, h.W⟩, trivial, trivial⟩
  · have hl := DS.last_gone h1
    simp only [DS.write, DS.wrE, e, hl.1, hl.2, if_true, Bool.false_eq_true, if_false]
    exact ⟨h, trivial, h1⟩

set_option maxRecDepth 100000 in
set_option maxHeartbeats 1000000 in
theorem fuses_walk (z : Int) (ao : Option Addr) (c : Nat) (os : List OpT) (w : World) (ho : SlOp w ao os) :
    Calls Try.prog 5 #[.int .i64 z, .slice ao os.length c] w fun e w' => e = .returned (.bool true) ∧ Quiet w w' := by
  obtain ⟨h20, hm⟩ := modN_spec 20 (by decide) (by decide) z
  obtain ⟨n, hn⟩ : ∃ n, n = modN 20 z := ⟨_, rfl⟩
  rw [← hn] at h20 hm
  have hm : (wrap64 (z.tmod 20 + 20)).tmod 20 = (n : Int) := hm
  have HO := Lib.hid ho
  have HM := Lib.hid hm
  clear ho hm hn
  go_enter Try.func5, Try.ntmps5
  go_wp2_with fail
  refine (awake_any w).mono ?_
  rintro e w0 ⟨rfl, hq⟩
  have H0 := Lib.hid ((Own.start w).quiet hq); clear hq
  go_wp2_with fail
  refine (own_new H0.out 16 (by decide) (by decide)).mono ?_
  rintro e w1 ⟨p, rfl, h1⟩
  have H1 := Lib.hid h1; clear h1 H0
  go_wp2_with fail
  simp only [HM.out]
  refine (own_fuse H1.out n (by omega)).mono ?_
  rintro e w2 ⟨rfl, h2⟩
  have HF0 : Hid (FS n 0 ((DS.new 16).fused n)) := Lib.hid ⟨rfl, rfl, Nat.zero_le _, .inl ⟨rfl, by show (n : Int) = _; omega⟩, rfl, Nat.le_refl _⟩
  have H2 := Lib.hid h2; clear h2 H1
  go_wp2_with fail
  go_loopw [7, 8] (fun dn i wr => ∃ (k d : Nat) (D : DS), k ≤ os.length ∧ k ≤ 100 ∧ d ≤ k ∧ dn = .int .i64 d ∧ i = .int .i64 k ∧ Hid (FS n d D) ∧ Hid (Own w wr (Sep (DiskR p D) Emp))) (fun _ i _ => os.length - (intOf i).toNat)
  case atStart => exact ⟨0, 0, _, Nat.zero_le _, by omega, by omega, rfl, rfl, HF0, H2⟩
  case round =>
    obtain ⟨k, d, D, hk, hk1, hdk, rfl, rfl, HF, HQ⟩ := hrel
    clear HF0 H2
    by_cases hlt : k < os.length
    · by_cases h100 : k < 100
      · have hltI : (k : Int) < (os.length : Int) := by omega
        have h100I : (k : Int) < 100 := by omega
        have hk0 : (0 : Int) ≤ (k : Int) := by omega
        obtain ⟨g, off, rfl, hx⟩ := HO.out k hlt
        obtain ⟨x, hxe⟩ : ∃ x, x = os.getD k default := ⟨_, rfl⟩
        rw [← hxe] at hx
        clear hxe
        obtain ⟨xk, xi, xb, xl⟩ := x
        obtain ⟨vb, hvb, hSb⟩ := hx.b
        obtain ⟨vo, vc, rfl⟩ := hSb.shape
        have HI := Lib.hid hx.i
        have HVB := Lib.hid hvb
        have HSB := Lib.hid hSb
        have HRI := Lib.hid hx.ri
        have d1 : wr.cell? ⟨g, off + k * 4 + 1, none⟩ = some (.int .i64 xi) := HQ.out.only.cellq hx.i
        have d2 : wr.cell? ⟨g, off + k * 4 + 2, none⟩ = some (.slice vo xb.length vc) := HQ.out.only.cellq hvb
        clear hx hvb hSb
        have HQd := Lib.hid HQ.out.drew
        have HW1 := Lib.hid (show D.W.length ≤ 1000000 by have := HF.out.W; omega)
        have HW2 := Lib.hid (show D.wr ≤ 1000000 by have := HF.out.wr; omega)
        have hcall := fun (W : World) (hW : Own w W (Sep (DiskR p D) Emp)) => own_write hW xi (.slice vo xb.length vc) xb (fun F B _ _ h0 _ => HSB.out.old hW.only h0) HW1.out HW2.out
        have HCALL := Lib.hid hcall
        clear hcall
        go_upto_region 12 with fail
        go_region_held3 (fun w' => w'.cell? ⟨g, off + k * 4 + 1, none⟩ = some (.int .i64 xi) ∧ w'.cell? ⟨g, off + k * 4 + 2, none⟩ = some (.slice vo xb.length vc))
          (first
            | exact ⟨HA1.out.only.cellq HI.out, HA1.out.only.cellq HVB.out⟩
            | exact ⟨HQd.out.only.cellq HI.out, HQd.out.only.cellq HVB.out⟩)
          (first
            | (go_at_call 15; (with_reducible refine (HCALL.out _ HQd.out).mono ?_); rintro e w3 ⟨rfl, ha⟩; have HA1 := Lib.hid ha; clear ha))
        have d1' : w3.cell? ⟨g, off + k * 4 + 1, none⟩ = some (.int .i64 xi) := HA1.out.only.cellq HI.out
        have d2' : w3.cell? ⟨g, off + k * 4 + 2, none⟩ = some (.slice vo xb.length vc) := HA1.out.only.cellq HVB.out
        clear d1 d2 HQd HCALL HQ
        by_cases hr : rightB ⟨xk, xi, xb, xl⟩ = true
        · have hr3 : 0 ≤ xi ∧ xi < 16 ∧ (xb.length : Int) ≤ 64 := by simp [rightB] at hr; omega
          obtain ⟨r1, r2, r3⟩ := hr3
          have r1' : decide (0 ≤ xi) = true := decide_eq_true r1
          have r2' : decide (xi < 16) = true := decide_eq_true r2
          have r3' : decide ((xb.length : Int) ≤ 64) = true := decide_eq_true r3
          by_cases hd : d < n
          · have hdI : (d : Int) < (n : Int) := by omega
            obtain ⟨f1, f2, f3⟩ := HF.out.goes hr hd
            change FS n (d + 1) (D.write xi xb) at f1
            change D.wrE xi xb = 0 at f2
            change (D.write xi xb).down = false at f3
            rw [show ((D.wrE xi xb : Nat) : Int) = 0 by rw [f2]; rfl]
            have F1 := Lib.hid f1
            obtain ⟨gn, gk, vw, hD⟩ := HA1.out.disk
            have hdn := disk_down hD
            rw [f3] at hdn
            have HDN := Lib.hid hdn
            clear f1 f2 f3 hD hdn hr
            go_wp2_with (go_at_call 21; refine HDN.out.mono ?_; rintro e w' ⟨rfl, rfl⟩)
            all_goals
              go_roundw
              case rel => exact ⟨k + 1, d + 1, _, by omega, by omega, by omega, by go_num, by go_num, F1, HA1⟩
              case measure => simp [intOf]; omega
          · have hdI : ¬ (d : Int) < (n : Int) := by omega
            obtain ⟨f1, f2, f3⟩ := HF.out.gone hr hd
            change FS n d (D.write xi xb) at f1
            change D.wrE xi xb = 4 at f2
            change (D.write xi xb).down = true at f3
            rw [show ((D.wrE xi xb : Nat) : Int) = 4 by rw [f2]; rfl]
            have F1 := Lib.hid f1
            obtain ⟨gn, gk, vw, hD⟩ := HA1.out.disk
            have hdn := disk_down hD
            have hsy := disk_sync_gone hD f3
            rw [f3] at hdn
            have HDN := Lib.hid hdn
            have HSY := Lib.hid hsy
            clear f1 f2 f3 hD hdn hr hsy
            go_wp2_with (first | (go_at_call 21; refine HDN.out.mono ?_; rintro e w' ⟨rfl, rfl⟩) | (go_at_call 16; refine HSY.out.mono ?_; rintro e w' ⟨rfl, rfl⟩))
            all_goals
              go_roundw
              case rel => exact ⟨k + 1, d, _, by omega, by omega, by omega, rfl, by go_num, F1, HA1⟩
              case measure => simp [intOf]; omega
        · have hr' : rightB ⟨xk, xi, xb, xl⟩ = false := by simpa using hr
          have hw := HF.out.wrong hr'
          obtain ⟨f1, f2⟩ := hw
          change D.write xi xb = D at f1
          change D.wrE xi xb = 1 at f2
          rw [show ((D.wrE xi xb : Nat) : Int) = 1 by rw [f2]; rfl]
          have HA2 : Hid (Own w w3 (Sep (DiskR p D) Emp)) := Lib.hid (by have := HA1.out; rw [f1] at this; exact this)
          have hr3 : ¬ 0 ≤ xi ∨ (0 ≤ xi ∧ ¬ xi < 16) ∨ (0 ≤ xi ∧ xi < 16 ∧ ¬ (xb.length : Int) ≤ 64) := by simp [rightB] at hr'; omega
          clear f1 f2 hr hr' HA1
          rcases hr3 with r1 | ⟨r1, r2⟩ | ⟨r1, r2, r3⟩
          · have r1' : decide (0 ≤ xi) = false := decide_eq_false r1
            go_wp2_with fail
            all_goals
              go_roundw
              case rel => exact ⟨k + 1, d, D, by omega, by omega, by omega, rfl, by go_num, HF, HA2⟩
              case measure => simp [intOf]; omega
          · have r2' : decide (xi < 16) = false := decide_eq_false r2
            go_wp2_with fail
            all_goals
              go_roundw
              case rel => exact ⟨k + 1, d, D, by omega, by omega, by omega, rfl, by go_num, HF, HA2⟩
              case measure => simp [intOf]; omega
          · have r3' : decide ((xb.length : Int) ≤ 64) = false := decide_eq_false r3
            go_wp2_with fail
            all_goals
              go_roundw
              case rel => exact ⟨k + 1, d, D, by omega, by omega, by omega, rfl, by go_num, HF, HA2⟩
              case measure => simp [intOf]; omega
      · have hltI : (k : Int) < (os.length : Int) := by omega
        have h100I : ¬ (k : Int) < 100 := by omega
        go_upto_region 23 with fail
        all_goals

          obtain ⟨gn, gk, vw, hD⟩ := HQ.out.disk
          have hwr := disk_writes hD
          rw [HF.out.wr] at hwr
          have HWR := Lib.hid hwr
          have hWl := HF.out.W
          clear hD hwr
          go_wp2_with (go_at_call 19; refine HWR.out.mono ?_; rintro e w' ⟨rfl, rfl⟩)
          refine (own_crash HQ.out none 0 [] (fun _ _ _ _ _ _ => SlIO.nil _ _) (by simp) (by omega)).mono ?_
          rintro e w3 ⟨rfl, h3⟩
          obtain ⟨C, hC⟩ : ∃ C, C = D.crash [] := ⟨_, rfl⟩
          rw [← hC] at h3
          have hC1 : C.down = false ∧ C.fuse = -1 ∧ C.n = 16 ∧ C.W = [] ∧ C.wr = d ∧ C.sy = 0 := by rw [hC]; exact ⟨rfl, rfl, HF.out.sz, rfl, HF.out.wr, HF.out.sy⟩
          clear hC HQ HWR
          have H3 := Lib.hid h3; clear h3
          obtain ⟨gn, gk, vw, hD⟩ := H3.out.disk
          have hdn := disk_down hD
          rw [hC1.1] at hdn
          have HDN := Lib.hid hdn
          have HC1 := Lib.hid hC1
          clear hD hdn hC1
          have hwf := DS.write_free (D := C) HC1.out.1 (by rw [HC1.out.2.1]; decide) (i := 0) (by rw [HC1.out.2.2.1]; decide) (b := []) (by decide)
          have HWF := Lib.hid hwf
          clear hwf
          go_wp2_with (go_at_call 21; refine HDN.out.mono ?_; rintro e w' ⟨rfl, rfl⟩)
          refine (own_write H3.out 0 (.slice none 0 0) [] (fun F B _ _ _ _ => SlO.nil _ _) (by rw [HC1.out.2.2.2.1]; decide) (by rw [HC1.out.2.2.2.2.1]; omega)).mono ?_
          rintro e w4 ⟨rfl, h4⟩
          have h4 : Own w w4 (Sep (DiskR p (C.lay 0 (pad []))) Emp) := by
            have e : C.write 0 [] = C.lay 0 (pad []) := HWF.out.1
            rw [e] at h4
            exact h4
          have e2 : C.wrE 0 [] = 0 := HWF.out.2
          rw [e2]
          have H4 := Lib.hid h4; clear h4 e2
          go_wp2_with fail
          have hsy := own_sync H4.out (by show (C.W ++ _).length ≤ _; rw [HC1.out.2.2.2.1]; exact (show 1 ≤ 1000000 by decide)) (by show C.sy ≤ _; rw [HC1.out.2.2.2.2.2]; decide)
          have e3 : syE (C.lay 0 (pad [])) = 0 := by
            show (if C.down then 4 else 0) = 0
            rw [HC1.out.1]
            rfl
          rw [e3] at hsy
          refine hsy.mono ?_
          rintro e w5 ⟨rfl, h5⟩
          have H5 := Lib.hid h5.only; clear h5 hsy e3
          go_wp2_with fail
          go_ret
          exact ⟨rfl, H5.out⟩
    · have hltI : ¬ (k : Int) < (os.length : Int) := by omega
      go_upto_region 23 with fail
      all_goals
        skip

        obtain ⟨gn, gk, vw, hD⟩ := HQ.out.disk
        have hwr := disk_writes hD
        rw [HF.out.wr] at hwr
        have HWR := Lib.hid hwr
        have hWl := HF.out.W
        clear hD hwr
        go_wp2_with (go_at_call 19; refine HWR.out.mono ?_; rintro e w' ⟨rfl, rfl⟩)
        refine (own_crash HQ.out none 0 [] (fun _ _ _ _ _ _ => SlIO.nil _ _) (by simp) (by omega)).mono ?_
        rintro e w3 ⟨rfl, h3⟩
        obtain ⟨C, hC⟩ : ∃ C, C = D.crash [] := ⟨_, rfl⟩
        rw [← hC] at h3
        have hC1 : C.down = false ∧ C.fuse = -1 ∧ C.n = 16 ∧ C.W = [] ∧ C.wr = d ∧ C.sy = 0 := by rw [hC]; exact ⟨rfl, rfl, HF.out.sz, rfl, HF.out.wr, HF.out.sy⟩
        clear hC HQ HWR
        have H3 := Lib.hid h3; clear h3
        obtain ⟨gn, gk, vw, hD⟩ := H3.out.disk
        have hdn := disk_down hD
        rw [hC1.1] at hdn
        have HDN := Lib.hid hdn
        have HC1 := Lib.hid hC1
        clear hD hdn hC1
        have hwf := DS.write_free (D := C) HC1.out.1 (by rw [HC1.out.2.1]; decide) (i := 0) (by rw [HC1.out.2.2.1]; decide) (b := []) (by decide)
        have HWF := Lib.hid hwf
        clear hwf
        go_wp2_with (go_at_call 21; refine HDN.out.mono ?_; rintro e w' ⟨rfl, rfl⟩)
        refine (own_write H3.out 0 (.slice none 0 0) [] (fun F B _ _ _ _ => SlO.nil _ _) (by rw [HC1.out.2.2.2.1]; decide) (by rw [HC1.out.2.2.2.2.1]; omega)).mono ?_
        rintro e w4 ⟨rfl, h4⟩
        have h4 : Own w w4 (Sep (DiskR p (C.lay 0 (pad []))) Emp) := by
          have e : C.write 0 [] = C.lay 0 (pad []) := HWF.out.1
          rw [e] at h4
          exact h4
        have e2 : C.wrE 0 [] = 0 := HWF.out.2
        rw [e2]
        have H4 := Lib.hid h4; clear h4 e2
        go_wp2_with fail
        have hsy := own_sync H4.out (by show (C.W ++ _).length ≤ _; rw [HC1.out.2.2.2.1]; exact (show 1 ≤ 1000000 by decide)) (by show C.sy ≤ _; rw [HC1.out.2.2.2.2.2]; decide)
        have e3 : syE (C.lay 0 (pad [])) = 0 := by
          show (if C.down then 4 else 0) = 0
          rw [HC1.out.1]
          rfl
        rw [e3] at hsy
        refine hsy.mono ?_
        rintro e w5 ⟨rfl, h5⟩
        have H5 := Lib.hid h5.only; clear h5 hsy e3
        go_wp2_with fail
        go_ret
        exact ⟨rfl, H5.out⟩

end Go.Proofs.Ytioabebbddlokaa
