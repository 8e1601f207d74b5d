/-
  The document's own rows: Columns, Fits.
-/
import Derived.Test.YtgkcflindenboaaDoorRowR1
namespace Go.Proofs.YtgkcflindenboaaDoor
open Go Go.RowKit
set_option linter.unusedVariables false
set_option linter.unusedSimpArgs false
set_option maxRecDepth 100000

set_option maxHeartbeats 4000000 in
theorem rcols8 (co : Option Addr) (n cc : Nat) (cs : List Cv) (w : World) (hc : SlCs w co cs) (hn : n = cs.length) :
    Calls Tryd.prog 37 #[.slice co n cc] w fun e w' => e = .returned (.bool (colsB cs)) ∧ Only (fun _ => False) w w' := by
  have HC := Lib.hid hc
  have HN := Lib.hid hn
  clear hc
  by_cases h1 : n < 1
  · have h1I : (n : Int) < 1 := by omega
    have hE : colsB cs = false := by
      rw [← Bool.not_eq_true, colsB_iff]
      omega
    rw [hE]
    clear hn h1 hE
    go_enter Tryd.func37, Tryd.ntmps37
    go_wp2_with fail
    go_ret
    exact ⟨rfl, Only.refl _ _⟩
  by_cases h24 : 24 < n
  · have h1I : ¬ (n : Int) < 1 := by omega
    have h2I : (24 : Int) < (n : Int) := by omega
    have hE : colsB cs = false := by
      rw [← Bool.not_eq_true, colsB_iff]
      omega
    rw [hE]
    clear hn h1 hE h24
    go_enter Tryd.func37, Tryd.ntmps37
    go_wp2_with fail
    go_ret
    exact ⟨rfl, Only.refl _ _⟩
  have h1I : ¬ (n : Int) < 1 := by omega
  have h2I : ¬ (24 : Int) < (n : Int) := by omega
  have HSZ : Hid (1 ≤ cs.length ∧ cs.length ≤ 24) := Lib.hid (by omega)
  obtain ⟨R, hR⟩ : ∃ R, colsB cs = R := ⟨_, rfl⟩
  rw [hR]
  have HR := Lib.hid hR
  clear hn hR
  go_enter Tryd.func37, Tryd.ntmps37
  go_wp2_with fail
  go_loopw [3] (fun i wr => ∃ (k : Nat), k ≤ n ∧ i = .int .i64 (k : Int) ∧ Hid (∀ j, j < k → (cs.getD j default).E = 0) ∧ Hid (Only (fun _ => False) w wr)) (fun i _ => n - (intOf i).toNat)
  case atStart => exact ⟨0, Nat.zero_le _, rfl, Lib.hid (fun j hj => absurd hj (Nat.not_lt_zero _)), Lib.hid (Only.refl _ _)⟩
  case round =>
    obtain ⟨k, hk, rfl, HA, HO⟩ := hrel
    by_cases hlt : k < n
    · have HKL : Hid (k < cs.length) := Lib.hid (by rw [← HN.out]; exact hlt)
      obtain ⟨g, off, rfl, hca⟩ := (HC.out.keep HO.out) k HKL.out
      obtain ⟨c, hce⟩ : ∃ c, cs.getD k default = c := ⟨_, rfl⟩
      rw [hce] at hca
      have HCE := Lib.hid hce
      obtain ⟨y0, y1, y2, y3, y4, y5, y6, hu⟩ := hca
      have H1 := HO
      obtain ⟨er, her⟩ : ∃ er, c.E = er := ⟨_, rfl⟩
      have HER := Lib.hid her
      have hcu := fun W => rcolumn_any (nm := c.nm) (cK := c.K) (cM := c.M) (nu := c.nu) (dK := c.dK) (dS := c.dS) hu W
      simp only [show colE c.nm.toList c.K c.M c.nu (vl c.dK c.dN c.dS) = c.E from rfl, her] at hcu
      have HCU := Lib.hid hcu
      have hltI : (k : Int) < (n : Int) := by omega
      have hk0 : (0 : Int) ≤ (k : Int) := by omega
      clear hce her hcu hu HO
      go_wp2_with fail
      refine (HCU.out _).mono ?_
      rintro e w4 ⟨rfl, hb4⟩
      have H4 := Lib.hid (H1.out.trans (below_quiet hb4) (fun _ _ h => h))
      clear hb4 HCU H1 y0 y1 y2 y3 y4 y5 y6
      by_cases h0 : er = 0
      · subst h0
        go_wp2_with fail
        go_roundw
        case rel =>
          refine ⟨k + 1, by omega, by go_num, Lib.hid (fun j hj => ?_), H4⟩
          rcases Nat.lt_or_ge j k with h | h
          · exact HA.out j h
          · obtain rfl : j = k := by omega
            rw [HCE.out]
            exact HER.out
        case measure => simp [intOf]; omega
      · have hne : (er != 0) = true := by simpa using h0
        have HRF : Hid (R = false) := Lib.hid (by
          rw [← HR.out, ← Bool.not_eq_true, colsB_iff]
          rintro ⟨_, _, h⟩
          have := h c (by rw [← HCE.out]; have := HKL.out; simp [this])
          rw [HER.out] at this
          exact h0 this)
        clear h0
        go_wp2_with fail
        go_ret
        exact ⟨by rw [HRF.out]; rfl, H4.out⟩
    · obtain rfl : k = n := by omega
      have hltI : ¬ (k : Int) < (k : Int) := by omega
      have HRT : Hid (R = true) := Lib.hid (by
        rw [← HR.out, colsB_iff]
        refine ⟨HSZ.out.1, HSZ.out.2, fun c hc => ?_⟩
        obtain ⟨j, hj, rfl⟩ := List.getElem_of_mem hc
        have := HA.out j (by rw [HN.out]; exact hj)
        simpa [hj] using this)
      go_wp2_with fail
      go_ret
      exact ⟨by rw [HRT.out]; rfl, HO.out⟩

set_option maxHeartbeats 8000000 in
theorem rfits8 (co lo : Option Addr) (n cc m lc : Nat) (cs : List Cv) (vs : List Vv) (w : World) (hc : SlCs w co cs) (hv : SlV w lo vs) (hn : n = cs.length) (hm : m = vs.length) :
    Calls Tryd.prog 19 #[.slice co n cc, .slice lo m lc] w fun e w' => e = .returned (.int .i64 (rfits cs (vs.map Vv.vl))) ∧ Only (fun _ => False) w w' := by
  have HC := Lib.hid hc
  have HV := Lib.hid hv
  have HN := Lib.hid hn
  have HM := Lib.hid hm
  have HCO := Lib.hid (rcols8 co n cc cs w hc hn)
  obtain ⟨B, hB⟩ : ∃ B, colsB cs = B := ⟨_, rfl⟩
  rw [hB] at HCO
  have HB := Lib.hid hB
  obtain ⟨R, hR⟩ : ∃ R, rfits cs (vs.map Vv.vl) = R := ⟨_, rfl⟩
  rw [hR]
  have HR := Lib.hid hR
  clear hc hv hn hm hB hR
  cases B with
  | false =>
    have HRV : Hid (R = 1) := Lib.hid (by rw [← HR.out]; unfold rfits; rw [if_pos (.inl HB.out)])
    go_enter Tryd.func19, Tryd.ntmps19
    go_wp2_with fail
    refine HCO.out.mono ?_
    rintro e w1 ⟨rfl, h1⟩
    have H1 := Lib.hid h1
    clear h1 HCO
    go_wp2_with fail
    go_ret
    exact ⟨by rw [HRV.out]; rfl, H1.out⟩
  | true =>
    by_cases hnm : m = n
    case neg =>
      have HRV : Hid (R = 1) := Lib.hid (by
        rw [← HR.out]
        unfold rfits
        rw [if_pos (.inr (by rw [List.length_map, ← HN.out, ← HM.out]; exact hnm))])
      have hne : ((m : Int) != (n : Int)) = true := by simp; omega
      go_enter Tryd.func19, Tryd.ntmps19
      go_wp2_with fail
      refine HCO.out.mono ?_
      rintro e w1 ⟨rfl, h1⟩
      have H1 := Lib.hid h1
      clear h1 HCO
      go_wp2_with fail
      go_ret
      exact ⟨by rw [HRV.out]; rfl, H1.out⟩
    case pos =>
      subst hnm
      have hm24 : (m : Int) ≤ 24 := by have := (colsB_iff.1 HB.out).2.1; have := HN.out; omega
      have HRV : Hid (R = fitsL cs (vs.map Vv.vl)) := Lib.hid (by
        rw [← HR.out]
        unfold rfits
        rw [if_neg]
        rintro (h | h)
        · rw [HB.out] at h; cases h
        · exact h (by rw [List.length_map, ← HN.out, ← HM.out]))
      go_enter Tryd.func19, Tryd.ntmps19
      go_wp2_with fail
      refine HCO.out.mono ?_
      rintro e w1 ⟨rfl, h1⟩
      have H1 := Lib.hid h1
      clear h1 HCO
      go_wp2_with fail
      go_loopw [5] (fun i wr => ∃ (k : Nat), k ≤ m ∧ i = .int .i64 (k : Int) ∧ Hid (∀ j, j < k → (cs.getD j default).fit ((vs.map Vv.vl).getD j ⟨0, 0, []⟩) = 0) ∧ Hid (Only (fun _ => False) w wr)) (fun i _ => m - (intOf i).toNat)
      case atStart => exact ⟨0, Nat.zero_le _, rfl, Lib.hid (fun j hj => absurd hj (Nat.not_lt_zero _)), H1⟩
      case round =>
        clear H1
        obtain ⟨k, hk, rfl, HA, HO⟩ := hrel
        by_cases hlt : k < m
        · have HKL : Hid (k < cs.length ∧ k < vs.length) := Lib.hid (by rw [← HN.out, ← HM.out]; exact ⟨hlt, hlt⟩)
          obtain ⟨g, off, rfl, hca⟩ := (HC.out.keep HO.out) k HKL.out.1
          obtain ⟨g2, off2, rfl, hva⟩ := (HV.out.keep HO.out) k HKL.out.2
          obtain ⟨c, hce⟩ : ∃ c, cs.getD k default = c := ⟨_, rfl⟩
          obtain ⟨v, hve⟩ : ∃ v, vs.getD k default = v := ⟨_, rfl⟩
          rw [hce] at hca
          rw [hve] at hva
          have HCE := Lib.hid hce
          have HVE : Hid ((vs.map Vv.vl).getD k ⟨0, 0, []⟩ = v.vl) := Lib.hid (by
            rw [← hve]
            have := HKL.out.2
            simp [this])
          obtain ⟨z0, z1, z2, hvu⟩ := hva
          have H1 := HO
          have hca1 := hca
          obtain ⟨er, her⟩ : ∃ er, c.fit v.vl = er := ⟨_, rfl⟩
          have HER := Lib.hid her
          have HFU : Hid (∀ W, Only (fun _ => False) w W → Calls Tryd.prog 41 #[colv c.nm c.K c.M c.nu c.dK c.dN c.dS, vlv v.K v.N v.S] W fun e w' => e = .returned (.int .i64 er) ∧ Below W.heap.size W w') := Lib.hid (fun W hW => by
            have h := rfits_any (nm := c.nm) (cK := c.K) (cM := c.M) (nu := c.nu) (dK := c.dK) (dN := c.dN) (dS := c.dS) (K := v.K) (s := v.S) hvu W
            rw [show fitsE c.K c.M c.nu (vl v.K v.N v.S) = c.fit v.vl from rfl, her] at h
            exact h)
          have hltI : (k : Int) < (m : Int) := by omega
          have hk0 : (0 : Int) ≤ (k : Int) := by omega
          clear hce hve her hvu HO hca
          go_upto_region 6 with fail
          obtain ⟨y0, y1, y2, y3, y4, y5, y6, hu⟩ := hca1
          go_region_with (go_simp; go_at_call 41; refine (HFU.out _ (by first | exact H1.out | exact H1.out.drew)).mono ?_; rintro e w4 ⟨rfl, hb4⟩; have H4 := Lib.hid (H1.out.drew.trans (below_quiet hb4) (fun _ _ h => h)); clear hb4)
          all_goals
            by_cases h0 : er = 0
            · subst h0
              go_wp2_with fail
              go_roundw
              case rel =>
                refine ⟨k + 1, by omega, by go_num, Lib.hid (fun j hj => ?_), H4⟩
                rcases Nat.lt_or_ge j k with h | h
                · exact HA.out j h
                · obtain rfl : j = k := by omega
                  rw [HCE.out, HVE.out]
                  exact HER.out
              case measure => simp [intOf]; omega
            · have hne : (er != 0) = true := by simpa using h0
              have HRF : Hid (R = er) := Lib.hid (by
                rw [HRV.out, fitsL_stop HKL.out.1 (by rw [List.length_map]; exact HKL.out.2) HA.out (by rw [HCE.out, HVE.out, HER.out]; exact h0), HCE.out, HVE.out, HER.out])
              clear h0
              go_wp2_with fail
              go_ret
              exact ⟨by rw [HRF.out]; rfl, H4.out⟩
        · obtain rfl : k = m := by omega
          have hltI : ¬ (k : Int) < (k : Int) := by omega
          have HRT : Hid (R = 0) := Lib.hid (by
            rw [HRV.out]
            exact fitsL_all (by rw [List.length_map, ← HN.out, ← HM.out]) (fun j hj => HA.out j (by rw [HN.out]; exact hj)))
          go_wp2_with fail
          go_ret
          exact ⟨by rw [HRT.out]; rfl, HO.out⟩

end Go.Proofs.YtgkcflindenboaaDoor
