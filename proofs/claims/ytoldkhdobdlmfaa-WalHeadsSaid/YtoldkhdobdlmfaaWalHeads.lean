/-
  WalHeads: opened at a record's first piece the log has the records from there on.
-/
import Derived.Test.YtoldkhdobdlmfaaWalJ6
namespace Go.Proofs.Ytoldkhdobdlmfaa
open Go Go.RowKit Go.Lib
set_option linter.unusedVariables false
set_option linter.unusedSimpArgs false
set_option maxRecDepth 100000

/-- What Append leaves of a log whose power lasts: the record is taken, if it fits. -/
theorem own_append_any {w0 w : World} {q p base size M head nxt c : Nat} {D : DS} {A : List (List UInt8)} {J : Res} [Stab J] (h : Own w0 w (Sep (WLogR q p base size M head nxt) (Sep (DiskR p D) J))) (hL : LogOk D base size head nxt M A c) (hc : c ≤ 900000) (hs : size ≤ 655) (hnum : head ≤ 9223372036854760000)
    (vo : Option Addr) (n vc : Nat) (xs : List UInt8) (hnx : n = xs.length) (hvc : n ≤ vc) (hv : ∀ (w' : World) (B : Nat → Prop), J w' B → Only (fun _ => False) w0 w' → SlC w' (.slice vo n vc) xs) (hx : n ≤ 32768) :
    Calls Try.prog 18 #[.pointer (some ⟨q, 0, none⟩), .slice vo n vc] w fun e w' => ∃ nxt' D' A' fit, e = .returned (.tuple #[.int .u64 (if fit then nxt else 0 : Nat), .int .i64 (if fit then 0 else 3 : Nat)]) ∧
      fit = decide (pcnt (tagM M A) + cntN n ≤ size) ∧ A' = (if fit then A ++ [xs] else A) ∧ LogOk D' base size head nxt' M A' (c + size) ∧ D'.n = D.n ∧ Own w0 w' (Sep (WLogR q p base size M head nxt') (Sep (DiskR p D') J)) := by
  have hnx1 := hL.nx
  have hft := hL.ring.fit
  by_cases hfit : pcnt (tagM M A) + cntN n ≤ size
  · refine (own_append_fit h hL hc (by omega) vo n vc xs hnx hvc hv hx hfit).mono ?_
    rintro e w' ⟨rfl, D', hL', hn', h'⟩
    exact ⟨nxt + cntN n, D', A ++ [xs], true, rfl, (decide_eq_true hfit).symm, rfl, hL', hn', h'⟩
  · refine (wlog_append_full h vo n vc hx (by omega) (by omega) (by omega) (by omega)).mono ?_
    rintro e w' ⟨rfl, h'⟩
    exact ⟨nxt, D, A, false, rfl, (decide_eq_false hfit).symm, rfl, ⟨hL.ring, hL.nx, by have := hL.w; omega, by have := hL.wr; omega⟩, rfl, h'⟩

theorem recsAt_split (A : List (List UInt8)) (n : Nat) : recsAt 1 (tagM 1 A) = recsAt 1 (tagM 1 (A.take n)) ++ recsAt (1 + pcnt (tagM 1 (A.take n))) (tagM 1 (A.drop n)) := by
  rw [← recsAt_append, ← tagM_append, List.take_append_drop]
theorem recsAt_first (x : Nat × List UInt8) (A : List (Nat × List UInt8)) (s : Nat) : ((recsAt s (x :: A)).getD 0 (0, 0, [])).1 = s := rfl

set_option maxRecDepth 100000 in
set_option maxHeartbeats 16000000 in
theorem heads_walk (ao : Option Addr) (cc : Nat) (ls : List (List UInt8)) (z : Int) (w : World) (ho : SlR w ao ls) (hzr : -9223372036854775808 ≤ z ∧ z ≤ 9223372036854775807) :
    Calls Try.prog 8 #[.slice ao ls.length cc, .int .i64 z] w fun e w' => e = .returned (.bool true) ∧ Quiet w w' := by
  have HO := Lib.hid ho
  have HZR := Lib.hid hzr
  clear ho hzr
  go_enter Try.func8, Try.ntmps8
  go_wp2_with fail
  refine (wawake w).mono ?_
  rintro e w0 ⟨rfl, hq⟩
  have H0 := Lib.hid ((Own.start w).quiet hq); clear hq
  go_wp2_with fail
  refine (own_new H0.out 64 (by decide) (by decide)).mono ?_
  rintro e w1 ⟨p, rfl, h1⟩
  have HL0 : Hid (LogOk (DS.new 64) 0 64 1 1 1 [] 0) := Lib.hid (LogOk.new (by decide) (by decide) (by decide) (by decide) (by decide) (by decide))
  have hf0 : (DS.new 64).found 0 64 1 1 1 = [] := HL0.out.found (by decide) (by decide)
  have HO1 := Lib.hid (own_open h1 0 64 1 1 1 (by decide) (by decide) (by decide) (by decide) (by decide) (by decide) (by decide))
  rw [hf0] at HO1
  clear h1 H0 hf0
  go_wp2_with fail
  refine HO1.out.mono ?_
  rintro e w2 ⟨qa, v, rfl, h2⟩
  obtain ⟨ro, rc, rfl⟩ := RecsR.shape h2.snd
  have H2 : Hid (Own w w2 (Sep (WLogR qa p 0 64 1 1 1) (Sep (DiskR p (DS.new 64)) Emp))) := Lib.hid (h2.swap.snd)
  have HN0 : Hid ((DS.new 64).n = 64) := Lib.hid rfl
  clear h2 HO1
  go_upto_block 0 with fail
  go_cut [10] (fun s10 wx => ∃ (k nxt : Nat) (D : DS) (A : List (List UInt8)), s10 = .int .i64 k ∧ Hid (LogOk D 0 64 1 nxt 1 A 1280 ∧ D.n = 64 ∧ A.length ≤ 20) ∧ Hid (Own w wx (Sep (WLogR qa p 0 64 1 1 nxt) (Sep (DiskR p D) Emp))))
  case first =>
    go_wp2_with fail
    go_loopw [10] (fun i wr => ∃ (k nxt : Nat) (D : DS) (A : List (List UInt8)), k ≤ ls.length ∧ k ≤ 20 ∧ i = .int .i64 k ∧ Hid (LogOk D 0 64 1 nxt 1 A (64 * k) ∧ D.n = 64 ∧ A.length ≤ k) ∧ Hid (Own w wr (Sep (WLogR qa p 0 64 1 1 nxt) (Sep (DiskR p D) Emp)))) (fun i _ => ls.length - (intOf i).toNat)
    case atStart => exact ⟨0, 1, _, [], Nat.zero_le _, by omega, rfl, Lib.hid ⟨HL0.out, HN0.out, Nat.le_refl _⟩, H2⟩
    case round =>
      clear H2 HL0 HN0
      obtain ⟨k, nxt, D, A, hk, hk2, rfl, HL, HP⟩ := hrel
      by_cases hin : k < ls.length ∧ k < 20
      · obtain ⟨hlt, h20⟩ := hin
        have hltI : (k : Int) < (ls.length : Int) := by omega
        have h20I : (k : Int) < 20 := by omega
        have hk0 : (0 : Int) ≤ (k : Int) := by omega
        obtain ⟨g, off, v, rfl, hx, hsn⟩ := HO.out k hlt
        have dx := HP.out.only.cellq hx
        obtain ⟨xs, hxs⟩ : ∃ xs, xs = ls.getD k [] := ⟨_, rfl⟩
        rw [← hxs] at hsn
        obtain ⟨vo, vc, rfl, hvc⟩ := hsn.2
        obtain ⟨n, hn⟩ : ∃ n, n = xs.length := ⟨_, rfl⟩
        rw [← hn] at dx hvc
        have hsl := hsn.1
        rw [← hn] at hsl
        have HSL := Lib.hid hsl
        have HLT := Lib.hid hlt
        have H20 := Lib.hid h20
        have HNX := Lib.hid hn
        have HVC := Lib.hid hvc
        clear hk hk2 hx hxs hsn hn hvc hsl h20 hlt
        by_cases h3 : n < 300
        · have h3I : (n : Int) < 300 := by omega
          have HAP := Lib.hid (own_append_any HP.out HL.out.1 (by have := H20.out; omega) (by decide) (by decide) vo n vc xs HNX.out HVC.out (hv_arg HSL.out) (by omega))
          clear HP
          go_wp2_with fail
          refine HAP.out.mono ?_
          rintro e w3 ⟨nxt', D', A', fit, rfl, hfit, hA', hL', hn', h3'⟩
          have HNW : Hid ((LogOk D' 0 64 1 nxt' 1 A' (64 * (k + 1)) ∧ D'.n = 64 ∧ A'.length ≤ k + 1)) := Lib.hid ⟨⟨hL'.ring, hL'.nx, by have := hL'.w; omega, by have := hL'.wr; omega⟩, hn'.trans HL.out.2.1, by
            have := HL.out.2.2
            rw [hA']
            split
            · simp; omega
            · omega⟩
          have HPN := Lib.hid h3'
          clear hfit hA' hL' hn' h3' HAP HL
          go_wp2_with fail
          go_roundw
          case rel => exact ⟨k + 1, nxt', D', A', HLT.out, H20.out, by go_num, HNW, HPN⟩
          case measure => have := HLT.out; simp [intOf]; omega
        · have h3I : ¬ (n : Int) < 300 := by omega
          have HNW : Hid ((LogOk D 0 64 1 nxt 1 A (64 * (k + 1)) ∧ D.n = 64 ∧ A.length ≤ k + 1)) := Lib.hid ⟨⟨HL.out.1.ring, HL.out.1.nx, by have := HL.out.1.w; omega, by have := HL.out.1.wr; omega⟩, HL.out.2.1, by have := HL.out.2.2; omega⟩
          clear HL
          go_wp2_with fail
          go_roundw
          case rel => exact ⟨k + 1, nxt, D, A, HLT.out, H20.out, by go_num, HNW, HP⟩
          case measure => have := HLT.out; simp [intOf]; omega
      · have hcases : (¬ (k : Int) < (ls.length : Int)) ∨ ((k : Int) < (ls.length : Int) ∧ ¬ (k : Int) < 20) := by omega
        have HFN : Hid (LogOk D 0 64 1 nxt 1 A 1280 ∧ D.n = 64 ∧ A.length ≤ 20) := Lib.hid ⟨⟨HL.out.1.ring, HL.out.1.nx, by have := HL.out.1.w; omega, by have := HL.out.1.wr; omega⟩, HL.out.2.1, by have := HL.out.2.2; omega⟩
        clear hk hk2 hin HL
        rcases hcases with h1 | ⟨h1, h2⟩
        · go_wp2_with fail
          go_meet
          exact ⟨k, nxt, D, A, rfl, HFN, HP⟩
        · go_wp2_with fail
          go_meet
          exact ⟨k, nxt, D, A, rfl, HFN, HP⟩
  case rest =>
    clear H2 HL0 HN0
    obtain ⟨k9, nxt, D, A, rfl, HL, HP⟩ := hcut
    have hAl := HL.out.2.2
    have HLG : Hid (LogOk D 0 64 1 nxt 1 A 1280) := Lib.hid HL.out.1
    obtain ⟨rs, hrs⟩ : ∃ rs, rs = recsAt 1 (tagM 1 A) := ⟨_, rfl⟩
    have hfd : D.found 0 64 1 2 1 = rs := by rw [hrs]; exact HLG.out.found (by decide) (by decide)
    have HOP := Lib.hid (own_open (HP.out.swap) 0 64 1 2 1 (by decide) (by decide) (by rw [HL.out.2.1]; decide) (by decide) (by decide) (by decide) (by decide))
    rw [hfd] at HOP
    have HRS := Lib.hid hrs
    obtain ⟨L, hL⟩ : ∃ L, L = rs.length := ⟨_, rfl⟩
    have hLA : L = A.length := by rw [hL, hrs, recsAt_length]; simp [tagM]
    have HLN := Lib.hid hL
    have HLA := Lib.hid hLA
    have HDN := Lib.hid HL.out.2.1
    have hL20 : L ≤ 20 := by omega
    clear hAl hrs hfd HP hLA HL hL
    go_wp2_with fail
    refine HOP.out.mono ?_
    rintro e w3 ⟨q2, v2, rfl, h3⟩
    obtain ⟨ro2, rc2, hv2⟩ := RecsR.shape h3.snd
    rw [← HLN.out] at hv2
    subst hv2
    have H3 : Hid (Own w w3 (Sep (WLogR qa p 0 64 1 1 nxt) (Sep (RecsR 68 (.slice ro2 L rc2) rs) (Sep (DiskR p D) Emp)))) := Lib.hid ((h3.ac (J := Sep (WLogR q2 p 0 64 2 1 (nextOf 1 rs)) (Sep (WLogR qa p 0 64 1 1 nxt) (Sep (RecsR 68 (.slice ro2 L rc2) rs) (Sep (DiskR p D) Emp)))) (by ac_rfl)).snd)
    clear h3 HOP
    by_cases hL0 : L = 0
    · have hLI : (L : Int) = 0 := by omega
      have HF := Lib.hid H3.out.only
      clear H3
      go_wp2_with fail
      go_ret
      exact ⟨rfl, HF.out⟩
    · have hLI : ¬ (L : Int) = 0 := by omega
      have hLB : ((L : Int) == 0) = false := by simpa using hLI
      obtain ⟨hnL, hm⟩ := modN_spec L (by omega) (by omega) z
      obtain ⟨n, hn⟩ : ∃ n, n = modN L z := ⟨_, rfl⟩
      rw [← hn] at hnL hm
      have HM := Lib.hid hm
      clear hn hm
      have hnI : (n : Int) < (L : Int) := by omega
      have hn0 : (0 : Int) ≤ (n : Int) := by omega
      have HNL := Lib.hid hnL
      clear hnL
      go_upto_region 16 with fail
      rw [HM.out]
      obtain ⟨g1, dv1, rfl, d0, _, _, _⟩ := rec_cells HLN.out H3.out.snd (k := n) (by have := HNL.out; have := HLN.out; omega)
      obtain ⟨hN, hhN⟩ : ∃ hN, hN = 1 + pcnt (tagM 1 (A.take n)) := ⟨_, rfl⟩
      obtain ⟨r2, hr2⟩ : ∃ r2, r2 = recsAt hN (tagM 1 (A.drop n)) := ⟨_, rfl⟩
      obtain ⟨m, hmm⟩ : ∃ m, m = r2.length := ⟨_, rfl⟩
      have hsplit : rs = recsAt 1 (tagM 1 (A.take n)) ++ r2 := by rw [HRS.out, hr2, hhN]; exact recsAt_split A n
      have hl1 : (recsAt 1 (tagM 1 (A.take n))).length = n := by rw [recsAt_length]; simp [tagM]; have := HNL.out; have := HLA.out; omega
      have hmL : m + n = L := by have := HLN.out; rw [hsplit, List.length_append, hl1] at this; omega
      have hat : ∀ i, i < m → rs.getD (n + i) (0, 0, []) = r2.getD i (0, 0, []) := fun i hi => by
        rw [hsplit, List.getD_eq_getElem?_getD, List.getD_eq_getElem?_getD, List.getElem?_append_right (by omega), hl1, Nat.add_sub_cancel_left]
      have hm1 : 1 ≤ m := by have := HNL.out; omega
      have hm20 : m ≤ 20 := by omega
      have hfirst : (rs.getD n (0, 0, [])).1 = hN := by
        have h0 := hat 0 hm1
        rw [Nat.add_zero] at h0
        rw [h0, hr2]
        cases hd : A.drop n with
        | nil => rw [hr2, hd] at hmm; simp [tagM, recsAt] at hmm; omega
        | cons x B => rfl
      rw [hfirst] at d0
      have hpc : 1 + pcnt (tagM 1 A) = hN + pcnt (tagM 1 (A.drop n)) := by
        rw [hhN, Nat.add_assoc, ← pcnt_append, ← tagM_append, List.take_append_drop]
      have hnx : nxt = hN + pcnt (tagM 1 (A.drop n)) := by rw [HLG.out.nx]; exact hpc
      have hft := HLG.out.ring.fit
      have hhb : 1 ≤ hN ∧ hN ≤ nxt ∧ nxt ≤ 65 := by have := HLG.out.nx; omega
      have hring : RingOk D 0 64 hN 1 (A.drop n) := by
        rw [hhN]
        exact RingOk.from' (A := A.take n) (B := A.drop n) (by rw [List.take_append_drop]; exact HLG.out.ring) (by omega)
      have hfd2 : D.found 0 64 1 2 hN = r2 := by rw [hr2]; exact hring.found (by decide) (by decide)
      have hnxt2 : nextOf hN r2 = nxt := by rw [hr2, nextOf_recsAt, hnx]
      have HO2 := Lib.hid (own_open ((H3.out.ac (J := Sep (DiskR p D) (Sep (WLogR qa p 0 64 1 1 nxt) (Sep (RecsR 68 (.slice (some ⟨g1, 0, none⟩) L rc2) rs) Emp))) (by ac_rfl))) 0 64 1 2 hN (by decide) (by decide) (by rw [HDN.out]; decide) (by decide) (by decide) (by omega) (by omega))
      rw [hfd2, hnxt2] at HO2
      have HAT := Lib.hid hat
      have HMM := Lib.hid hmm
      have HML := Lib.hid hmL
      have HHB := Lib.hid hhb
      have HM1 := Lib.hid hm1
      have HRSL := Lib.hid hfirst
      clear hhN hr2 hmm hsplit hl1 hmL hat hfirst hpc hnx hft hhb hring hfd2 hnxt2 HM hm1 H3
      go_wp2_with fail
      refine HO2.out.mono ?_
      rintro e w4 ⟨qb, v4, rfl, h4⟩
      obtain ⟨ro4, rc4, hv4⟩ := RecsR.shape h4.snd
      rw [← HMM.out] at hv4
      subst hv4
      have H4 := Lib.hid h4
      clear h4 HO2 d0
      have HNB : Hid (∀ q, Calls Try.prog 21 #[.pointer (some ⟨qb, 0, none⟩)] (w4.drewN q) fun e w' => e = .returned (.int .u64 nxt) ∧ ∃ n, w' = (w4.drewN q).drewN n) := Lib.hid fun q => (wnext_any (w := w4.drewN q) H4.out.held).mono (by rintro e w' ⟨rfl, rfl⟩; exact ⟨rfl, 0, rfl⟩)
      have h4a : Own w w4 (Sep (WLogR qa p 0 64 1 1 nxt) (Sep (WLogR qb p 0 64 2 hN nxt) (Sep (RecsR 68 (.slice ro4 m rc4) r2) (Sep (DiskR p D) (Sep (RecsR 68 (.slice (some ⟨g1, 0, none⟩) L rc2) rs) Emp))))) := H4.out.ac (by ac_rfl)
      have HNA : Hid (∀ q, Calls Try.prog 21 #[.pointer (some ⟨qa, 0, none⟩)] (w4.drewN q) fun e w' => e = .returned (.int .u64 nxt) ∧ ∃ n, w' = (w4.drewN q).drewN n) := Lib.hid fun q => (wnext_any (w := w4.drewN q) h4a.held).mono (by rintro e w' ⟨rfl, rfl⟩; exact ⟨rfl, 0, rfl⟩)
      have HHD : Hid (∀ q, Calls Try.prog 20 #[.pointer (some ⟨qb, 0, none⟩)] (w4.drewN q) fun e w' => e = .returned (.int .u64 hN) ∧ ∃ n, w' = (w4.drewN q).drewN n) := Lib.hid fun q => (whead_any (w := w4.drewN q) H4.out.held).mono (by rintro e w' ⟨rfl, rfl⟩; exact ⟨rfl, 0, rfl⟩)
      have h4r : Own w w4 (Sep (RecsR 68 (.slice (some ⟨g1, 0, none⟩) L rc2) rs) (Sep (RecsR 68 (.slice ro4 m rc4) r2) (Sep (WLogR qa p 0 64 1 1 nxt) (Sep (WLogR qb p 0 64 2 hN nxt) (Sep (DiskR p D) Emp))))) := H4.out.ac (by ac_rfl)
      obtain ⟨g1', dv1', e1', d0, _, _, _⟩ := rec_cells HLN.out h4r (k := n) (by have := HNL.out; have := HLN.out; omega)
      simp at e1'
      subst e1'
      rw [HRSL.out] at d0
      have HR := Lib.hid h4r
      have e104 : IntKind.i64.wrap ((L : Int) - (n : Int)) = (m : Int) := by rw [IntWalk.i64_in _ (by omega)]; have := HML.out; omega
      have e105 : ((m : Int) != (m : Int)) = false := by simp
      have e106 : ((nxt : Int) != (nxt : Int)) = false := by simp
      have e107 : ((hN : Int) != (hN : Int)) = false := by simp
      clear h4a h4r H4
      go_wp2_with fail
      go_quiet (first
        | (go_at_call 21; exact Calls.quiet_of (HNB.out _))
        | (go_at_call 21; exact Calls.quiet_of (HNA.out _))
        | (go_at_call 20; exact Calls.quiet_of (HHD.out _)))
      have HR2 := Lib.hid (HR.out.drewN nq)
      clear HR HNB HNA HHD d0 e104 e105 e106 e107
      go_wp2_with fail
      go_loopw [15] (fun i wr => ∃ k : Nat, k ≤ m ∧ i = .int .i64 k ∧ Hid (Own w wr (Sep (RecsR 68 (.slice (some ⟨g1, 0, none⟩) L rc2) rs) (Sep (RecsR 68 (.slice ro4 m rc4) r2) (Sep (WLogR qa p 0 64 1 1 nxt) (Sep (WLogR qb p 0 64 2 hN nxt) (Sep (DiskR p D) Emp))))))) (fun i _ => m - (intOf i).toNat)
      case atStart => exact ⟨0, Nat.zero_le _, rfl, HR2⟩
      case round =>
        clear HR2
        obtain ⟨k, hk, rfl, HQ⟩ := hrel
        by_cases hlt : k < m
        · have hltI : (k : Int) < (m : Int) := by omega
          have hk0 : (0 : Int) ≤ (k : Int) := by omega
          obtain ⟨x, hx⟩ : ∃ x, x = n + k := ⟨_, rfl⟩
          have hxI : IntKind.i64.wrap ((n : Int) + (k : Int)) = (x : Int) := by rw [IntWalk.i64_in _ (by omega)]; omega
          have hx0 : (0 : Int) ≤ (x : Int) := by omega
          have hxL : (x : Int) < (L : Int) := by have := HML.out; omega
          obtain ⟨g1', a1, e1', d0, d1, d2, s1⟩ := rec_cells HLN.out HQ.out (k := x) (by have := HML.out; have := HLN.out; omega)
          simp at e1'
          subst e1'
          obtain ⟨g2, a2, rfl, d3, d4, d5, s2⟩ := rec_cells HMM.out HQ.out.snd (k := k) (by have := HMM.out; omega)
          have hsame := HAT.out k hlt
          rw [← hx] at hsame
          rw [hsame] at d0 d1 s1
          obtain ⟨u, hu⟩ : ∃ u : Int, u = ((r2.getD k (0, 0, [])).1 : Int) := ⟨_, rfl⟩
          obtain ⟨y, hy⟩ : ∃ y : Int, y = ((r2.getD k (0, 0, [])).2.1 : Int) := ⟨_, rfl⟩
          rw [← hu] at d0 d3
          rw [← hy] at d1 d4
          obtain ⟨S, hS⟩ : ∃ S : ByteArray, S = ⟨(r2.getD k (0, 0, [])).2.2.toArray⟩ := ⟨_, rfl⟩
          have cv1 : ∀ q, (convert 48 9 a1).run Try.prog (wr.drewN q) = .ok (.string S) (wr.drewN q) := fun q => by rw [hS]; exact run_strC (s1.keep ((Only.refl _ wr).drewN q))
          have cv2 : ∀ q, (convert 48 9 a2).run Try.prog (wr.drewN q) = .ok (.string S) (wr.drewN q) := fun q => by rw [hS]; exact run_strC (s2.keep ((Only.refl _ wr).drewN q))
          have cv3 := cv1 0
          have cv4 := cv2 0
          have huu : (u != u) = false := by simp
          have hyy : (y != y) = false := by simp
          obtain ⟨o1, c1, hsh1⟩ := s1.shape
          obtain ⟨o2, c2, hsh2⟩ := s2.shape
          have HLT := Lib.hid hlt
          have HQD := Lib.hid (fun nq => HQ.out.drewN nq)
          clear hsame hu hy hS s1 s2 HQ hx hlt hk hsh1 hsh2
          go_wp2_with fail
          go_quiet (fail)
          have HQN := Lib.hid (HQD.out nq)
          clear d0 d1 d2 d3 d4 d5 cv1 cv2 cv3 cv4 huu hyy HQD hxI hx0 hxL
          go_wp2_with fail
          go_roundw
          case rel => exact ⟨k + 1, HLT.out, by go_num, HQN⟩
          case measure => have := HLT.out; simp [intOf]; omega
        · have hltI : ¬ (k : Int) < (m : Int) := by omega
          obtain ⟨g1', a1, e1', d0, _, _, _⟩ := rec_cells HLN.out HQ.out (k := n) (by have := HNL.out; have := HLN.out; omega)
          simp at e1'
          subst e1'
          rw [HRSL.out] at d0
          have hqa : Own w wr (Sep (WLogR qa p 0 64 1 1 nxt) (Sep (WLogR qb p 0 64 2 hN nxt) (Sep (RecsR 68 (.slice ro4 m rc4) r2) (Sep (DiskR p D) (Sep (RecsR 68 (.slice (some ⟨g1, 0, none⟩) L rc2) rs) Emp))))) := HQ.out.ac (by ac_rfl)
          obtain ⟨rm, hrm⟩ : ∃ rm : Nat, rm + nxt = 64 + hN := ⟨64 + hN - nxt, by have := HHB.out; omega⟩
          have htr := wtrim_any hqa hN
          rw [if_neg (by have := HHB.out; omega), if_neg (by have := HHB.out; omega)] at htr
          have HTR := Lib.hid htr
          have HRM := Lib.hid hrm
          clear hqa htr hrm hlt hk HQ
          go_wp2_with fail
          refine HTR.out.mono ?_
          rintro e w5 ⟨rfl, h5⟩
          have HRA := Lib.hid (own_room h5 (by have := HHB.out; omega) (by have := HHB.out; omega) (by decide) rm HRM.out)
          clear h5 HTR d0
          go_wp2_with fail
          refine HRA.out.mono ?_
          rintro e w6 ⟨rfl, h6⟩
          have HRB := Lib.hid (own_room h6.swap (by have := HHB.out; omega) (by have := HHB.out; omega) (by decide) rm HRM.out)
          have hrr : ((rm : Int) == (rm : Int)) = true := by simp
          clear h6 HRA
          go_wp2_with fail
          refine HRB.out.mono ?_
          rintro e w7 ⟨rfl, h7⟩
          have HF := Lib.hid h7.only
          clear h7 HRB
          go_wp2_with fail
          go_ret
          exact ⟨rfl, HF.out⟩

end Go.Proofs.Ytoldkhdobdlmfaa
