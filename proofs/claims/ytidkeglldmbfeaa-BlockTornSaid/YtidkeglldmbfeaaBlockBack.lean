/-
  The walk of the statement BlockBack.
-/
import Derived.Test.YtidkeglldmbfeaaBlk6
import Derived.Test.YtidkeglldmbfeaaRaw
import Derived.Test.YtidkeglldmbfeaaMem2
import Derived.Test.YtidkeglldmbfeaaOpenCap
namespace Go.Proofs.Ytidkeglldmbfeaa
open Go Go.RowKit
set_option linter.unusedVariables false
set_option linter.unusedSimpArgs false
set_option maxRecDepth 100000

theorem SlN.arg {w0 : World} {v : Value} {xs : List UInt8} (h : SlN w0 v xs) : ∀ (w' : World), Only (fun _ => False) w0 w' → SlB w' v xs ∨ ∃ ao c, v = .slice ao xs.length c ∧ xs.length ≤ c ∧ SlC w' v xs := fun w' ho => by
  obtain ⟨hc, ao, c, e, hl⟩ := h
  exact .inr ⟨ao, c, e, hl, hc.keep ho⟩

set_option maxHeartbeats 8000000 in
theorem back_walk (z : Int) (id : Nat) (v : Value) (xs : List UInt8) (ot : Nat) (w : World) (hid : id < 18446744073709551616) (hv : SlN w v xs) (hot : ot < 18446744073709551616) :
    Calls Try.prog 5 #[.int .i64 z, .int .u64 id, v, .int .u64 ot] w fun e w' => e = .returned (.bool true) ∧ Quiet w w' := by
  have HID := Lib.hid hid
  have HOT := Lib.hid hot
  have HV := Lib.hid hv
  obtain ⟨vo, vc, rfl, hvc⟩ := hv.2
  clear hid hot hv
  by_cases hlen : 2000 < xs.length
  · have hlI : (2000 : Int) < (xs.length : Int) := by omega
    clear hlen
    go_enter Try.func5, Try.ntmps5
    go_wp2_with fail
    refine (awake3_any w).mono ?_
    rintro e w0 ⟨rfl, hq⟩
    have HQ := Lib.hid hq; clear hq
    go_wp2
    go_ret
    exact ⟨rfl, HQ.out⟩
  have hlI : ¬ (2000 : Int) < (xs.length : Int) := by omega
  have hlB : decide ((2000 : Int) < (xs.length : Int)) = false := by simpa using hlI
  by_cases h0 : id = 0
  · subst h0
    clear hlen
    go_enter Try.func5, Try.ntmps5
    go_wp2_with fail
    refine (awake3_any w).mono ?_
    rintro e w0 ⟨rfl, hq⟩
    have HQ := Lib.hid hq; clear hq
    go_wp2
    go_ret
    exact ⟨rfl, HQ.out⟩
  have h0I : ((id : Int) == 0) = false := by simpa using h0
  by_cases h1 : ot = 0
  · subst h1
    clear hlen
    go_enter Try.func5, Try.ntmps5
    go_wp2_with fail
    refine (awake3_any w).mono ?_
    rintro e w0 ⟨rfl, hq⟩
    have HQ := Lib.hid hq; clear hq
    go_wp2
    go_ret
    exact ⟨rfl, HQ.out⟩
  have h1I : ((ot : Int) == 0) = false := by simpa using h1
  have hx : xs.length ≤ 32768 := by omega
  obtain ⟨c, hc⟩ : ∃ c, c = cntN xs.length := ⟨_, rfl⟩
  have hp := cntN_pos xs.length
  have hm : cntN xs.length ≤ 40 := by unfold cntN; split <;> omega
  rw [← hc] at hp hm
  obtain ⟨hs16, hse⟩ := modN_spec 16 (by decide) (by decide) z
  obtain ⟨s, hs⟩ : ∃ s, s = modN 16 z := ⟨_, rfl⟩
  rw [← hs] at hs16 hse
  have hse2 : (wrap64 (z.tmod 16 + 16)).tmod 16 = (s : Int) := hse
  have HSE := Lib.hid hse2
  clear hse hse2
  obtain ⟨E, hE⟩ : ∃ E, E = (DS.new 64).bwrite (s : Int) id xs := ⟨_, rfl⟩
  have hup := (Up3.new 64).bwrite s id xs h0 hx (by show s + cntN xs.length ≤ 64; omega)
  rw [← hE, ← hc] at hup
  obtain ⟨e0, hB⟩ := hup
  have hn64 : E.n = 64 := hB.n
  have hrd : E.rd s id = some xs := by rw [hc] at hB; exact hB.back hx HID.out (by show s + cntN xs.length ≤ 64; omega)
  have hpart : partOf (sec E.N s) = partAt id xs 0 := by
    rw [hB.at' s (by show s < 64; omega), if_pos (by omega), Nat.sub_self]
    exact (part_back _ (partAt_ok HID.out hx (by omega))).1
  have hoth : ot ≠ id → E.rd s ot = none := fun hne => rd_first (.inl (by rw [hpart]; exact fun e => hne e.symm))
  have hnext : E.rd (s + 1) id = none := by
    by_cases h2 : 1 < c
    · refine rd_first (.inr ?_)
      rw [hB.at' (s + 1) (by show s + 1 < 64; omega), if_pos (by omega), show s + 1 - s = 1 by omega, (part_back _ (partAt_ok HID.out hx (by omega))).1]
      simp [partAt]
    · refine rd_zero ?_ h0
      rw [hB.at' (s + 1) (by show s + 1 < 64; omega), if_neg (by omega)]
      exact sec_zero 64 (s + 1) (by omega)
  have hwr : E.wr = c := by rw [hB.wr]; show 0 + c = c; omega
  have hcI : (cnt (xs.length : Int) : Int) = (c : Int) := by rw [cnt_nat hx, hc]
  have HC := Lib.hid hcI
  have HE := Lib.hid hE
  have HE0 := Lib.hid e0
  have HN := Lib.hid hn64
  have HR := Lib.hid hrd
  have HOTH := Lib.hid hoth
  have HNX := Lib.hid hnext
  have HWR := Lib.hid hwr
  have HX := Lib.hid hx
  have H0 := Lib.hid h0
  have H1 := Lib.hid h1
  have HS := Lib.hid hs16
  have hs15 : (s : Int) ≤ 15 := by omega
  have hs0 : (0 : Int) ≤ (s : Int) := by omega
  clear hc hp hm hs hE e0 hB hn64 hrd hpart hoth hnext hwr hcI hx hlen h0 h1 hvc hs16
  go_enter Try.func5, Try.ntmps5
  go_wp2_with fail
  refine (awake3_any w).mono ?_
  rintro e w0 ⟨rfl, hq⟩
  have HO := Lib.hid ((Own.start w).quiet hq); clear hq
  go_wp2_with fail
  refine (count_all (xs.length : Int) w0).mono ?_
  rintro e w' ⟨rfl, rfl⟩
  rw [HC.out]
  go_upto_region 7 with fail
  simp only [HSE.out]
  go_wp2_with fail
  refine (own_new HO.out 64 (by decide) (by decide)).mono ?_
  rintro e w1 ⟨p, rfl, h1⟩
  have H1' := Lib.hid h1; clear h1 HO HSE
  go_wp2_with fail
  refine (own_bwrite H1'.out (s : Int) (by omega) id HID.out _ xs (fun w' B _ ho => HV.out.arg w' ho) (by have := HX.out; omega) (by decide) (by decide)).mono ?_
  rintro e w2 ⟨rfl, h2⟩
  rw [← HE.out] at h2
  rw [HE0.out]
  have H2 := Lib.hid h2; clear h2 H1' HE HE0
  have hhs : E.has (s : Int) = true := by simp [DS.has, HN.out]; omega
  have hhs1 : E.has ((s : Int) + 1) = true := by simp [DS.has, HN.out]; omega
  have HHS := Lib.hid hhs
  have HHS1 := Lib.hid hhs1
  clear hhs hhs1
  go_wp2_with fail
  refine (own_bread_ok H2.out (s : Int) id xs HHS.out H0.out HR.out).mono ?_
  rintro e w3 ⟨a1, c1, rfl, h3⟩
  have H3 := Lib.hid h3.swap; clear h3 H2
  go_wp2_with fail
  refine (own_bread_ok H3.out (s : Int) id xs HHS.out H0.out HR.out).mono ?_
  rintro e w4 ⟨a2, c2, rfl, h4⟩
  have H4 := Lib.hid h4.swap; clear h4 H3
  have fin : ∀ (wz : World), Own w wz (Sep (DiskR p E) (Sep (OwnB (.slice a2 xs.length c2) xs) (Sep (OwnB (.slice a1 xs.length c1) xs) Emp))) → SlC wz (.slice vo xs.length vc) xs ∧ SlC wz (.slice a1 xs.length c1) xs ∧ SlC wz (.slice a2 xs.length c2) xs ∧
      Calls Try.prog 19 #[.pointer (some ⟨p, 0, none⟩)] wz (fun e w' => e = .returned (.int .i64 c) ∧ wz = w') := fun wz h => by
    refine ⟨HV.out.1.keep h.only, ?_, ?_, ?_⟩
    · obtain ⟨F, h5, _⟩ := h.snd.snd.fst
      exact (own_toB h5.1).toC
    · obtain ⟨F, h5, _⟩ := h.snd.fst
      exact (own_toB h5.1).toC
    · obtain ⟨gn, gk, vw, hD⟩ := h.disk
      have := disk_writes hD
      rwa [HWR.out] at this
  have HFIN := Lib.hid fin; clear fin
  by_cases ho : ot = id
  · subst ho
    go_wp2_with fail
    refine (own_bread_ok H4.out (s : Int) ot xs HHS.out H0.out HR.out).mono ?_
    rintro e w5 ⟨a3, c3, rfl, h5⟩
    have H5 := Lib.hid h5.snd; clear h5 H4
    go_wp2_with fail
    refine (own_bread_bad H5.out ((s : Int) + 1) ot HHS1.out H0.out HNX.out).mono ?_
    rintro e w6 ⟨rfl, h6⟩
    obtain ⟨f1, f2, f3, f4⟩ := HFIN.out _ h6
    have F1 := Lib.hid f1
    have F2 := Lib.hid f2
    have F3 := Lib.hid f3
    have F4 := Lib.hid f4
    have H6 := Lib.hid h6; clear h6 H5 f1 f2 f3 f4
    go_wp2_with fail
    refine (raw_bytes _ _ xs w6 F2.out F1.out).mono ?_
    rintro e w' ⟨rfl, rfl⟩
    go_wp2_with fail
    refine (raw_bytes _ _ xs w6 F3.out F1.out).mono ?_
    rintro e w' ⟨rfl, rfl⟩
    go_wp2_with fail
    refine F4.out.mono ?_
    rintro e w' ⟨rfl, rfl⟩
    go_wp2_with fail
    have hO := (H6.out.snd.swap.alloc (.cells #[.slice a1 xs.length c1, .slice a2 xs.length c2] 31)).swap.rot
    refine (apart_two _ _ _ _ _ _ _ hO (by have := HX.out; omega) (by have := HX.out; omega)).mono ?_
    rintro e w3 ⟨rfl, hq⟩
    have HQ := Lib.hid hq
    clear hq hO
    go_wp2
    go_ret
    exact ⟨rfl, HQ.out⟩
  · have HOT2 := Lib.hid (HOTH.out ho)
    have hoI : ¬ (ot : Int) = (id : Int) := by omega
    have hoB : ((ot : Int) == (id : Int)) = false := by simpa using hoI
    clear ho
    go_wp2_with fail
    refine (own_bread_bad H4.out (s : Int) ot HHS.out H1.out (by simpa using HOT2.out)).mono ?_
    rintro e w5 ⟨rfl, h5⟩
    have H5 := Lib.hid h5; clear h5 H4
    go_wp2_with fail
    refine (own_bread_bad H5.out ((s : Int) + 1) id HHS1.out H0.out HNX.out).mono ?_
    rintro e w6 ⟨rfl, h6⟩
    obtain ⟨f1, f2, f3, f4⟩ := HFIN.out _ h6
    have F1 := Lib.hid f1
    have F2 := Lib.hid f2
    have F3 := Lib.hid f3
    have F4 := Lib.hid f4
    have H6 := Lib.hid h6; clear h6 H5 f1 f2 f3 f4
    go_wp2_with fail
    refine (raw_bytes _ _ xs w6 F2.out F1.out).mono ?_
    rintro e w' ⟨rfl, rfl⟩
    go_wp2_with fail
    refine (raw_bytes _ _ xs w6 F3.out F1.out).mono ?_
    rintro e w' ⟨rfl, rfl⟩
    go_wp2_with fail
    refine F4.out.mono ?_
    rintro e w' ⟨rfl, rfl⟩
    go_wp2_with fail
    have hO := (H6.out.snd.swap.alloc (.cells #[.slice a1 xs.length c1, .slice a2 xs.length c2] 31)).swap.rot
    refine (apart_two _ _ _ _ _ _ _ hO (by have := HX.out; omega) (by have := HX.out; omega)).mono ?_
    rintro e w3 ⟨rfl, hq⟩
    have HQ := Lib.hid hq
    clear hq hO
    go_wp2
    go_ret
    exact ⟨rfl, HQ.out⟩

end Go.Proofs.Ytidkeglldmbfeaa
