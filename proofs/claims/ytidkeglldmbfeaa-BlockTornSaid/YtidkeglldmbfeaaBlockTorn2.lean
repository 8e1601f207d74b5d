/-
  The walk of the statement BlockTorn.
-/
import Derived.Test.YtidkeglldmbfeaaBlockTorn
namespace Go.Proofs.Ytidkeglldmbfeaa
open Go Go.RowKit
set_option linter.unusedVariables false
set_option linter.unusedSimpArgs false
set_option maxRecDepth 100000

theorem noneK_zero (keep : List Int) : noneK keep 0 = true := rfl
theorem allK_zero (keep : List Int) : allK keep 0 = true := rfl
theorem own_size {w0 w : World} {p : Nat} {D : DS} {J : Res} (h : Own w0 w (Sep (DiskR p D) J)) : D.Ok := by
  obtain ⟨gn, gk, vw, hD⟩ := h.disk
  exact hD.ok

set_option maxHeartbeats 8000000 in
theorem torn_walk (va : Value) (old : List UInt8) (vb : Value) (data : List UInt8) (id : Nat) (ko : Option Addr) (kc : Nat) (keep : List Int) (w : World) (ha : SlN w va old) (hb : SlN w vb data) (hid : id < 18446744073709551616)
    (hk : SlI w ko keep) (hkr : ∀ z ∈ keep, -9223372036854775808 ≤ z ∧ z ≤ 9223372036854775807) (hkl : keep.length * 8 ≤ 140737488351232) (hkc : ko = none → kc = 0) :
    Calls Try.prog 6 #[va, vb, .int .u64 id, .slice ko keep.length kc] w fun e w' => e = .returned (.bool true) ∧ Quiet w w' := by
  have HA := Lib.hid ha
  have HB := Lib.hid hb
  have HID := Lib.hid hid
  have HK := Lib.hid hk
  have HKR := Lib.hid hkr
  have HKL := Lib.hid hkl
  have HKC := Lib.hid hkc
  obtain ⟨ao, ac, rfl, _⟩ := ha.2
  obtain ⟨bo, bc, rfl, _⟩ := hb.2
  clear ha hb hid hk hkr hkl hkc
  by_cases hlen : 1000 < old.length ∨ 1000 < data.length ∨ id < 2
  · have h3 : (1000 : Int) < old.length ∨ (¬ (1000 : Int) < old.length ∧ (1000 : Int) < data.length) ∨ (¬ (1000 : Int) < old.length ∧ ¬ (1000 : Int) < data.length ∧ (id : Int) < 2) := by omega
    clear hlen
    rcases h3 with h | ⟨h, h'⟩ | ⟨h, h', h''⟩
    all_goals
      go_enter Try.func6, Try.ntmps6
      go_wp2_with fail
      refine (awake3_any w).mono ?_
      rintro e w0 ⟨rfl, hq⟩
      have HQ := Lib.hid hq; clear hq
      go_wp2
      go_ret
      exact ⟨rfl, HQ.out⟩
  have la : old.length ≤ 1000 := by omega
  have lb : data.length ≤ 1000 := by omega
  have l2 : 2 ≤ id := by omega
  have LA := Lib.hid la
  have LB := Lib.hid lb
  have L2 := Lib.hid l2
  have xb : (cnt (data.length : Int) : Int) = (cntN data.length : Int) := by rw [cnt_nat (by omega)]
  obtain ⟨D1, D2, D3, hF⟩ := torn_facts keep la lb l2 HID.out
  have n1 : cntN data.length ≤ 20 := by unfold cntN; split <;> omega
  obtain ⟨n, hn⟩ : ∃ n, n = cntN data.length := ⟨_, rfl⟩
  rw [← hn] at xb hF n1
  have HF := Lib.hid hF
  have XB := Lib.hid xb
  have g1 : decide ((1000 : Int) < (old.length : Int)) = false := by simp; omega
  have g2 : decide ((1000 : Int) < (data.length : Int)) = false := by simp; omega
  have g3 : decide ((id : Int) < 2) = false := by simp; omega
  have n2 : (n : Int) ≤ 20 := by omega
  clear hlen la lb l2 xb n1 hn hF
  go_enter Try.func6, Try.ntmps6
  go_wp2_with fail
  refine (awake3_any w).mono ?_
  rintro e w0 ⟨rfl, hq⟩
  have HO := Lib.hid ((Own.start w).quiet hq); clear hq
  go_wp2_with fail
  refine (own_new HO.out 64 (by decide) (by decide)).mono ?_
  rintro e w1 ⟨p, rfl, h1⟩
  have H1 := Lib.hid h1; clear h1 HO
  go_wp2_with fail
  refine (own_bwrite H1.out 4 (by decide) 1 (by decide) _ old (fun w' B _ ho => HA.out.arg w' ho) (by have := LA.out; omega) (by decide) (by decide)).mono ?_
  rintro e w2 ⟨rfl, h2⟩
  rw [HF.out.d1] at h2
  rw [HF.out.e1]
  have H2 := Lib.hid h2; clear h2 H1
  go_wp2_with fail
  refine (own_sync H2.out (by have := HF.out.f1; omega) (by have := HF.out.f1; omega)).mono ?_
  rintro e w3 ⟨rfl, h3⟩
  rw [HF.out.d2] at h3
  rw [HF.out.e2]
  have H3 := Lib.hid h3; clear h3 H2
  go_wp2_with fail
  refine (own_bwrite H3.out 4 (by decide) id HID.out _ data (fun w' B _ ho => HB.out.arg w' ho) (by have := LB.out; omega) HF.out.f2.1 HF.out.f2.2).mono ?_
  rintro e w4 ⟨rfl, h4⟩
  rw [HF.out.d3] at h4
  rw [HF.out.e3]
  have H4 := Lib.hid h4; clear h4 H3
  go_wp2_with fail
  refine (count_all (data.length : Int) w4).mono ?_
  rintro e w' ⟨rfl, rfl⟩
  rw [XB.out]
  go_wp2_with fail
  have HKW := Lib.hid (fun j (hj : j < keep.length) => by
    obtain ⟨g, off, e, hc⟩ := HK.out j hj
    exact (⟨g, off, e, H4.out.only.cellq hc⟩ : ∃ g off, ko = some ⟨g, off, none⟩ ∧ w4.cell? ⟨g, off + j, none⟩ = some (.int .i64 (keep.getD j 0))))
  go_loop [15, 16] (fun b i => ∃ k : Nat, k ≤ n ∧ i = .int .i64 k ∧ b = .bool (allK keep k)) (fun _ i => n - (intOf i).toNat)
  case atStart => exact ⟨0, Nat.zero_le _, rfl, rfl⟩
  case round =>
    obtain ⟨k, hk, rfl, rfl⟩ := hrel
    by_cases hlt : k < n
    · have hltI : (k : Int) < (n : Int) := by omega
      have hk0 : (0 : Int) ≤ (k : Int) := by omega
      have hs := allK_succ keep k
      obtain ⟨b, hb⟩ : ∃ b, b = allK keep k := ⟨_, rfl⟩
      rw [← hb] at hs ⊢
      have HS := Lib.hid hs
      clear hs hb
      cases b with
      | false =>
        go_wp2
        go_round
        case rel => exact ⟨k + 1, by omega, by go_num, by rw [HS.out]; rfl⟩
        case measure => simp [intOf]; omega
      | true =>
        by_cases hkl : k < keep.length
        · have hklI : (k : Int) < (keep.length : Int) := by omega
          obtain ⟨g, off, rfl, hc⟩ := HKW.out k hkl
          obtain ⟨q, hq⟩ : ∃ q, q = keep.getD k 0 := ⟨_, rfl⟩
          rw [← hq] at hc
          have hka : keptAt keep k = (q.tmod 2 != 0) := by simp [keptAt, hkl, oddZ, hq]
          have HKA := Lib.hid hka
          clear hka hq
          by_cases hz : q.tmod 2 = 0
          · have hzB : (q.tmod 2 == 0) = true := by simp [hz]
            have hzN : (q.tmod 2 != 0) = false := by simp [hz]
            go_wp2
            go_round
            case rel => exact ⟨k + 1, by omega, by go_num, by rw [HS.out, HKA.out, hzN]; rfl⟩
            case measure => simp [intOf]; omega
          · have hzB : (q.tmod 2 == 0) = false := by simpa using hz
            have hzN : (q.tmod 2 != 0) = true := by simpa using hz
            go_wp2
            go_round
            case rel => exact ⟨k + 1, by omega, by go_num, by rw [HS.out, HKA.out, hzN]; rfl⟩
            case measure => simp [intOf]; omega
        · have hklI : ¬ (k : Int) < (keep.length : Int) := by omega
          have hka : keptAt keep k = false := by simp [keptAt, hkl]
          have HKA := Lib.hid hka
          clear hka
          go_wp2
          go_round
          case rel => exact ⟨k + 1, by omega, by go_num, by rw [HS.out, HKA.out]; rfl⟩
          case measure => simp [intOf]; omega
    · have hkn : n = k := by omega
      subst hkn
      have hltI : ¬ (n : Int) < (n : Int) := by omega
      obtain ⟨al, hal⟩ : ∃ al, al = allK keep n := ⟨_, rfl⟩
      rw [← hal]
      have HAL := Lib.hid hal
      clear hal hk hlt
      go_wp2_with fail
      go_loop [17, 18] (fun b i => ∃ k : Nat, k ≤ n ∧ k ≤ keep.length ∧ i = .int .i64 k ∧ b = .bool (noneK keep k)) (fun _ i => n - (intOf i).toNat)
      case atStart => exact ⟨0, Nat.zero_le _, Nat.zero_le _, rfl, rfl⟩
      case round =>
        obtain ⟨k, hk, hk2, rfl, rfl⟩ := hrel
        by_cases hlt : k < n ∧ k < keep.length
        · obtain ⟨hlt, hkl⟩ := hlt
          have hltI2 : (k : Int) < (n : Int) := by omega
          have hklI : (k : Int) < (keep.length : Int) := by omega
          have hk0 : (0 : Int) ≤ (k : Int) := by omega
          have hs := noneK_succ keep k
          obtain ⟨b, hb⟩ : ∃ b, b = noneK keep k := ⟨_, rfl⟩
          obtain ⟨g, off, rfl, hc⟩ := HKW.out k hkl
          obtain ⟨q, hq⟩ : ∃ q, q = keep.getD k 0 := ⟨_, rfl⟩
          rw [← hb, ← hq] at hs
          rw [← hq] at hc
          rw [← hb]
          have HS := Lib.hid hs
          clear hs hb hq
          cases b with
          | false =>
            go_wp2
            go_round
            case rel => exact ⟨k + 1, by omega, by omega, by go_num, by rw [HS.out]; rfl⟩
            case measure => simp [intOf]; omega
          | true =>
            by_cases hz : q.tmod 2 = 0
            · have hzB : (q.tmod 2 == 0) = true := by simp [hz]
              have hzN : (q.tmod 2 != 0) = false := by simp [hz]
              go_wp2
              go_round
              case rel => exact ⟨k + 1, by omega, by omega, by go_num, by rw [HS.out, oddZ, hzN]; rfl⟩
              case measure => simp [intOf]; omega
            · have hzB : (q.tmod 2 == 0) = false := by simpa using hz
              have hzN : (q.tmod 2 != 0) = true := by simpa using hz
              go_wp2
              go_round
              case rel => exact ⟨k + 1, by omega, by omega, by go_num, by rw [HS.out, oddZ, hzN]; rfl⟩
              case measure => simp [intOf]; omega
        · have hkm : min n keep.length = k := by omega
          obtain ⟨no, hno⟩ : ∃ no, no = noneK keep k := ⟨_, rfl⟩
          have hfin := HF.out.fin (own_size H4.out)
          obtain ⟨E, hE⟩ : ∃ E, E = D3.crash keep := ⟨_, rfl⟩
          rw [← hE] at hfin
          have hnone : no = true → E.rd 4 1 = some old := fun h => hfin.rnone (by rw [hkm, ← hno]; exact h)
          have hall : al = true → E.rd 4 id = some data ∧ E.rd 4 1 = none := fun h => hfin.rall (by rw [← HAL.out]; exact h)
          have hsome : al = false → E.rd 4 id = none := fun h => hfin.rsome (by rw [← HAL.out]; exact h)
          have hen := hfin.sz
          have HE := Lib.hid hE
          have HNO := Lib.hid hnone
          have HALL := Lib.hid hall
          have HSOME := Lib.hid hsome
          have HEN := Lib.hid hen
          have hkll : keep.length * 8 ≤ 140737488355328 := by have := HKL.out; omega
          rw [← hno]
          have hor : ¬ (k : Int) < (n : Int) ∨ (k : Int) < (n : Int) ∧ ¬ (k : Int) < (keep.length : Int) := by omega
          clear hfin hE hnone hall hsome hen hno hkm hlt hk hk2 HKW
          have key : ∀ wx : World, Own w wx (Sep (DiskR p D3) Emp) → True := fun _ _ => trivial
          clear key
          rcases hor with h | ⟨h, h'⟩
          all_goals
            go_wp2_with (at_builtin; refine wp_freshI _ ko kc keep (HK.out.keep H4.out.only) HKC.out hkll rfl (.tmp 104) (.tmp 105) rfl rfl rfl ?_; intro co cap w5 HF5)
            have HX : Hid (Own w w5 (Sep (DiskR p D3) (Sep (IntR co keep) Emp))) := Lib.hid (fresh_own H4.out HF5.out).swap
            refine (own_crash HX.out co cap keep (fun F B hJ hd _ _ => IntR.apart hJ hd) HKR.out (by have := HF.out.f3; omega)).mono ?_
            rintro e w6 ⟨rfl, h6⟩
            rw [← HE.out] at h6
            have H6 := Lib.hid h6.drop2
            clear h6 HX HF5
            cases al with
            | true =>
              obtain ⟨r1, r2⟩ := HALL.out rfl
              have R1 := Lib.hid r1
              have R2 := Lib.hid r2
              clear r1 r2
              go_wp2_with fail
              refine (own_bread_ok H6.out 4 id data (by simp [DS.has, HEN.out]) (by have := L2.out; omega) R1.out).mono ?_
              rintro e w7 ⟨a1, c1, rfl, h7⟩
              have H7 := Lib.hid h7.swap; clear h7
              go_wp2_with fail
              refine (own_bread_bad H7.out 4 1 (by simp [DS.has, HEN.out]) (by decide) R2.out).mono ?_
              rintro e w8 ⟨rfl, h8⟩
              have s1 : SlC w8 (.slice a1 data.length c1) data := by
                obtain ⟨F, h5, _⟩ := h8.snd.fst
                exact (own_toB h5.1).toC
              have S1 := Lib.hid s1
              have S2 := Lib.hid (HB.out.1.keep h8.only)
              have H8 := Lib.hid h8.only
              clear h8 H7 s1
              go_wp2_with fail
              refine (raw_bytes _ _ data w8 S1.out S2.out).mono ?_
              rintro e w' ⟨rfl, rfl⟩
              go_wp2
              go_ret
              exact ⟨rfl, H8.out⟩
            | false =>
              have r1 := HSOME.out rfl
              have R1 := Lib.hid r1
              clear r1
              go_wp2_with fail
              refine (own_bread_bad H6.out 4 id (by simp [DS.has, HEN.out]) (by have := L2.out; omega) R1.out).mono ?_
              rintro e w7 ⟨rfl, h7⟩
              have H7 := Lib.hid h7; clear h7
              cases no with
              | true =>
                have r2 := HNO.out rfl
                have R2 := Lib.hid r2
                clear r2
                go_wp2_with fail
                refine (own_bread_ok H7.out 4 1 old (by simp [DS.has, HEN.out]) (by decide) R2.out).mono ?_
                rintro e w8 ⟨a1, c1, rfl, h8⟩
                have s1 : SlC w8 (.slice a1 old.length c1) old := by
                  obtain ⟨F, h5, _⟩ := h8.fst
                  exact (own_toB h5.1).toC
                have S1 := Lib.hid s1
                have S2 := Lib.hid (HA.out.1.keep h8.only)
                have H8 := Lib.hid h8.only
                clear h8 H7 s1
                go_wp2_with fail
                refine (raw_bytes _ _ old w8 S1.out S2.out).mono ?_
                rintro e w' ⟨rfl, rfl⟩
                go_wp2
                go_ret
                exact ⟨rfl, H8.out⟩
              | false =>
                cases hr : E.rd 4 1 with
                | none =>
                  have R2 : Hid (E.rd 4 1 = none) := Lib.hid hr
                  clear hr
                  go_wp2_with fail
                  refine (own_bread_bad H7.out 4 1 (by simp [DS.has, HEN.out]) (by decide) R2.out).mono ?_
                  rintro e w8 ⟨rfl, h8⟩
                  have H8 := Lib.hid h8.only
                  clear h8 H7
                  go_wp2
                  go_ret
                  exact ⟨rfl, H8.out⟩
                | some xs =>
                  have R2 : Hid (E.rd 4 1 = some xs) := Lib.hid hr
                  clear hr
                  go_wp2_with fail
                  refine (own_bread_ok H7.out 4 1 xs (by simp [DS.has, HEN.out]) (by decide) R2.out).mono ?_
                  rintro e w8 ⟨a1, c1, rfl, h8⟩
                  have H8 := Lib.hid h8.only
                  clear h8 H7
                  go_wp2
                  go_ret
                  exact ⟨rfl, H8.out⟩

end Go.Proofs.Ytidkeglldmbfeaa
