/-
  KeyFree: its walk.
-/
import Derived.Test.YtpedcpehomkikaaDoorKeyF0
import Derived.Test.YtpedcpehomkikaaDoorKeyBack
import Derived.StillTailTactics
namespace Go.Proofs.YtpedcpehomkikaaDoor
open Go Go.RowKit
set_option linter.unusedVariables false
set_option linter.unusedSimpArgs false
set_option maxRecDepth 100000

set_option maxHeartbeats 8000000 in
theorem kfree_walk (w : World) {xo yo dao : Option Addr} {xc yc dc : Nat} {xs ys : List Vv} {ds : List Bool} (hx : SlV w xo xs) (hxl : xs.length * 32 ≤ 140737488355328) (hy : SlV w yo ys) (hyl : ys.length ≤ 140737488355328) (hd : SlBo w dao ds) (hdl : ds.length ≤ 140737488355328) (hT : UTab w) :
    Calls Tryd.prog 7 #[.slice xo xs.length xc, .slice yo ys.length yc, .slice dao ds.length dc] w fun e w' => e = .returned (.bool true) ∧ Below w.heap.size w w' := by
  have HX := Lib.hid hx
  have HY := Lib.hid hy
  have HD := Lib.hid hd
  have HT := Lib.hid hT
  have HXL := Lib.hid hxl
  have HXU := Lib.hid (vl_lt hx.u64)
  have HYU := Lib.hid (vl_lt hy.u64)
  obtain ⟨n, hn⟩ : ∃ n, n = xs.length := ⟨_, rfl⟩
  obtain ⟨n2, hn2⟩ : ∃ n, n = ys.length := ⟨_, rfl⟩
  obtain ⟨m, hm⟩ : ∃ m, m = ds.length := ⟨_, rfl⟩
  rw [← hn, ← hn2, ← hm]
  have HN := Lib.hid hn
  have HN2 := Lib.hid hn2
  have HM := Lib.hid hm
  have hn42 : n * 32 ≤ 140737488355328 := by rw [hn]; exact hxl
  have HN42 := Lib.hid hn42
  clear hx hxl hy hyl hd hdl hT hn hn2 hm hn42
  have hways : (n2 = n ∧ m = n) ∨ ((n : Int) != (n2 : Int)) = true ∨ (((n : Int) != (n2 : Int)) = false ∧ ((n : Int) != (m : Int)) = true) := by
    by_cases h1 : n = n2
    · by_cases h2 : n = m
      · exact .inl ⟨h1.symm, h2.symm⟩
      · exact .inr (.inr ⟨by simp; omega, by simp; omega⟩)
    · exact .inr (.inl (by simp; omega))
  go_enter Tryd.func7, Tryd.ntmps7
  go_wp2_with fail
  refine (kawake_any w HT.out).mono ?_
  rintro e w1 ⟨rfl, hb1⟩
  have H1 := Lib.hid (below_quiet hb1)
  clear hb1
  rcases hways with ⟨rfl, rfl⟩ | h1 | ⟨h1, h2⟩
  case inr.inl =>
    go_wp2_with fail
    go_ret
    exact ⟨rfl, only_b H1.out⟩
  case inr.inr =>
    go_wp2_with fail
    go_ret
    exact ⟨rfl, only_b H1.out⟩
  have hmk := run_make_ints m (by have := HN42.out; omega)
  obtain ⟨L, hL⟩ : ∃ L, L = List.zipWith k2 (xs.map Vv.vl) (ys.map Vv.vl) := ⟨_, rfl⟩
  have HL := Lib.hid hL
  have HLN : Hid (L.length = m) := Lib.hid (by rw [hL, List.length_zipWith, List.length_map, List.length_map, ← HN.out, ← HN2.out]; exact Nat.min_self _)
  have HO := Lib.hid ((own_emp H1.out).alloc (.cells (ints (List.replicate m 0)).toArray 3))
  obtain ⟨g, hg⟩ : ∃ g, g = w1.heap.size := ⟨_, rfl⟩
  obtain ⟨C, hC⟩ : ∃ C, C = (ints (List.replicate m 0)).toArray := ⟨_, rfl⟩
  rw [← hg, ← hC] at HO
  rw [← hC] at hmk
  have HC := Lib.hid hC
  have HG := Lib.hid hg
  clear hC hg hL
  go_upto_region 6 with fail
  rw [← HG.out]
  generalize w1.alloc (.cells C 3) = w3 at *
  clear hmk H1 HG
  go_wp2_with fail
  go_loopw [8] (fun i wr => ∃ k : Nat, k ≤ m ∧ i = .int .i64 (k : Int) ∧ Hid (AlikeTo xs ys k) ∧ Hid (Own w wr (Sep (Blk g (.cells (ints (L.take k ++ List.replicate (m - k) 0)).toArray 3 (0, 0))) Emp))) (fun i _ => m - (intOf i).toNat)
  case atStart => exact ⟨0, Nat.zero_le _, rfl, Lib.hid (fun j hj => absurd hj (by omega)), Lib.hid (by rw [List.take_zero, List.nil_append, Nat.sub_zero, ← HC.out]; exact HO.out)⟩
  case round =>
    clear HO
    obtain ⟨k, hk, rfl, HAL, HO⟩ := hrel
    by_cases hlt : k < m
    · have HKX : Hid (k < xs.length) := Lib.hid (by rw [← HN.out]; exact hlt)
      have HKY : Hid (k < ys.length) := Lib.hid (by rw [← HN2.out]; exact hlt)
      have HKM : Hid (k < m) := Lib.hid hlt
      obtain ⟨v, hve⟩ : ∃ v, xs.getD k default = v := ⟨_, rfl⟩
      obtain ⟨u, hue⟩ : ∃ u, ys.getD k default = u := ⟨_, rfl⟩
      have HVE := Lib.hid hve
      have HUE := Lib.hid hue
      have HLK : Hid (L.getD k 0 = k2 v.vl u.vl) := Lib.hid (by rw [HL.out, zip_getD HKX.out HKY.out, hve, hue])
      obtain ⟨ga, off, rfl, hva⟩ := HX.out k HKX.out
      obtain ⟨gb, off2, rfl, hvb⟩ := HY.out k HKY.out
      rw [hve] at hva
      rw [hue] at hvb
      have HCA : Hid (∀ W, Only (fun _ => False) w W → W.cell? ⟨ga, off + k * 3, none⟩ = some (.int .i64 v.K)) := Lib.hid (fun W h => (hva.keep h).k)
      have HCB : Hid (∀ W, Only (fun _ => False) w W → W.cell? ⟨gb, off2 + k * 3, none⟩ = some (.int .i64 u.K)) := Lib.hid (fun W h => (hvb.keep h).k)
      obtain ⟨K, N, S⟩ := v
      obtain ⟨M, O, T⟩ := u
      simp only at HCA HCB
      have hO := HO.out
      rw [mid_start hlt] at hO
      have HO2 := Lib.hid hO
      have HPL : Hid ((L.take k).length = k) := Lib.hid (by rw [List.length_take, HLN.out]; omega)
      have hltI : (k : Int) < (m : Int) := by omega
      have hk0 : (0 : Int) ≤ (k : Int) := by omega
      have hm47 : (m : Int) ≤ 140737488355328 := by have := HN42.out; omega
      have y0 := HCA.out wr HO.out.only
      have x0 := HCB.out wr HO.out.only
      clear hva hvb hve hue hO HO
      have hw4 : (K = M ∧ (K != M) = false) ∨ ((K == M) = false ∧ (K != M) = true ∧ K = 0) ∨ ((K == M) = false ∧ (K != M) = true ∧ (K != 0) = true ∧ M = 0) ∨ ((K != M) = true ∧ (K != 0) = true ∧ (M != 0) = true) := by
        by_cases h1 : K = M
        · exact .inl ⟨h1, by simpa using h1⟩
        · by_cases h2 : K = 0
          · exact .inr (.inl ⟨by simpa using h1, by simpa using h1, h2⟩)
          · by_cases h3 : M = 0
            · exact .inr (.inr (.inl ⟨by simpa using h1, by simpa using h1, by simpa using h2, h3⟩))
            · exact .inr (.inr (.inr ⟨by simpa using h1, by simpa using h2, by simpa using h3⟩))
      rcases hw4 with ⟨rfl, h1⟩ | ⟨h0, h1, rfl⟩ | ⟨h0, h1, h2, rfl⟩ | ⟨h1, h2, h3⟩
      · obtain ⟨sm, hsm⟩ : ∃ sm : Int, wrap64 (K + K) = sm := ⟨_, rfl⟩
        have hsm2 : IntKind.i64.wrap (K + K) = sm := by rw [IntWalk.i64_left]; exact hsm
        have HSM := Lib.hid hsm
        have HAN : Hid (AlikeTo xs ys (k + 1)) := Lib.hid (HAL.out.next (by rw [HVE.out, HUE.out]; first | (exact .inl rfl) | (exact .inr (.inl rfl)) | (exact .inr (.inr rfl))))
        clear hsm hsm2
        go_wp2_with fail
        go_quiet (fail)
        clear h1 y0 x0
        have HO3 := Lib.hid (HO2.out.drewN nq)
        clear HO2
        go_upto_region 11 with fail
        generalize wr.drewN nq = w4 at *
        have y0 := HCA.out w4 HO3.out.only
        have x0 := HCB.out w4 HO3.out.only
        have hsm2 : IntKind.i64.wrap (K + K) = sm := by rw [IntWalk.i64_left]; exact HSM.out
        have hsm : wrap64 (K + K) = sm := HSM.out
        go_still_tail 14, (by kernel_rfl)
        change wpList _ _ _ _ _ w4.drew
        clear hsm hsm2
        obtain ⟨m0, m1, m2⟩ := own_mid HO3.out HPL.out
        have HO5 := Lib.hid (m2 sm).drew
        clear m2
        go_upto_region 12 with fail
        generalize (w4.setCell ⟨g, k, none⟩ (.int .i64 sm)).drew = w5 at *
        clear y0 x0 m0 m1 HO3
        have y0 := HCA.out w5 HO5.out.only
        have x0 := HCB.out w5 HO5.out.only
        go_quiet (fail)
        have HO6 := Lib.hid (HO5.out.drewN nq)
        clear HO5 y0 x0
        go_upto_region 13 with fail
        generalize w5.drewN nq = w6 at *
        have y0 := HCA.out w6 HO6.out.only
        obtain ⟨m0, m1, m2⟩ := own_mid HO6.out HPL.out
        have HO7 := Lib.hid (m2 K)
        clear m2 HO6
        go_upto_region 14 with fail
        generalize w6.setCell ⟨g, k, none⟩ (.int .i64 K) = w7 at *
        clear y0 m0 m1
        obtain ⟨m0, m1, m2⟩ := own_mid HO7.out HPL.out
        by_cases hz : K = 0
        · subst hz
          have hO8 := m2 1
          rw [mid_done (by rw [HLN.out]; exact HKM.out) (by rw [HLK.out]; show (if (0 : Int) = 0 then (if (0 : Int) = 0 then (1 : Int) else 0) else _) = 1; rfl)] at hO8
          have HO8 := Lib.hid hO8
          clear hO8 m2 HO7
          go_wp2_with fail
          go_roundw
          case rel => exact ⟨k + 1, HKM.out, by go_num, HAN, HO8⟩
          case measure => have := HKM.out; simp [intOf]; omega
        · have hzb : (K == 0) = false := by simpa using hz
          have hO8 := HO7.out
          rw [mid_done (by rw [HLN.out]; exact HKM.out) (by rw [HLK.out]; unfold k2; simp only [if_pos rfl]; exact if_neg hz)] at hO8
          have HO8 := Lib.hid hO8
          clear hO8 m2 HO7 hz
          go_wp2_with fail
          go_roundw
          case rel => exact ⟨k + 1, HKM.out, by go_num, HAN, HO8⟩
          case measure => have := HKM.out; simp [intOf]; omega
      · have HNE : Hid (¬ (0 : Int) = M) := Lib.hid (by simpa using h0)
        obtain ⟨sm, hsm⟩ : ∃ sm : Int, wrap64 (0 + M) = sm := ⟨_, rfl⟩
        have hsm2 : IntKind.i64.wrap (0 + M) = sm := by rw [IntWalk.i64_left]; exact hsm
        have HSM := Lib.hid hsm
        have HAN : Hid (AlikeTo xs ys (k + 1)) := Lib.hid (HAL.out.next (by rw [HVE.out, HUE.out]; first | (exact .inl rfl) | (exact .inr (.inl rfl)) | (exact .inr (.inr rfl))))
        clear hsm hsm2
        go_wp2_with fail
        go_quiet (fail)
        clear h1 y0 x0
        have HO3 := Lib.hid (HO2.out.drewN nq)
        clear HO2
        go_upto_region 11 with fail
        generalize wr.drewN nq = w4 at *
        have y0 := HCA.out w4 HO3.out.only
        have x0 := HCB.out w4 HO3.out.only
        have hsm2 : IntKind.i64.wrap (0 + M) = sm := by rw [IntWalk.i64_left]; exact HSM.out
        have hsm : wrap64 (0 + M) = sm := HSM.out
        have hsm3 : wrap64 M = sm := by rw [Int.zero_add] at hsm; exact hsm
        have hsm4 : IntKind.i64.wrap M = sm := by rw [IntWalk.i64_left]; exact hsm3
        go_still_tail 14, (by kernel_rfl)
        change wpList _ _ _ _ _ w4.drew
        clear hsm hsm2 hsm3 hsm4
        obtain ⟨m0, m1, m2⟩ := own_mid HO3.out HPL.out
        have HO5 := Lib.hid (m2 sm).drew
        clear m2
        go_upto_region 12 with fail
        generalize (w4.setCell ⟨g, k, none⟩ (.int .i64 sm)).drew = w5 at *
        clear y0 x0 m0 m1 HO3
        have y0 := HCA.out w5 HO5.out.only
        have x0 := HCB.out w5 HO5.out.only
        go_quiet (fail)
        have HO6 := Lib.hid (HO5.out.drewN nq)
        clear HO5 y0 x0 h0
        go_upto_region 14 with fail
        generalize w5.drewN nq = w6 at *
        obtain ⟨m0, m1, m2⟩ := own_mid HO6.out HPL.out
        by_cases hz : sm = 0
        · subst hz
          have hO8 := m2 1
          rw [mid_done (by rw [HLN.out]; exact HKM.out) (by rw [HLK.out]; unfold k2; simp only; rw [if_neg HNE.out, HSM.out]; rfl)] at hO8
          have HO8 := Lib.hid hO8
          clear hO8 m2 HO6
          go_wp2_with fail
          go_roundw
          case rel => exact ⟨k + 1, HKM.out, by go_num, HAN, HO8⟩
          case measure => have := HKM.out; simp [intOf]; omega
        · have hzb : (sm == 0) = false := by simpa using hz
          have hO8 := HO6.out
          rw [mid_done (by rw [HLN.out]; exact HKM.out) (by rw [HLK.out]; unfold k2; simp only; rw [if_neg HNE.out, HSM.out]; exact if_neg hz)] at hO8
          have HO8 := Lib.hid hO8
          clear hO8 m2 HO6 hz
          go_wp2_with fail
          go_roundw
          case rel => exact ⟨k + 1, HKM.out, by go_num, HAN, HO8⟩
          case measure => have := HKM.out; simp [intOf]; omega
      · have HNE : Hid (¬ K = (0 : Int)) := Lib.hid (by simpa using h0)
        obtain ⟨sm, hsm⟩ : ∃ sm : Int, wrap64 (K + 0) = sm := ⟨_, rfl⟩
        have hsm2 : IntKind.i64.wrap (K + 0) = sm := by rw [IntWalk.i64_left]; exact hsm
        have HSM := Lib.hid hsm
        have HAN : Hid (AlikeTo xs ys (k + 1)) := Lib.hid (HAL.out.next (by rw [HVE.out, HUE.out]; first | (exact .inl rfl) | (exact .inr (.inl rfl)) | (exact .inr (.inr rfl))))
        clear hsm hsm2
        go_wp2_with fail
        go_quiet (fail)
        clear h1 y0 x0 h2
        have HO3 := Lib.hid (HO2.out.drewN nq)
        clear HO2
        go_upto_region 11 with fail
        generalize wr.drewN nq = w4 at *
        have y0 := HCA.out w4 HO3.out.only
        have x0 := HCB.out w4 HO3.out.only
        have hsm2 : IntKind.i64.wrap (K + 0) = sm := by rw [IntWalk.i64_left]; exact HSM.out
        have hsm : wrap64 (K + 0) = sm := HSM.out
        have hsm3 : wrap64 K = sm := by rw [Int.add_zero] at hsm; exact hsm
        have hsm4 : IntKind.i64.wrap K = sm := by rw [IntWalk.i64_left]; exact hsm3
        go_still_tail 14, (by kernel_rfl)
        change wpList _ _ _ _ _ w4.drew
        clear hsm hsm2 hsm3 hsm4
        obtain ⟨m0, m1, m2⟩ := own_mid HO3.out HPL.out
        have HO5 := Lib.hid (m2 sm).drew
        clear m2
        go_upto_region 12 with fail
        generalize (w4.setCell ⟨g, k, none⟩ (.int .i64 sm)).drew = w5 at *
        clear y0 x0 m0 m1 HO3
        have y0 := HCA.out w5 HO5.out.only
        have x0 := HCB.out w5 HO5.out.only
        go_quiet (fail)
        have HO6 := Lib.hid (HO5.out.drewN nq)
        clear HO5 y0 x0 h0
        go_upto_region 14 with fail
        generalize w5.drewN nq = w6 at *
        obtain ⟨m0, m1, m2⟩ := own_mid HO6.out HPL.out
        by_cases hz : sm = 0
        · subst hz
          have hO8 := m2 1
          rw [mid_done (by rw [HLN.out]; exact HKM.out) (by rw [HLK.out]; unfold k2; simp only; rw [if_neg HNE.out, HSM.out]; rfl)] at hO8
          have HO8 := Lib.hid hO8
          clear hO8 m2 HO6
          go_wp2_with fail
          go_roundw
          case rel => exact ⟨k + 1, HKM.out, by go_num, HAN, HO8⟩
          case measure => have := HKM.out; simp [intOf]; omega
        · have hzb : (sm == 0) = false := by simpa using hz
          have hO8 := HO6.out
          rw [mid_done (by rw [HLN.out]; exact HKM.out) (by rw [HLK.out]; unfold k2; simp only; rw [if_neg HNE.out, HSM.out]; exact if_neg hz)] at hO8
          have HO8 := Lib.hid hO8
          clear hO8 m2 HO6 hz
          go_wp2_with fail
          go_roundw
          case rel => exact ⟨k + 1, HKM.out, by go_num, HAN, HO8⟩
          case measure => have := HKM.out; simp [intOf]; omega
      · go_wp2_with fail
        go_quiet (fail)
        have H2 := Lib.hid (HO2.out.drewN nq)
        go_wp2_with fail
        go_ret
        exact ⟨rfl, H2.out.belows⟩
    · obtain rfl : k = m := by omega
      have hltI : ¬ (k : Int) < (k : Int) := by omega
      have HOW : Hid (Own w wr (Sep (Blk g (.cells (ints L).toArray 3 (0, 0))) Emp)) := Lib.hid (by
        have := HO.out
        rwa [List.take_of_length_le (by rw [HLN.out]; exact Nat.le_refl _), Nat.sub_self, List.replicate_zero, List.append_nil] at this)
      have HALL : Hid (alike (xs.map Vv.vl) (ys.map Vv.vl)) := Lib.hid (AlikeTo.all (by rw [← HN.out, ← HN2.out]) (by rw [← HN.out]; exact HAL.out))
      have HK47 : Hid (k ≤ 140737488355328) := Lib.hid (by have := HN42.out; omega)
      clear HO HAL
      go_wp2_with fail
      refine (encode_any xo dao k xc k dc xs ds wr (HT.out.keep HOW.out.belows) (HX.out.keep HOW.out.only) (HD.out.keep HOW.out.only) HN.out HM.out HK47.out).mono ?_
      rintro e w5 ⟨a, er, rfl, he, ho⟩
      have HO5 := Lib.hid (HOW.out.quiet ho)
      have HE := Lib.hid he
      have HXA : Hid ((⟨a.toArray⟩ : ByteArray).toList = a) := Lib.hid (ba_mk1 a)
      generalize (⟨a.toArray⟩ : ByteArray) = x at *
      clear he ho HOW
      go_wp2_with fail
      refine (encode_any yo dao k yc k dc ys ds w5 (HT.out.keep HO5.out.belows) (HY.out.keep HO5.out.only) (HD.out.keep HO5.out.only) HN2.out HM.out HK47.out).mono ?_
      rintro e w6 ⟨b, er2, rfl, he2, ho2⟩
      have HO6 := Lib.hid (HO5.out.quiet ho2)
      have HE2 := Lib.hid he2
      have HYB : Hid ((⟨b.toArray⟩ : ByteArray).toList = b) := Lib.hid (ba_mk1 b)
      generalize (⟨b.toArray⟩ : ByteArray) = y at *
      clear he2 ho2 HO5
      by_cases h1 : er = 0
      case neg =>
        have hb : (er != 0) = true := by simpa using h1
        clear h1
        go_wp2_with fail
        go_ret
        exact ⟨rfl, HO6.out.belows⟩
      subst h1
      by_cases h2 : er2 = 0
      case neg =>
        have hb : (er2 != 0) = true := by simpa using h2
        clear h2
        go_wp2_with fail
        go_ret
        exact ⟨rfl, HO6.out.belows⟩
      subst h2
      obtain ⟨s1, s2, s3, s4, s5⟩ := enc_small HE.out
      obtain ⟨t1, t2, t3, t4, t5⟩ := enc_small HE2.out
      have ga := allGood_of s5 HXU.out
      have gb := allGood_of t5 HYU.out
      have hfit := fit_k2 HALL.out ga gb
      rw [← HL.out] at hfit
      obtain ⟨f1, f2, f3⟩ := hfit
      have hdl : ds.length = L.length := by rw [HLN.out, ← HM.out]
      have HM1 : Hid (decE L ds (x ++ (⟨#[0]⟩ : ByteArray)).toList = ([], 2)) := Lib.hid (by
        rw [ba_append, HXA.out, s3, show (ByteArray.mk #[0]).toList = [0] from ByteArray.toList_mk [0]]
        exact free_more f1 hdl f3 0)
      have hxs : x.size ≤ 256 := by rw [← ba_size, HXA.out]; exact s4
      have HXS := Lib.hid hxs
      have HLESS : Hid (0 < x.size → decE L ds (x.extract 0 (x.size - 1)).toList = ([], 2)) := Lib.hid (fun h => by
        have e := take_step x (x.size - 1) (by omega)
        rw [show x.size - 1 + 1 = x.size by omega, List.take_of_length_le (by rw [ba_size]; exact Nat.le_refl _)] at e
        rw [ba_take]
        refine free_less f1 hdl f3 (by rw [← s3]; exact s4) (c := x[x.size - 1]'(by omega)) ?_
        rw [← s3, ← HXA.out]
        exact e)
      have HFR : Hid (x.size < y.size → (y.extract 0 x.size).toList ≠ x.toList) := Lib.hid (fun h => by
        have := free_front (ds := ds) HALL.out (by rw [List.length_map, ← HN.out, ← HM.out]) ga gb (by rw [← s3, ← t3, ← HXA.out, ← HYB.out, ba_size, ba_size]; exact h)
        rw [← s3, ← t3, ← HXA.out, ← HYB.out, ba_size] at this
        rwa [ba_take])
      have hcat : ¬ 9223372036854775807 < x.size + 1 := by omega
      have HLK : Hid (L.length ≤ 140737488355328) := Lib.hid (by rw [HLN.out]; exact HK47.out)
      clear s1 s2 s3 s4 s5 t1 t2 t3 t4 t5 ga gb f1 f2 f3 hdl
      have hw2 : ((x.size : Int) < (y.size : Int) ∧ (x.size : Int) ≤ (y.size : Int) ∧ ((y.extract 0 x.size).toList == x.toList) = false) ∨ ¬ (x.size : Int) < (y.size : Int) := by
        by_cases h : x.size < y.size
        · exact .inl ⟨by omega, by omega, by simpa using HFR.out h⟩
        · exact .inr (by omega)
      obtain ⟨z, hz⟩ : ∃ z, x ++ (⟨#[0]⟩ : ByteArray) = z := ⟨_, rfl⟩
      rw [hz] at HM1
      rcases hw2 with ⟨i1, i2, i3⟩ | i1
      all_goals
        go_wp2_with fail
        refine (decode_any (some ⟨g, 0, none⟩) dao k k k dc L ds z w6 (HT.out.keep HO6.out.belows) (blk_ints HO6.out.held) (HD.out.keep HO6.out.only) HLN.out.symm HM.out HLK.out).mono ?_
        rintro e w7 ⟨lv, us, er3, rfl, hd7, hu7, ho7⟩
        rw [HM1.out] at hd7
        simp only [Prod.mk.injEq] at hd7
        obtain ⟨_, rfl⟩ := hd7
        have HO7 := Lib.hid (HO6.out.quiet ho7.only)
        clear hu7 ho7 hz
        by_cases h0 : x.size = 0
        · have h0b : ((x.size : Int) == 0) = true := by simp [h0]
          have h0c : (x.size : Int) = 0 := by omega
          go_wp2_with fail
          go_ret
          exact ⟨rfl, HO7.out.belows⟩
        · have h0b : ((x.size : Int) == 0) = false := by rw [beq_eq_false_iff_ne]; omega
          have hin : 0 ≤ (x.size : Int) - 1 ∧ (x.size : Int) - 1 ≤ (x.size : Int) := by omega
          have htn : ((x.size : Int) - 1).toNat = x.size - 1 := by omega
          have HLE := Lib.hid (HLESS.out (by omega))
          have hx256 : (x.size : Int) ≤ 256 := by omega
          obtain ⟨v, hv⟩ : ∃ v, x.extract 0 (x.size - 1) = v := ⟨_, rfl⟩
          rw [hv] at HLE
          clear h0
          go_wp2_with fail
          refine (decode_any (some ⟨g, 0, none⟩) dao k k k dc L ds v w7 (HT.out.keep HO7.out.belows) (blk_ints HO7.out.held) (HD.out.keep HO7.out.only) HLN.out.symm HM.out HLK.out).mono ?_
          rintro e w8 ⟨lv8, us8, er8, rfl, hd8, hu8, ho8⟩
          rw [HLE.out] at hd8
          simp only [Prod.mk.injEq] at hd8
          obtain ⟨_, rfl⟩ := hd8
          have HO8 := Lib.hid (HO7.out.quiet ho8.only)
          clear hu8 ho8 hv htn hin
          go_wp2_with fail
          go_ret
          exact ⟨rfl, HO8.out.belows⟩

end Go.Proofs.YtpedcpehomkikaaDoor
