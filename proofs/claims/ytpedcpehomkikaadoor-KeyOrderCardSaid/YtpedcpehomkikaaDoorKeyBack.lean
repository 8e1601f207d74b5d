/-
  KeyBack: its walk.
-/
import Derived.Test.YtpedcpehomkikaaDoorKeyB0
import Derived.Test.YtpedcpehomkikaaDoorKey10
namespace Go.Proofs.YtpedcpehomkikaaDoor
open Go Go.RowKit
set_option linter.unusedVariables false
set_option linter.unusedSimpArgs false
set_option maxRecDepth 100000

theorem own_emp {w0 w : World} (h : Only (fun _ => False) w0 w) : Own w0 w Emp := ⟨fun _ => False, fun _ h => h, fun _ h => h.elim, h⟩
theorem vl_lt {vs : List Vv} (h : ∀ v ∈ vs, U64 v.N) : ∀ v ∈ vs.map Vv.vl, v.N < 18446744073709551616 := fun v hv => by
  obtain ⟨u, hu, rfl⟩ := List.mem_map.1 hv
  exact u64_m (h u hu)

set_option maxHeartbeats 8000000 in
theorem kback_walk (w : World) {lo dao kao : Option Addr} {lc dc kc : Nat} {vs : List Vv} {ds : List Bool} {ks : List Int} {s : ByteArray} (hv : SlV w lo vs) (hvl : vs.length ≤ 140737488355328) (hd : SlBo w dao ds) (hdl : ds.length ≤ 140737488355328) (hk : SlI w kao ks) (hkl : ks.length ≤ 140737488355328) (hkk : ∀ z ∈ ks, -9223372036854775808 ≤ z ∧ z ≤ 9223372036854775807) (hT : UTab w) :
    Calls Tryd.prog 4 #[.slice lo vs.length lc, .slice dao ds.length dc, .slice kao ks.length kc, .string s] w fun e w' => e = .returned (.bool true) ∧ Below w.heap.size w w' := by
  have HV := Lib.hid hv
  have HD := Lib.hid hd
  have HK := Lib.hid hk
  have HT := Lib.hid hT
  have HVL := Lib.hid hvl
  have HKL := Lib.hid hkl
  have HVU := Lib.hid (vl_lt hv.u64)
  obtain ⟨n, hn⟩ : ∃ n, n = vs.length := ⟨_, rfl⟩
  obtain ⟨m, hm⟩ : ∃ m, m = ds.length := ⟨_, rfl⟩
  obtain ⟨q, hq⟩ : ∃ q, q = ks.length := ⟨_, rfl⟩
  rw [← hn, ← hm, ← hq]
  have HN := Lib.hid hn
  have HM := Lib.hid hm
  have HQ := Lib.hid hq
  clear hv hvl hd hdl hk hkl hkk hT hn hm hq
  go_enter Tryd.func4, Tryd.ntmps4
  go_wp2_with fail
  refine (kawake_any w HT.out).mono ?_
  rintro e w1 ⟨rfl, hb1⟩
  have H1 := Lib.hid (below_quiet hb1)
  clear hb1
  go_wp2_with fail
  refine (encode_any lo dao n lc m dc vs ds w1 (HT.out.keep (only_b H1.out)) (HV.out.keep H1.out) (HD.out.keep H1.out) HN.out HM.out (by rw [HN.out]; exact HVL.out)).mono ?_
  rintro e w2 ⟨a, er, rfl, he, ho⟩
  have H2 := Lib.hid (H1.out.trans ho (fun _ _ h => h))
  have HE := Lib.hid he
  clear he ho H1
  by_cases h0 : er = 0
  · subst h0
    obtain ⟨s1, s2, s3, s4, s5⟩ := enc_small HE.out
    rw [List.length_map, ← HN.out] at s1
    have hmk := run_make_ints n (by omega)
    obtain ⟨L, hL⟩ : ∃ L, L = (vs.map Vv.vl).map kd := ⟨_, rfl⟩
    have HL := Lib.hid hL
    have HLN : Hid (L.length = n) := Lib.hid (by rw [hL, List.length_map, List.length_map, HN.out])
    have HNM : Hid (n = m) := Lib.hid (by rw [HN.out, HM.out, ← s2, List.length_map])
    have HA := Lib.hid s4
    have HDEC : Hid (decE L ds a = (vs.map Vv.vl, 0)) := Lib.hid (by rw [hL]; exact enc_dec HVU.out HE.out)
    have HO := Lib.hid ((own_emp H2.out).alloc (.cells (ints (List.replicate n 0)).toArray 3))
    have HN256 := Lib.hid s1
    clear hL s1 s2 s3 s4 s5
    obtain ⟨g, hg⟩ : ∃ g, g = w2.heap.size := ⟨_, rfl⟩
    obtain ⟨C, hC⟩ : ∃ C, C = (ints (List.replicate n 0)).toArray := ⟨_, rfl⟩
    rw [← hg, ← hC] at HO
    rw [← hC] at hmk
    have HC := Lib.hid hC
    have HG := Lib.hid hg
    clear hC hg
    go_upto_region 6 with fail
    rw [← HG.out]
    generalize w2.alloc (.cells C 3) = w3 at *
    clear hmk H2 HG
    go_wp2_with fail
    go_loopw [12] (fun i wr => ∃ k : Nat, k ≤ n ∧ i = .int .i64 (k : Int) ∧ Hid (Own w wr (Sep (Blk g (.cells (ints (L.take k ++ List.replicate (n - k) 0)).toArray 3 (0, 0))) Emp))) (fun i _ => n - (intOf i).toNat)
    case atStart => exact ⟨0, Nat.zero_le _, rfl, Lib.hid (by rw [List.take_zero, List.nil_append, Nat.sub_zero, ← HC.out]; exact HO.out)⟩
    case round =>
      clear HO
      obtain ⟨k, hk, rfl, HO⟩ := hrel
      by_cases hlt : k < n
      · have HKV : Hid (k < vs.length) := Lib.hid (by rw [← HN.out]; exact hlt)
        obtain ⟨ga, off, rfl, hva⟩ := (HV.out.keep HO.out.only) k HKV.out
        obtain ⟨v, hve⟩ : ∃ v, vs.getD k default = v := ⟨_, rfl⟩
        rw [hve] at hva
        obtain ⟨y0, y1, y2, hu⟩ := hva
        have HVE : Hid (L.getD k 0 = kd v.vl) := Lib.hid (by
          rw [HL.out]
          have := HKV.out
          simp [this, ← hve])
        obtain ⟨K, N, S⟩ := v
        have HLE : Hid ((L.take k ++ List.replicate (n - k) 0).length = n) := Lib.hid (by have := HLN.out; simp; omega)
        obtain ⟨hc, hf⟩ := blk_int HO.out.held (j := k) (by rw [HLE.out]; exact hlt)
        have hS := store_int HO.out k K
        have HSK := Lib.hid (set_kd L k n HLN.out hlt)
        rw [HSK.out] at hS
        have HS := Lib.hid hS
        have hltI : (k : Int) < (n : Int) := by omega
        have hk0 : (0 : Int) ≤ (k : Int) := by omega
        have hn9 : (n : Int) ≤ 256 := by have := HN256.out; omega
        clear hS hve hu y1 y2
        go_upto_region 10 with fail
        generalize wr.setCell ⟨g, k, none⟩ (.int .i64 K) = w4 at *
        have HLE4 : Hid ((L.take k ++ [K] ++ List.replicate (n - (k + 1)) 0).length = n) := Lib.hid (by have := HLN.out; simp; omega)
        obtain ⟨d, hfd⟩ := blk_int HS.out.held (j := k) (by rw [HLE4.out]; exact hlt)
        have HGD : Hid (∀ x : Int, (L.take k ++ [x] ++ List.replicate (n - (k + 1)) 0).getD k 0 = x) := Lib.hid (fun x => by
          have := HLN.out
          rw [List.append_assoc, List.getD_eq_getElem?_getD, List.getElem?_append_right (by simp; omega)]
          rw [show k - (L.take k).length = 0 by simp; omega]
          rfl)
        rw [HGD.out K] at d
        have HTK : Hid (∀ x : Int, L.getD k 0 = x → L.take k ++ [x] = L.take (k + 1)) := Lib.hid (fun x hx => by
          have h1 : k < L.length := by rw [HLN.out]; exact hlt
          rw [List.take_succ_eq_append_getElem h1, ← hx]
          simp [h1])
        clear hc hf HO y0
        by_cases h0 : K = 0
        · subst h0
          have hS2 := store_int HS.out k 1
          have HS2 : Hid (Own w (w4.setCell ⟨g, k, none⟩ (.int .i64 1)) (Sep (Blk g (.cells (ints (L.take (k + 1) ++ List.replicate (n - (k + 1)) 0)).toArray 3 (0, 0))) Emp)) := Lib.hid (by
            have e : (L.take k ++ [0] ++ List.replicate (n - (k + 1)) 0).set k 1 = L.take (k + 1) ++ List.replicate (n - (k + 1)) 0 := by
              rw [← HTK.out 1 (by rw [HVE.out]; rfl), List.append_assoc, List.set_append_right _ _ (by simp; omega)]
              rw [show k - (L.take k).length = 0 by have := HLN.out; simp; omega]
              simp
            rw [e] at hS2
            exact hS2)
          clear hS2 HS
          go_wp2_with fail
          go_roundw
          case rel => exact ⟨k + 1, by omega, by go_num, HS2⟩
          case measure => simp [intOf]; omega
        · have hb : (K == 0) = false := by simpa using h0
          have HS2 : Hid (Own w w4 (Sep (Blk g (.cells (ints (L.take (k + 1) ++ List.replicate (n - (k + 1)) 0)).toArray 3 (0, 0))) Emp)) := Lib.hid (by
            rw [← HTK.out K (by rw [HVE.out]; unfold kd; rw [if_neg h0])]
            exact HS.out)
          clear h0 HS
          go_wp2_with fail
          go_roundw
          case rel => exact ⟨k + 1, by omega, by go_num, HS2⟩
          case measure => simp [intOf]; omega
      · obtain rfl : k = n := by omega
        have hltI : ¬ (k : Int) < (k : Int) := by omega
        have HOW : Hid (Own w wr (Sep (Blk g (.cells (ints L).toArray 3 (0, 0))) Emp)) := Lib.hid (by
          have := HO.out
          rwa [List.take_of_length_le (by rw [HLN.out]; exact Nat.le_refl _), Nat.sub_self, List.replicate_zero, List.append_nil] at this)
        clear HO
        go_wp2_with fail
        refine (decode_any (some ⟨g, 0, none⟩) dao k k m dc L ds ⟨a.toArray⟩ wr (HT.out.keep HOW.out.belows) (blk_ints HOW.out.held) (HD.out.keep HOW.out.only) HLN.out.symm HM.out (by rw [HLN.out]; have := HN256.out; omega)).mono ?_
        rintro e w5 ⟨lv, us, er, rfl, hd5, hu5, ho5⟩
        rw [ba_mk1, HDEC.out] at hd5
        simp only [Prod.mk.injEq] at hd5
        obtain ⟨hus, rfl⟩ := hd5
        obtain rfl := vv_map hu5 HV.out.u64 hus
        obtain ⟨ao5, c5, rfl, hsl⟩ := rowV_slV ho5 hu5
        have HSL := Lib.hid hsl
        have H5 := Lib.hid (HOW.out.only.trans ho5.only (fun _ _ h => h))
        clear hus hu5 hsl ho5 HOW
        rw [← HN.out]
        go_wp2_with fail
        refine (values_any ao5 lo k c5 k lc us us w5 HSL.out (HV.out.keep H5.out) HN.out HN.out (by have := HN256.out; omega) (by have := HN256.out; omega)).mono ?_
        rintro e w6 ⟨r, rfl, hr, ho6⟩
        obtain rfl : r = true := hr.2 rfl
        have HX := Lib.hid (H5.out.trans ho6 (fun _ _ h => h))
        clear hr ho6 H5 HSL
        go_wp2_with fail
        refine (decode_any kao dao q kc m dc ks ds s w6 (HT.out.keep (only_b HX.out)) (HK.out.keep' HX.out) (HD.out.keep HX.out) HQ.out HM.out HKL.out).mono ?_
        rintro e w8 ⟨lv, ts, er8, rfl, hd8, hu8, ho8⟩
        obtain ⟨ao8, c8, rfl, hsl⟩ := rowV_slV ho8 hu8
        have HSL8 := Lib.hid hsl
        have H8 := Lib.hid (HX.out.trans ho8.only (fun _ _ h => h))
        have HD8 := Lib.hid hd8
        obtain ⟨t, ht⟩ : ∃ t, t = ts.length := ⟨_, rfl⟩
        rw [← ht]
        have HTL := Lib.hid ht
        clear hd8 hu8 ho8 hsl HX ht
        by_cases h8 : er8 = 0
        · subst h8
          have HEN := Lib.hid (dec_enc HD8.out)
          have hlen := (enc_small (by rw [HEN.out] : (s.toList, (0 : Int)) = encE (ts.map Vv.vl) ds)).1
          rw [List.length_map, ← HTL.out] at hlen
          have HTS := Lib.hid hlen
          clear hlen
          go_wp2_with fail
          refine (encode_any ao8 dao t c8 m dc ts ds w8 (HT.out.keep (only_b H8.out)) HSL8.out (HD.out.keep H8.out) HTL.out HM.out (by have := HTS.out; omega)).mono ?_
          rintro e w9 ⟨b, er9, rfl, he9, ho9⟩
          rw [HEN.out] at he9
          simp only [Prod.mk.injEq] at he9
          obtain ⟨rfl, rfl⟩ := he9
          rw [str_of (s := s.toList) (t := s) rfl]
          have H9 := Lib.hid (H8.out.trans ho9 (fun _ _ h => h))
          clear ho9 H8 HSL8 HTS
          go_wp2_with fail
          go_ret
          exact ⟨rfl, only_b H9.out⟩
        · have h8b : (er8 != 0) = true := by simpa using h8
          have hn0 := decE_nil (ks := ks) (ds := ds) (s := s.toList) (by rw [← HD8.out]; exact h8)
          rw [← HD8.out] at hn0
          obtain rfl : t = 0 := by rw [HTL.out]; simpa using hn0
          clear h8 hn0
          go_wp2_with fail
          go_ret
          exact ⟨rfl, only_b H8.out⟩
  · have hb : (er == 0) = false := by simpa using h0
    have HX := H2
    clear h0 H2
    go_wp2_with fail
    refine (decode_any kao dao q kc m dc ks ds s w2 (HT.out.keep (only_b HX.out)) (HK.out.keep' HX.out) (HD.out.keep HX.out) HQ.out HM.out HKL.out).mono ?_
    rintro e w8 ⟨lv, ts, er8, rfl, hd8, hu8, ho8⟩
    obtain ⟨ao8, c8, rfl, hsl⟩ := rowV_slV ho8 hu8
    have HSL8 := Lib.hid hsl
    have H8 := Lib.hid (HX.out.trans ho8.only (fun _ _ h => h))
    have HD8 := Lib.hid hd8
    obtain ⟨t, ht⟩ : ∃ t, t = ts.length := ⟨_, rfl⟩
    rw [← ht]
    have HTL := Lib.hid ht
    clear hd8 hu8 ho8 hsl HX ht
    by_cases h8 : er8 = 0
    · subst h8
      have HEN := Lib.hid (dec_enc HD8.out)
      have hlen := (enc_small (by rw [HEN.out] : (s.toList, (0 : Int)) = encE (ts.map Vv.vl) ds)).1
      rw [List.length_map, ← HTL.out] at hlen
      have HTS := Lib.hid hlen
      clear hlen
      go_wp2_with fail
      refine (encode_any ao8 dao t c8 m dc ts ds w8 (HT.out.keep (only_b H8.out)) HSL8.out (HD.out.keep H8.out) HTL.out HM.out (by have := HTS.out; omega)).mono ?_
      rintro e w9 ⟨b, er9, rfl, he9, ho9⟩
      rw [HEN.out] at he9
      simp only [Prod.mk.injEq] at he9
      obtain ⟨rfl, rfl⟩ := he9
      rw [str_of (s := s.toList) (t := s) rfl]
      have H9 := Lib.hid (H8.out.trans ho9 (fun _ _ h => h))
      clear ho9 H8 HSL8 HTS
      go_wp2_with fail
      go_ret
      exact ⟨rfl, only_b H9.out⟩
    · have h8b : (er8 != 0) = true := by simpa using h8
      have hn0 := decE_nil (ks := ks) (ds := ds) (s := s.toList) (by rw [← HD8.out]; exact h8)
      rw [← HD8.out] at hn0
      obtain rfl : t = 0 := by rw [HTL.out]; simpa using hn0
      clear h8 hn0
      go_wp2_with fail
      go_ret
      exact ⟨rfl, only_b H8.out⟩

end Go.Proofs.YtpedcpehomkikaaDoor
