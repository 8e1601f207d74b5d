/-
  KeyAll: its walk.
-/
import Derived.Test.YtlmpknhekoeecaaDoorKeyN8
namespace Go.Proofs.YtlmpknhekoeecaaDoor
open Go Go.RowKit
set_option linter.unusedVariables false
set_option linter.unusedSimpArgs false
set_option maxRecDepth 100000

theorem decL_len : ∀ (ks : List Int) (ds : List Bool) (s : List UInt8) (l : List Vl), decL ks ds s = some l → l.length ≤ ks.length
  | [], ds, s, l, h => by
    have e : decL [] ds s = if s = [] then some [] else none := by rw [decL.eq_def]
    rw [e] at h
    split at h
    · cases h; simp
    · cases h
  | k :: ks, [], s, l, h => by
    have e : decL (k :: ks) [] s = if s = [] then some [] else none := by rw [decL.eq_def]
    rw [e] at h
    split at h
    · cases h; simp
    · cases h
  | k :: ks, d :: ds, s, l, h => by
    rw [decL] at h
    cases hv : val1 k (turnL d s) with
    | none => rw [hv] at h; cases h
    | some x =>
      rw [hv] at h
      simp only at h
      cases hl : decL ks ds (turnL d x.2) with
      | none => rw [hl] at h; cases h
      | some l2 =>
        rw [hl] at h
        simp only [Option.map_some, Option.some.injEq] at h
        subst h
        have := decL_len ks ds _ l2 hl
        simp only [List.length_cons]
        omega
theorem dec_len {ks : List Int} {ds : List Bool} {s : List UInt8} {ys : List Vv} {er : Int} (h : (ys.map Vv.vl, er) = decE ks ds s) (hk : ks.length ≤ 140737488355328) : ys.length ≤ 140737488355328 := by
  have e : (ys.map Vv.vl).length ≤ ks.length := by
    unfold decE at h
    split at h
    · simp only [Prod.mk.injEq] at h; rw [h.1]; simp
    · split at h
      · simp only [Prod.mk.injEq] at h; rw [h.1]; simp
      · split at h
        · simp only [Prod.mk.injEq] at h; rw [h.1]; simp
        · rename_i l hl
          simp only [Prod.mk.injEq] at h
          rw [h.1]
          exact decL_len _ _ _ _ hl
  rw [List.length_map] at e
  omega

set_option maxHeartbeats 8000000 in
theorem kall_walk (w : World) {lo dao kao : Option Addr} {lc dc kc : Nat} {vs : List Vv} {ds : List Bool} {ks : List Int} {s : ByteArray} (hv : SlV w lo vs) (hvl : vs.length ≤ 1048576) (hd : SlBo w dao ds) (hdl : ds.length ≤ 1048576) (hk : SlI w kao ks) (hkl : ks.length ≤ 1048576) (hkk : ∀ z ∈ ks, -9223372036854775808 ≤ z ∧ z ≤ 9223372036854775807) (hT : UTab w) :
    Calls Tryd.prog 3 #[.slice lo vs.length lc, .slice dao ds.length dc, .slice kao ks.length kc, .string s] w fun e w' => e = .returned (.bool true) ∧ Below w.heap.size w w' := by
  have HV := Lib.hid hv
  have HD := Lib.hid hd
  have HK := Lib.hid hk
  have HT := Lib.hid hT
  have HVL := Lib.hid hvl
  have HKL := Lib.hid hkl
  obtain ⟨n, hn⟩ : ∃ n, n = vs.length := ⟨_, rfl⟩
  obtain ⟨m, hm⟩ : ∃ m, m = ds.length := ⟨_, rfl⟩
  obtain ⟨q, hq⟩ : ∃ q, q = ks.length := ⟨_, rfl⟩
  rw [← hn, ← hm, ← hq]
  have HN := Lib.hid hn
  have HM := Lib.hid hm
  have HQ := Lib.hid hq
  clear hv hvl hd hdl hk hkl hkk hT hn hm hq
  go_enter Tryd.func3, Tryd.ntmps3
  go_wp2_with fail
  refine (kawake_any w HT.out).mono ?_
  rintro e w1 ⟨rfl, hb1⟩
  have H1 := Lib.hid (below_quiet hb1)
  clear hb1
  go_wp2_with fail
  refine (encode_any lo dao n lc m dc vs ds w1 (HT.out.keep (only_b H1.out)) (HV.out.keep H1.out) (HD.out.keep H1.out) HN.out HM.out (by have := HN.out; have := HVL.out; omega)).mono ?_
  rintro e w2 ⟨a, er, rfl, he, ho⟩
  have H2 := Lib.hid (H1.out.trans ho (fun _ _ h => h))
  have HE := Lib.hid he
  have HXS : Hid ((⟨a.toArray⟩ : ByteArray).toList = a) := Lib.hid (ba_mk1 a)
  obtain ⟨X, hX⟩ : ∃ X : ByteArray, (⟨a.toArray⟩ : ByteArray) = X := ⟨_, rfl⟩
  rw [hX]
  have HX := Lib.hid hX
  clear he ho H1 hX
  go_wp2_with fail
  refine (rencode lo dao n lc m dc vs ds w2 (HV.out.keep H2.out) (HD.out.keep H2.out) HN.out HM.out (by have := HN.out; have := HVL.out; omega)).mono ?_
  rintro e w3 ⟨b, er2, rfl, he, ho⟩
  have H3 := Lib.hid (H2.out.trans ho (fun _ _ h => h))
  have he2 := he.trans HE.out.symm
  simp only [Prod.mk.injEq] at he2
  obtain ⟨rfl, rfl⟩ := he2
  rw [HX.out]
  clear he ho H2 HE
  go_wp2_with fail
  refine (decode_any kao dao q kc m dc ks ds s w3 (HT.out.keep (only_b H3.out)) (HK.out.keep' H3.out) (HD.out.keep H3.out) HQ.out HM.out (by have := HKL.out; omega)).mono ?_
  rintro e w4 ⟨lv, xs, er3, rfl, hdx, hux, hox⟩
  obtain ⟨xo, xc, rfl, hsx⟩ := rowV_slV hox hux
  have H4 := Lib.hid (H3.out.trans hox.only (fun _ _ h => h))
  have HDX := Lib.hid hdx
  have HUX := Lib.hid hux
  have HSX := Lib.hid hsx
  clear hdx hux hox hsx H3
  go_wp2_with fail
  refine (rdecode kao dao q kc m dc ks ds s w4 (HK.out.keep' H4.out) (HD.out.keep H4.out) HQ.out HM.out (by have := HKL.out; omega)).mono ?_
  rintro e w5 ⟨lv, ys, er4, rfl, hdy, huy, hoy⟩
  have he2 := hdy.trans HDX.out.symm
  simp only [Prod.mk.injEq] at he2
  obtain ⟨hxy, rfl⟩ := he2
  obtain rfl : ys = xs := vv_map huy HUX.out hxy
  obtain ⟨yo, yc, rfl, hsy⟩ := rowV_slV hoy huy
  have H5 := Lib.hid (H4.out.trans hoy.only (fun _ _ h => h))
  have HSX5 := Lib.hid (HSX.out.keep hoy.only)
  have HSY := Lib.hid hsy
  have HYL : Hid (ys.length ≤ 140737488355328) := Lib.hid (dec_len hdy (by have := HKL.out; omega))
  have hxx : (X.toList == X.toList) = true := by simp
  clear hdy huy hoy hsy hxy H4 HSX HDX
  go_wp2_with fail
  refine (values_any xo yo ys.length xc ys.length yc ys ys _ HSX5.out HSY.out rfl rfl HYL.out HYL.out).mono ?_
  rintro e w6 ⟨r, rfl, hr, ho⟩
  obtain rfl : r = true := hr.2 rfl
  have H6 := Lib.hid (H5.out.trans ho (fun _ _ h => h))
  clear hr ho H5
  go_wp2_with fail
  go_ret
  exact ⟨rfl, only_b H6.out⟩

end Go.Proofs.YtlmpknhekoeecaaDoor
