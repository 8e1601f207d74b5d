/-
  The document's own keys: Key and Encode answer encE.
-/
import Derived.Test.YtlmpknhekoeecaaDoorKeyN2
import Derived.Test.YtlmpknhekoeecaaDoorRowJ6
namespace Go.Proofs.YtlmpknhekoeecaaDoor
open Go Go.RowKit
set_option linter.unusedVariables false
set_option linter.unusedSimpArgs false
set_option maxRecDepth 100000

/-- An append of another row of one's own in a region that draws its order. -/
theorem own_step2 {ops : Array Oper} {o : Oper} {a : Act} {K : Act → World → Prop} {Q : Exit → Act → World → Prop} {E : Prop} {w0 W : World} {v : Value} {xs : List UInt8} {J : Res} [Stab J] (ys : List UInt8) (g2 c : Nat) (h : Own w0 W (Sep (OutB v xs) (Sep (OutB (.slice (some ⟨g2, 0, none⟩) ys.length c) ys) J)))
    (hy : 1 ≤ ys.length) (hlen : xs.length + ys.length ≤ 140737488355328) (hgd : o.guard = none) (s x : Operand) (ho : o.op = .call { callee := .builtin .append, args := #[s, x], argTypes := #[49, 49] })
    (hs : a.eval s = v) (hx : a.eval x = .slice (some ⟨g2, 0, none⟩) ys.length c)
    (k : ∀ g cap n w', Hid (n = (xs ++ ys).length) → Hid (Own w0 w' (Sep (OutB (.slice (some ⟨g, 0, none⟩) n cap) (xs ++ ys)) J)) → K (a.put o.dst (.slice (some ⟨g, 0, none⟩) n cap)) w') :
    if Region.wanted o (yielded ops a.tmps) = true then Oper.wp Tryd.prog o a W K Q else E := by
  obtain ⟨i0, hi, hz0, hz1, hz2⟩ := info_parts Tryd.infoU8
  have hrow : W.ownsRow 0 5 1 (.slice (some ⟨g2, 0, none⟩) ys.length c) ys.length (u8s ys) := h.swap.owns
  refine step_append_lies (P := Tryd.prog) W hgd s x 49 ho 0 5 i0 (.int .u8 0) 1 1 Tryd.underlying49 hi hz0 hz1 hz2 rfl (by decide) v xs.length (u8s xs) hs
    h.owns ⟨g2, 0, none⟩ ys.length c (u8s ys) hx (by rw [u8s_length, Nat.mul_one]) (fun j u hj => ?_) (u8s_oneCell _) hy (by unfold maxLen; omega) (by omega) (Nat.zero_le _) W.heap.size rfl ?_
  · have hl := (List.getElem?_eq_some_iff.1 hj).1
    rw [u8s_length] at hl
    rw [add_lit, Nat.zero_add, hrow.cellAt j (by omega)]
    exact hj
  · intro g cap w1 hown hgrow hat hlt
    have h5 := h.appended hown hgrow (hat.imp id (fun e => by omega))
    rw [← u8s_append] at h5
    refine k g cap (xs.length + ys.length) w1 (Lib.hid (by simp)) (Lib.hid ?_)
    unfold OutB
    rw [List.length_append]
    exact Own.drop2 h5
theorem keyL_len : ∀ (l : List Vl) (ds : List Bool), l.all Vl.okB = true → (keyL l ds).length ≤ 131 * l.length
  | [], _, _ => by simp [keyL]
  | v :: l, [], _ => by simp [keyL]
  | v :: l, d :: ds, h => by
    rw [List.all_cons, Bool.and_eq_true] at h
    have := keyL_len l ds h.2
    have := (kb0_length h.1).2
    rw [keyL, List.length_append, kb_len, List.length_cons]
    omega
theorem keyL_take_succ {l : List Vl} {ds : List Bool} {k : Nat} (hl : k < l.length) (hd : k < ds.length) : keyL (l.take (k + 1)) (ds.take (k + 1)) = keyL (l.take k) (ds.take k) ++ kb l[k] ds[k] := by
  rw [List.take_succ_eq_append_getElem hl, List.take_succ_eq_append_getElem hd, keyL_snoc _ _ _ _ (by simp; omega)]

set_option maxHeartbeats 8000000 in
theorem rkey (lo dao : Option Addr) (n lc m dc : Nat) (vs : List Vv) (ds : List Bool) (w : World) (hv : SlV w lo vs) (hd : SlBo w dao ds) (hn : n = vs.length) (hm : n = ds.length) (hm2 : m = n) (hn20 : n ≤ 1048576) (hok : (vs.map Vv.vl).all Vl.okB = true) :
    Calls Tryd.prog 26 #[.slice lo n lc, .slice dao m dc] w fun e w' => e = .returned (.string ⟨(keyL (vs.map Vv.vl) ds).toArray⟩) ∧ Only (fun _ => False) w w' := by
  subst hm2
  have HV := Lib.hid hv
  have HD := Lib.hid hd
  have HN := Lib.hid hn
  have HM := Lib.hid hm
  have HOK := Lib.hid hok
  have HN20 := Lib.hid hn20
  obtain ⟨R, hR⟩ : ∃ R : ByteArray, (⟨(keyL (vs.map Vv.vl) ds).toArray⟩ : ByteArray) = R := ⟨_, rfl⟩
  rw [hR]
  have HRR := Lib.hid hR
  have HQ0 : Hid (Own w w (Sep (OutB (.slice none 0 0) []) Emp)) := Lib.hid (by
    have h0 : Own w w Emp := ⟨fun _ => False, fun _ h => h, fun _ h => h.elim, Only.refl _ _⟩
    exact h0.row_nil 5 1)
  clear hv hd hn hm hok hR hn20
  go_enter Tryd.func26, Tryd.ntmps26
  go_wp2_with fail
  go_loopw [5, 6] (fun vb vi wr => ∃ (k : Nat), k ≤ m ∧ vi = .int .i64 (k : Int) ∧ Hid (Own w wr (Sep (OutB vb (keyL ((vs.map Vv.vl).take k) (ds.take k))) Emp))) (fun _ vi _ => m - (intOf vi).toNat)
  case atStart => exact ⟨0, Nat.zero_le _, rfl, HQ0⟩
  case round =>
    clear HQ0
    obtain ⟨k, hk, rfl, HO⟩ := hrel
    by_cases hlt : k < m
    · have HKX : Hid (k < vs.length) := Lib.hid (by rw [← HN.out]; exact hlt)
      have HKD : Hid (k < ds.length) := Lib.hid (by rw [← HM.out]; exact hlt)
      have HKM := Lib.hid hlt
      obtain ⟨u, hue⟩ : ∃ u, vs.getD k default = u := ⟨_, rfl⟩
      obtain ⟨d, hde⟩ : ∃ d, ds.getD k false = d := ⟨_, rfl⟩
      obtain ⟨ga, off, rfl, hva⟩ := (HV.out.keep HO.out.only) k HKX.out
      obtain ⟨gd, off2, rfl, hcd⟩ := (HD.out.keep HO.out.only) k HKD.out
      rw [hue] at hva
      rw [hde] at hcd
      have HST : Hid (keyL ((vs.map Vv.vl).take (k + 1)) (ds.take (k + 1)) = keyL ((vs.map Vv.vl).take k) (ds.take k) ++ kb u.vl d) := Lib.hid (by
        have h1 := HKX.out
        have h2 := HKD.out
        rw [keyL_take_succ (by rw [List.length_map]; exact h1) h2]
        congr 2
        · rw [← hue]; simp [h1]
        · rw [← hde]; simp [h2])
      have HUK : Hid (u.vl.okB = true) := Lib.hid (by
        have h1 := HKX.out
        refine List.all_eq_true.1 HOK.out u.vl (List.mem_map.2 ⟨u, ?_, rfl⟩)
        rw [← hue]
        simp [h1])
      obtain ⟨xs, hxs⟩ : ∃ xs, keyL ((vs.map Vv.vl).take k) (ds.take k) = xs := ⟨_, rfl⟩
      have HXL : Hid (xs.length ≤ 200000000) := Lib.hid (by
        rw [← hxs]
        have h1 := keyL_len ((vs.map Vv.vl).take k) (ds.take k) (by
          rw [List.all_eq_true]
          exact fun v hv => List.all_eq_true.1 HOK.out v (List.mem_of_mem_take hv))
        have h2 : ((vs.map Vv.vl).take k).length ≤ k := List.length_take_le _ _
        have := HN20.out
        omega)
      rw [hxs] at HO HST
      obtain ⟨K, N, S⟩ := u
      obtain ⟨y0, y1, y2, hu⟩ := hva
      have HU := Lib.hid hu
      obtain ⟨ys, hys⟩ : ∃ ys, kb (vl K N S) d = ys := ⟨_, rfl⟩
      have HYS := Lib.hid hys
      have HYL : Hid (1 ≤ ys.length ∧ ys.length ≤ 131) := Lib.hid (by rw [← hys, kb_len]; exact kb0_length HUK.out)
      have HST2 : Hid (keyL ((vs.map Vv.vl).take (k + 1)) (ds.take (k + 1)) = xs ++ ys) := Lib.hid (by rw [HST.out, ← hys])
      have HPC : Hid (∀ W, Own w W (Sep (OutB u5 xs) Emp) → Calls Tryd.prog 46 #[vlv K N S, .bool d] W fun e w' => ∃ g2 c2, e = .returned (.slice (some ⟨g2, 0, none⟩) ys.length c2) ∧ Own w w' (Sep (OutB u5 xs) (Sep (OutB (.slice (some ⟨g2, 0, none⟩) ys.length c2) ys) Emp))) := Lib.hid (fun W h => by
        refine (rpart w W K N S d _ h HU.out HUK.out).mono ?_
        rintro e w' ⟨v2, rfl, h2⟩
        rw [HYS.out] at h2
        obtain ⟨g2, c2, rfl, _, _⟩ := OutB.full h2 HYL.out.1
        exact ⟨g2, c2, rfl, h2.swap⟩)
      have hltI : (k : Int) < (m : Int) := by omega
      have hk0 : (0 : Int) ≤ (k : Int) := by omega
      clear hue hde hxs hu hys
      obtain ⟨nn, hnn⟩ : ∃ nn, nn = ys.length := ⟨_, rfl⟩
      have HNN := Lib.hid hnn
      rw [← hnn] at HPC
      clear hnn
      go_upto_region 5 with fail
      go_region_law (first
        | (go_simp; go_at_call 46; refine (HPC.out _ (by first | exact HO.out | exact HO.out.drew)).mono ?_; rintro e w4 ⟨g2, c2, rfl, h4⟩; have H4 := Lib.hid h4; clear h4)
        | (refine own_step2 (v := u5) (xs := xs) (J := Emp) (w0 := w) ys g2 c2 ?_ HYL.out.1 (by have := HYL.out.2; have := HXL.out; omega) rfl (.tmp 13) (.tmp 22) rfl ?_ ?_ ?_; (go_must (rw [← HNN.out]; first | exact H4.out | exact H4.out.drew)); (go_must (first | rfl | simp [Act.eval])); (go_must (rw [← HNN.out]; first | rfl | simp [Act.eval])); (go_must (intro g cap n2 w5 hn2 hown; have H5 := Lib.hid hown.out; clear hown))))
      all_goals
        have H6 := H5
        rw [← HST2.out] at H6
        have hmI : (m : Int) ≤ 1048576 := by have := HN20.out; omega
        clear H5 H4 y0 y1 y2 hcd HPC HO
        go_wp2
        go_roundw
        case rel => exact ⟨k + 1, HKM.out, by go_num, H6⟩
        case measure => have := HKM.out; simp [intOf]; omega
    · obtain rfl : k = m := by omega
      have hltI : ¬ (k : Int) < (k : Int) := by omega
      have hC := run_strC (own_slC HO.out)
      rw [List.take_of_length_le (by rw [List.length_map, ← HN.out]; exact Nat.le_refl _), List.take_of_length_le (by rw [← HM.out]; exact Nat.le_refl _), HRR.out] at hC
      go_wp2_with fail
      go_ret
      exact ⟨rfl, HO.out.only⟩

set_option maxHeartbeats 8000000 in
theorem rencode (lo dao : Option Addr) (n lc m dc : Nat) (vs : List Vv) (ds : List Bool) (w : World) (hv : SlV w lo vs) (hd : SlBo w dao ds) (hn : n = vs.length) (hm : m = ds.length) (hn20 : n ≤ 1048576) :
    Calls Tryd.prog 7 #[.slice lo n lc, .slice dao m dc] w fun e w' => EncPost (vs.map Vv.vl) ds w e w' := by
  have HV := Lib.hid hv
  have HD := Lib.hid hd
  have HN := Lib.hid hn
  have HM := Lib.hid hm
  have HN20 := Lib.hid hn20
  clear hv hd hn hm
  by_cases hnm : m = n
  · subst hnm
    have HLL : Hid ((vs.map Vv.vl).length = ds.length) := Lib.hid (by rw [List.length_map, ← HN.out, ← HM.out])
    have hmI : (m : Int) ≤ 1048576 := by omega
    go_enter Tryd.func7, Tryd.ntmps7
    go_wp2_with fail
    go_loopw [6] (fun i wr => ∃ (k : Nat), k ≤ m ∧ i = .int .i64 (k : Int) ∧ Hid ((vs.take k).all (fun v => v.vl.okB) = true) ∧ Hid (Only (fun _ => False) w wr)) (fun i _ => m - (intOf i).toNat)
    case atStart => exact ⟨0, Nat.zero_le _, rfl, Lib.hid rfl, Lib.hid (Only.refl _ _)⟩
    case round =>
      obtain ⟨k, hk, rfl, HA, HO⟩ := hrel
      by_cases hlt : k < m
      · have HKL : Hid (k < vs.length) := Lib.hid (by rw [← HN.out]; exact hlt)
        obtain ⟨g, off, rfl, hva⟩ := (HV.out.keep HO.out) k HKL.out
        obtain ⟨v, hve⟩ : ∃ v, vs.getD k default = v := ⟨_, rfl⟩
        rw [hve] at hva
        have HVE : Hid (vs[k]? = some v) := Lib.hid (by
          have := HKL.out
          rw [List.getElem?_eq_getElem this, ← hve]
          simp [this])
        obtain ⟨y0, y1, y2, hu⟩ := hva
        obtain ⟨B, hB⟩ : ∃ B, v.vl.okB = B := ⟨_, rfl⟩
        have HBV := Lib.hid hB
        have HVL : Hid (Calls Tryd.prog 25 #[vlv v.K v.N v.S] wr fun e w' => e = .returned (.bool B) ∧ Below wr.heap.size wr w') := Lib.hid (by
          have h := rvalid_any (K := v.K) (s := v.S) hu wr
          rw [show (vl v.K v.N v.S) = v.vl from rfl, hB] at h
          exact h)
        have hltI : (k : Int) < (m : Int) := by omega
        clear hve hu hB
        go_wp2_with fail
        refine HVL.out.mono ?_
        rintro e w4 ⟨rfl, hb4⟩
        have H4 := Lib.hid (HO.out.trans (below_quiet hb4) (fun _ _ h => h))
        clear hb4 HVL y0 y1 y2
        cases B with
        | false =>
          have HE : Hid (([], 8) = encE (vs.map Vv.vl) ds) := Lib.hid (by
            unfold encE
            rw [if_neg (by simpa using HLL.out), if_pos]
            rw [List.all_eq_false]
            exact ⟨v.vl, List.mem_map.2 ⟨v, List.mem_of_getElem? HVE.out, rfl⟩, by rw [HBV.out]; simp⟩)
          go_wp2_with fail
          go_ret2
          exact enc_none HE.out H4.out
        | true =>
          go_wp2_with fail
          go_roundw
          case rel => exact ⟨k + 1, by omega, by go_num, Lib.hid (by rw [List.take_add_one, HVE.out, List.all_append, HA.out]; simp [HBV.out]), H4⟩
          case measure => simp [intOf]; omega
      · obtain rfl : k = m := by omega
        have HOK : Hid ((vs.map Vv.vl).all Vl.okB = true) := Lib.hid (by
          have := HA.out
          rw [List.take_of_length_le (by rw [HN.out]; exact Nat.le_refl _)] at this
          rw [List.all_map]
          exact this)
        have hltI : ¬ (k : Int) < (k : Int) := by omega
        clear HA
        go_wp2_with fail
        refine (rkey lo dao k lc k dc vs ds wr (HV.out.keep HO.out) (HD.out.keep HO.out) HN.out HM.out rfl hn20 HOK.out).mono ?_
        rintro e w5 ⟨rfl, ho5⟩
        have HO5 := Lib.hid (HO.out.trans ho5 (fun _ _ h => h))
        have HS : Hid ((⟨(keyL (vs.map Vv.vl) ds).toArray⟩ : ByteArray).size = (keyL (vs.map Vv.vl) ds).length) := Lib.hid (by rw [← ba_size, ba_mk1])
        have HEN : Hid (∀ h : (keyL (vs.map Vv.vl) ds).length ≤ 256, encE (vs.map Vv.vl) ds = (keyL (vs.map Vv.vl) ds, 0)) := Lib.hid (fun h => encE_of HLL.out HOK.out h)
        have HEL : Hid (256 < (keyL (vs.map Vv.vl) ds).length → encE (vs.map Vv.vl) ds = ([], 7)) := Lib.hid (fun h => by
          unfold encE
          rw [if_neg (by simpa using HLL.out), if_neg (by simp [HOK.out]), if_pos h])
        obtain ⟨R, hR⟩ : ∃ R, R = keyL (vs.map Vv.vl) ds := ⟨_, rfl⟩
        rw [← hR] at HS HEN HEL ⊢
        clear ho5 HO hR
        obtain ⟨r, hr⟩ : ∃ r : ByteArray, (⟨R.toArray⟩ : ByteArray) = r := ⟨_, rfl⟩
        rw [hr] at HS ⊢
        have HRR := Lib.hid hr
        clear hr
        by_cases h256 : (256 : Int) < (r.size : Int)
        · have HE : Hid (([], 7) = encE (vs.map Vv.vl) ds) := Lib.hid (HEL.out (by rw [← HS.out]; omega)).symm
          go_wp2_with fail
          go_ret2
          exact enc_none HE.out HO5.out
        · have HE : Hid ((R, (0 : Int)) = encE (vs.map Vv.vl) ds) := Lib.hid (HEN.out (by rw [← HS.out]; omega)).symm
          go_wp2_with fail
          go_ret2
          exact ⟨R, 0, by rw [HRR.out]; rfl, HE.out, HO5.out⟩
  · have HE : Hid (([], 1) = encE (vs.map Vv.vl) ds) := Lib.hid (by unfold encE; rw [if_pos (by rw [List.length_map, ← HN.out, ← HM.out]; omega)])
    have hne : ((n : Int) != (m : Int)) = true := by simp; omega
    go_enter Tryd.func7, Tryd.ntmps7
    go_wp2
    go_ret2
    exact enc_none HE.out (Only.refl _ _)

end Go.Proofs.YtlmpknhekoeecaaDoor
