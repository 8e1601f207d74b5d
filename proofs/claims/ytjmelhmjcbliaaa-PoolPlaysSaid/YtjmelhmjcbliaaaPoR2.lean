/-
  The reference's pool: a place is taken out.
-/
import Derived.Test.YtjmelhmjcbliaaaPoR1
import Derived.BigQuiet
import Derived.Deep.QuietTactic
namespace Go.Proofs.Ytjmelhmjcbliaaa
open Go Go.RowKit
set_option linter.unusedVariables false
set_option linter.unusedSimpArgs false
set_option maxRecDepth 100000

theorem elRb : ElT Rb 31 74 56 := by
  obtain ⟨i, h1, h2, h3, h4⟩ := info_parts (show (Try.prog.info? 74).map (fun i => (i.zero, i.size, i.bytes)) = some (some (.agg #[.int .u64 0, .slice none 0 0, .bool false, .int .i64 0, .bool false]), 5, 56) by kernel_rfl)
  exact ⟨Try.underlying31, i, _, h1, h2, h3, h4, rfl⟩
/-- What is kept of the first k places. -/
def keepR (R : List Rb) (i k : Nat) : List Rb := (R.take k).eraseIdx i
theorem keepR_same {R : List Rb} {i : Nat} (hi : i < R.length) : keepR R i (i + 1) = keepR R i i := by
  unfold keepR
  rw [List.take_add_one, List.getElem?_eq_getElem hi]
  have hl : (R.take i).length = i := by rw [List.length_take]; omega
  rw [List.eraseIdx_append_of_length_le (by omega), hl, Nat.sub_self, List.eraseIdx_of_length_le (by omega : (R.take i).length ≤ i)]
  simp
theorem keepR_next {R : List Rb} {i k : Nat} (hk : k < R.length) (h : k ≠ i) : keepR R i (k + 1) = keepR R i k ++ [R.getD k default] := by
  unfold keepR
  rw [List.take_add_one, List.getElem?_eq_getElem hk]
  have hl : (R.take k).length = k := by rw [List.length_take]; omega
  have e : R.getD k default = R[k] := by rw [List.getD_eq_getElem?_getD, List.getElem?_eq_getElem hk]; rfl
  rw [e]
  by_cases hlt : i < k
  · rw [List.eraseIdx_append_of_lt_length (by omega)]
    rfl
  · rw [List.eraseIdx_of_length_le (by rw [List.length_append, hl]; simp; omega), List.eraseIdx_of_length_le (by omega : (R.take k).length ≤ i)]
    rfl
theorem keepR_len (R : List Rb) (i k : Nat) : (keepR R i k).length ≤ k := by
  unfold keepR
  rw [List.length_eraseIdx]
  have : (R.take k).length ≤ k := by rw [List.length_take]; omega
  split <;> omega
theorem Own.shutROut {w0 w : World} {p bb : Nat} {ao : Option Addr} {m c : Nat} {R : List Rb} {st : Po} {J : Res} {i : Nat} {H : Nat} (hk : R.map (·.v) = st.L) (hm : (R.eraseIdx i).length = m) (hH : H = outH st.L.length st.hand i)
    (h : Own w0 w (Sep (Blk p (.cells #[ptr bb, .int .i64 (st.most : Int), .slice ao m c, .int .i64 (H : Int)] 33)) (Sep (RowG 74 (.slice ao m c) (R.eraseIdx i)) (Sep (Fix (RbsOk R)) (Sep (BkR bb st.bk) J))))) : Own w0 w (Sep (RpR p bb (R.eraseIdx i) (st.out i)) J) := by
  subst hm hH
  have hk2 : (R.eraseIdx i).map (·.v) = (st.out i).L := by rw [map_eraseIdx, hk]; rfl
  refine Own.shutRp (ro := ao) (rc := c) hk2 ?_
  have h2 := (h.ac (by ac_rfl : _ = Sep (Fix (RbsOk R)) (Sep (Blk p (.cells #[ptr bb, .int .i64 (st.most : Int), .slice ao (R.eraseIdx i).length c, .int .i64 (outH st.L.length st.hand i : Int)] 33)) (Sep (RowG 74 (.slice ao (R.eraseIdx i).length c) (R.eraseIdx i)) (Sep (BkR bb st.bk) J))))).fixI (Q := RbsOk (R.eraseIdx i)) (fun W hW x hx => hW x (List.mem_of_mem_eraseIdx hx))
  exact h2.ac (by ac_rfl)
theorem outH_yes {n hd i : Nat} (hi : i < n) (hh : hd = 0 ∨ hd < n) (h : i < hd) : outH n hd i = if n - 1 ≤ hd - 1 then 0 else hd - 1 := by
  unfold outH
  rw [if_pos h]
  by_cases e : hd - 1 = n - 1
  · rw [if_pos e, if_pos (by omega)]
  · rw [if_neg e, if_neg (by omega)]
theorem outH_no {n hd i : Nat} (hi : i < n) (hh : hd = 0 ∨ hd < n) (h : ¬ i < hd) : outH n hd i = if n - 1 ≤ hd then 0 else hd := by
  unfold outH
  rw [if_neg h]
  by_cases e : hd = n - 1
  · rw [if_pos e, if_pos (by omega)]
  · rw [if_neg e, if_neg (by omega)]
set_option maxHeartbeats 8000000 in
theorem rpout_any {w0 w : World} {p bb : Nat} {R : List Rb} {st : Po} {J : Res} [Stab J] (h : Own w0 w (Sep (RpR p bb R st) J)) (i : Nat) (hi : i < R.length) (hl : R.length ≤ 1000000000) (hh : st.hand = 0 ∨ st.hand < st.L.length) :
    Calls Try.prog 43 #[ptr p, .int .i64 (i : Int)] w (fun e w' => e = .returned (.tuple #[]) ∧ Own w0 w' (Sep (RpR p bb (R.eraseIdx i) (st.out i)) J)) := by
  obtain ⟨ro, rc, hk, hO⟩ := h.openRp
  have HK := Lib.hid hk
  obtain ⟨n, hn⟩ : ∃ n, R.length = n := ⟨_, rfl⟩
  have HN := Lib.hid hn
  have HH := Lib.hid hh
  have HLS := Lib.hid (rb_len hk)
  obtain ⟨hd, hhd⟩ : ∃ x, st.hand = x := ⟨_, rfl⟩
  have HHD := Lib.hid hhd
  have HI := Lib.hid hi
  have H0 : Hid (Own w0 w (Sep (RowG 74 (.slice none 0 0) ([] : List Rb)) (Sep (RowG 74 (.slice ro R.length rc) R) (Sep (Blk p (.cells (rpc bb ro rc R st) 33)) (Sep (Fix (RbsOk R)) (Sep (BkR bb st.bk) J)))))) := Lib.hid ((hO.swap).rnil (α := Rb) 74)
  rw [hn] at hi hl
  clear h hk hO hn hh hhd
  go_enter Try.func43, Try.ntmps43
  go_upto_block 0 with fail
  go_cut [4, 5] (fun rv _ wx => ∃ (ao : Option Addr) (m c : Nat), rv = .slice ao m c ∧ Hid ((R.eraseIdx i).length = m ∧ Own w0 wx (Sep (RowG 74 (.slice ao m c) (R.eraseIdx i)) (Sep (RowG 74 (.slice ro R.length rc) R) (Sep (Blk p (.cells (rpc bb ro rc R st) 33)) (Sep (Fix (RbsOk R)) (Sep (BkR bb st.bk) J)))))))
  case first =>
    go_wp2_with fail
    go_loopw [4, 5] (fun rv v wr => ∃ (k : Nat) (ao : Option Addr) (m c : Nat), k ≤ n ∧ v = .int .i64 (k : Int) ∧ rv = .slice ao m c ∧ Hid ((keepR R i k).length = m ∧ Own w0 wr (Sep (RowG 74 (.slice ao m c) (keepR R i k)) (Sep (RowG 74 (.slice ro R.length rc) R) (Sep (Blk p (.cells (rpc bb ro rc R st) 33)) (Sep (Fix (RbsOk R)) (Sep (BkR bb st.bk) J))))))) (fun _ v _ => n - (intOf v).toNat)
    case atStart => exact ⟨0, none, 0, 0, Nat.zero_le _, rfl, rfl, Lib.hid ⟨rfl, H0.out⟩⟩
    case round =>
      clear H0
      obtain ⟨k, ao, m, c, hkn, rfl, rfl, HX⟩ := hrel
      have hb := HX.out.2.snd.snd
      unfold rpc at hb
      have c2 := hb.blk4c.1.2.2.1
      rw [HN.out] at c2
      have hmk : m ≤ k := by rw [← HX.out.1]; exact keepR_len R i k
      clear hb
      by_cases hlt : k < n
      · have hltI : (k : Int) < (n : Int) := by omega
        have hk0 : (0 : Int) ≤ (k : Int) := by omega
        by_cases hki : k = i
        · have HKE := Lib.hid hki
          subst hki
          have HNX := Lib.hid (keepR_same HI.out)
          go_wp2_with fail
          go_roundw
          case rel => exact ⟨k + 1, ao, m, c, by omega, by go_num, rfl, by rw [HNX.out]; exact HX⟩
          case measure => simp [intOf]; omega
        · have hkiI : ¬ (k : Int) = (i : Int) := by omega
          have HNX := Lib.hid (keepR_next (R := R) (i := i) (by rw [HN.out]; exact hlt) hki)
          obtain ⟨g, rfl, r0, r1, r2, r3, r4⟩ := HX.out.2.snd.rbCell (j := k) (by rw [HN.out]; exact hlt)
          obtain ⟨x, hx⟩ : ∃ x, R.getD k default = x := ⟨_, rfl⟩
          rw [hx] at r0 r1 r2 r3 r4 HNX
          obtain ⟨xo, xc, xv⟩ := x
          obtain ⟨xi, xb, xd, xp, xu⟩ := xv
          dsimp only at r0 r1 r2 r3 r4
          obtain ⟨bl, hbl⟩ : ∃ l, xb.length = l := ⟨_, rfl⟩
          rw [hbl] at r1
          have HBL := Lib.hid hbl
          have HML := Lib.hid HX.out.1
          have HO := Lib.hid HX.out.2
          clear hx hbl HX
          go_wp2_with (at_builtin; refine own_appendG elRb HO.out ⟨xo, xc, ⟨xi, xb, xd, xp, xu⟩⟩ 1 (by rw [HML.out]; omega) (by rw [HML.out]; omega) rfl _ _ rfl (by first | rfl | simp [Act.eval]) #[.int .u64 xi, .slice xo bl xc, .bool xd, .int .i64 (xp : Int), .bool xu] (by rw [← HBL.out]; rfl) (by first | rfl | simp [Act.eval]) ?_)
          intro g3 cap3 n3 w8 hn3 hown
          have hm3 : n3 = m + 1 := by have h1 := hn3.out; rw [← HML.out]; (try simp only [List.length_append, List.length_singleton] at h1); omega
          rw [← HNX.out] at hown
          have HO2 := Lib.hid hown.out
          have HM3 := Lib.hid hm3
          clear hn3 hown HO hm3 r0 r1 r2 r3 r4 c2
          go_wp2_with fail
          go_roundw
          case rel => exact ⟨k + 1, some ⟨g3, 0, none⟩, n3, cap3, by omega, by go_num, rfl, Lib.hid ⟨by rw [HNX.out, List.length_append, HML.out, HM3.out]; rfl, HO2.out⟩⟩
          case measure => simp [intOf]; omega
      · obtain rfl : k = n := by omega
        have hf : keepR R i k = R.eraseIdx i := by unfold keepR; rw [← HN.out, List.take_length]
        rw [hf] at HX
        go_wp2_with fail
        go_meet
        exact ⟨ao, m, c, rfl, HX⟩
  case rest =>
    clear H0
    obtain ⟨ao, m, c, rfl, HX⟩ := hcut
    obtain ⟨w5, hw5⟩ : ∃ W, W = wc := ⟨wc, rfl⟩
    subst hw5
    have HMN : Hid (m + 1 = n) := Lib.hid (by rw [← HX.out.1, List.length_eraseIdx_of_lt HI.out, HN.out]; omega)
    have HM := Lib.hid HX.out.1
    have ho5 : Own w0 w5 (Sep (Blk p (.cells #[ptr bb, .int .i64 (st.most : Int), .slice ro n rc, .int .i64 (hd : Int)] 33)) (Sep (RowG 74 (.slice ao m c) (R.eraseIdx i)) (Sep (Fix (RbsOk R)) (Sep (BkR bb st.bk) J)))) := by
      have h1 := HX.out.2.swap.snd
      unfold rpc at h1
      rw [HN.out, HHD.out] at h1
      exact h1.swap
    obtain ⟨⟨c0, c1, c2, c3⟩, f0, f1, f2, f3⟩ := ho5.blk4c
    have HO5 := Lib.hid ho5
    have hhb : hd = 0 ∨ hd < n := by have h1 := HH.out; rw [HHD.out, ← HLS.out, HN.out] at h1; exact h1
    have hmn := HMN.out
    clear HX ho5
    go_upto_region 7 with fail
    have HO6 : Hid (Own w0 _ (Sep (Blk p (.cells #[ptr bb, .int .i64 (st.most : Int), .slice ao m c, .int .i64 (hd : Int)] 33)) (Sep (RowG 74 (.slice ao m c) (R.eraseIdx i)) (Sep (Fix (RbsOk R)) (Sep (BkR bb st.bk) J))))) := Lib.hid (HO5.out.store 2 (.slice ao m c))
    generalize World.setCell w5 _ _ = w6 at *
    clear HO5 c0 c1 c2 c3 f0 f1 f2 f3
    obtain ⟨⟨c0, c1, c2, c3⟩, f0, f1, f2, f3⟩ := HO6.out.blk4c
    by_cases hih : i < hd
    · have hihI : (i : Int) < (hd : Int) := by omega
      have hw : wrap64 ((hd : Int) - 1) = ((hd - 1 : Nat) : Int) := by
        rw [IntWalk.wrap64_in _ ⟨by omega, by omega⟩]
        omega
      obtain ⟨h2, hh2⟩ : ∃ x, hd - 1 = x := ⟨_, rfl⟩
      rw [hh2] at hw
      have HH2 := Lib.hid hh2
      go_upto_region 9 with fail
      have HO7 : Hid (Own w0 _ (Sep (Blk p (.cells #[ptr bb, .int .i64 (st.most : Int), .slice ao m c, .int .i64 (h2 : Int)] 33)) (Sep (RowG 74 (.slice ao m c) (R.eraseIdx i)) (Sep (Fix (RbsOk R)) (Sep (BkR bb st.bk) J))))) := Lib.hid (HO6.out.store 3 (.int .i64 (h2 : Int)))
      rw [show ((hd : Int) - 1) = (h2 : Int) by omega]
      generalize World.setCell w6 _ _ = w7 at *
      clear HO6 c0 c1 c2 c3 f0 f1 f2 f3
      obtain ⟨⟨c0, c1, c2, c3⟩, f0, f1, f2, f3⟩ := HO7.out.blk4c
      by_cases hq : m ≤ h2
      · have hqI : (m : Int) ≤ (h2 : Int) := by omega
        have HE : Hid (0 = outH st.L.length st.hand i) := Lib.hid (by rw [HHD.out, ← HLS.out, HN.out, outH_yes hi hhb hih, if_pos (by omega)])
        clear hq
        go_quiet (fail)
        have HO8 := Lib.hid (HO7.out.drewN nq)
        clear c0 c1 c2 c3 f0 f1 f2 f3
        generalize World.drewN w7 _ = w8 at *
        obtain ⟨⟨c0, c1, c2, c3⟩, f0, f1, f2, f3⟩ := HO8.out.blk4c
        clear hw hh2 hqI hihI hih hhb hmn HO7
        go_wp2_with fail
        (first | go_end0 | refine ⟨rfl, _, results_none rfl _ _ _, ?_⟩)
        exact ⟨rfl, Own.shutROut HK.out HM.out HE.out (HO8.out.store 3 (.int .i64 0))⟩
      · have hqI : ¬ (m : Int) ≤ (h2 : Int) := by omega
        have HE : Hid (h2 = outH st.L.length st.hand i) := Lib.hid (by rw [HHD.out, ← HLS.out, HN.out, outH_yes hi hhb hih, if_neg (by omega)]; omega)
        clear hq
        go_quiet (fail)
        go_wp2_with fail
        (first | go_end0 | refine ⟨rfl, _, results_none rfl _ _ _, ?_⟩)
        exact ⟨rfl, Own.shutROut HK.out HM.out HE.out (HO7.out.drewN _)⟩
    · have hihI : ¬ (i : Int) < (hd : Int) := by omega
      by_cases hq : m ≤ hd
      · have hqI : (m : Int) ≤ (hd : Int) := by omega
        have HE : Hid (0 = outH st.L.length st.hand i) := Lib.hid (by rw [HHD.out, ← HLS.out, HN.out, outH_no hi hhb hih, if_pos (by omega)])
        clear hq
        go_wp2_with fail
        go_quiet (fail)
        go_wp2_with fail
        (first | go_end0 | refine ⟨rfl, _, results_none rfl _ _ _, ?_⟩)
        exact ⟨rfl, Own.shutROut HK.out HM.out HE.out ((HO6.out.drewN _).store 3 (.int .i64 0))⟩
      · have hqI : ¬ (m : Int) ≤ (hd : Int) := by omega
        have HE : Hid (hd = outH st.L.length st.hand i) := Lib.hid (by rw [HHD.out, ← HLS.out, HN.out, outH_no hi hhb hih, if_neg (by omega)])
        clear hq
        go_wp2_with fail
        go_quiet (fail)
        go_wp2_with fail
        (first | go_end0 | refine ⟨rfl, _, results_none rfl _ _ _, ?_⟩)
        exact ⟨rfl, Own.shutROut HK.out HM.out HE.out (HO6.out.drewN _)⟩

end Go.Proofs.Ytjmelhmjcbliaaa
