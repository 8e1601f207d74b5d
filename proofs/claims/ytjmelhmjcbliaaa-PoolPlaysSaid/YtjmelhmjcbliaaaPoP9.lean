/-
  Package pool: Pin, Unpin, Evict, Clean, Len, New.
-/
import Derived.Test.YtjmelhmjcbliaaaPoP8
namespace Go.Proofs.Ytjmelhmjcbliaaa
open Go Go.RowKit
set_option linter.unusedVariables false
set_option linter.unusedSimpArgs false
set_option maxRecDepth 100000

theorem find_pins {st : Po} {id : Int} {B : Nat} (h : ∀ x ∈ st.L, x.p ≤ B) : ∀ x ∈ (st.find id).1.L, x.p ≤ B := by
  cases hx : st.ix id with
  | some i => rw [find_some hx]; exact h
  | none =>
    cases h2 : (st.bk.load id).2 with
    | none => rw [find_bad hx h2]; exact h
    | some b =>
      rw [find_come hx h2]
      intro x hx
      rcases List.mem_append.1 hx with hx | hx
      · exact h x hx
      · simp only [List.mem_singleton] at hx
        subst hx
        exact Nat.zero_le _
theorem pl_mem {st : Po} {i : Nat} (h : i < st.L.length) : st.pl i ∈ st.L := getD_mem h _
def PinPost (w0 w' : World) (p bb : Nat) (st : Po) (id : Int) (J : Res) (e : Ending) : Prop :=
  ∃ L' Z', e = .returned (.int .i64 (if (st.pin id).2 then 0 else 2)) ∧ Own w0 w' (Sep (PoR p bb L' Z' (st.pin id).1) J)
set_option maxHeartbeats 4000000 in
theorem ppin_any {w0 w : World} {p bb : Nat} {L Z : List Pb} {st : Po} {J : Res} [Stab J] (h : Own w0 w (Sep (PoR p bb L Z st) J)) (id : Int) (h0 : 0 ≤ id) (h1 : id < 18446744073709551616) (hB : PoB st) (hP : ∀ x ∈ st.L, x.p ≤ 1000000000) :
    Calls Try.prog 19 #[ptr p, .int .u64 id] w (fun e w' => PinPost w0 w' p bb st id J e) := by
  have HB := Lib.hid hB
  have HP := Lib.hid (find_pins (id := id) hP)
  have hlL : L.length = st.L.length := by
    obtain ⟨D, hm⟩ := h.poM
    exact hm.len
  have hfind := pfind_any h id h0 h1 (by have := hB.q; omega) (by have := hB.q; omega) (by have := hB.b; omega)
  have HF := Lib.hid hfind
  clear h h0 h1 hB hlL hfind hP
  go_enter Try.func19, Try.ntmps19
  go_wp2_with fail
  refine HF.out.mono ?_
  rintro e w1 ⟨L1, hkp, hor, hown⟩
  have HFL := Lib.hid (Po.find_len st id)
  clear HF
  rcases hor with ⟨i, hi, hil, rfl⟩ | ⟨hi, rfl⟩
  · have HG := Lib.hid (pin_some hi)
    obtain ⟨mb, ro, rc, D, hm, hs, h4⟩ := hown.openPl hil
    have HM := Lib.hid hm
    have HSH := Lib.hid hs
    have HIL := Lib.hid hil
    obtain ⟨x, hx⟩ : ∃ x, L1.getD i default = x := ⟨_, rfl⟩
    have hpl : (st.find id).1.pl i = x.v := by rw [hm.pl i, hx]
    have hpp : x.v.p ≤ 1000000000 := by rw [← hpl]; exact HP.out _ (pl_mem (by rw [← hm.len]; exact hil))
    have HPL := Lib.hid hpl
    rw [hx] at h4 ⊢
    have HX := Lib.hid hx
    have HLEN := Lib.hid hm.len
    obtain ⟨xk, xo, xc, xv⟩ := x
    obtain ⟨xi, xb, xd, xp, xu⟩ := xv
    unfold PlB plc at h4
    dsimp only at h4 hpp
    have hw : wrap64 ((xp : Int) + 1) = (xp : Int) + 1 := IntWalk.wrap64_in _ ⟨by omega, by omega⟩
    have HO := Lib.hid h4
    obtain ⟨⟨d0, d1, d2, d3, d4⟩, q0, q1, q2, q3, q4⟩ := h4.blk5c
    clear hkp hown hi hm hs h4 hx hil hpl
    dsimp only
    go_upto_region 5 with fail
    have HO2 := Lib.hid (HO.out.store 4 (.bool true))
    generalize World.setCell w1 _ _ = w2 at *
    clear HO d0 d1 d2 d3 d4 q0 q1 q2 q3 q4
    obtain ⟨⟨d0, d1, d2, d3, d4⟩, q0, q1, q2, q3, q4⟩ := Own.blk5c (a0 := .int .u64 xi) (a1 := .slice xo xb.length xc) (a2 := .bool xd) (a3 := .int .i64 (xp : Int)) (a4 := .bool true) HO2.out
    go_upto_region 6 with fail
    have HO3 : Hid (Own w0 _ (Sep (Blk xk (.cells #[.int .u64 xi, .slice xo xb.length xc, .bool xd, .int .i64 ((xp : Int) + 1), .bool true] 71)) _)) := Lib.hid (HO2.out.store 3 (.int .i64 ((xp : Int) + 1)))
    generalize World.setCell w2 _ _ = w3 at *
    clear HO2 d0 d1 d2 d3 d4 q0 q1 q2 q3 q4
    have h5 := Own.turnPl (J := J) (Z := Z) (mb := mb) (p := p) (bb := bb) (P := BytesOk (L1 ++ Z)) (x := ⟨xk, xo, xc, ⟨xi, xb, xd, xp + 1, true⟩⟩) HM.out HSH.out HIL.out (by rw [HX.out]) (by rw [HX.out]) (fun w hw => hw.same (i := i) (x := ⟨xk, xo, xc, ⟨xi, xb, xd, xp, xu⟩⟩) (by rw [List.length_append]; have := HIL.out; omega) (by rw [getD_left HIL.out]; exact HX.out) xd (xp + 1) true) (by unfold PlB plc; dsimp only; rw [show (((xp + 1 : Nat)) : Int) = (xp : Int) + 1 by push_cast; rfl]; exact HO3.out)
    have hl1 : (L1.set i ⟨xk, xo, xc, ⟨xi, xb, xd, xp + 1, true⟩⟩).length ≤ st.L.length + 1 := by
      rw [List.length_set, HLEN.out]
      exact HFL.out.2.2.1
    have hroom := proom_any h5 (by
      show (st.find id).1.bk.asked.length + _ ≤ _
      have h6 := HFL.out.1
      have h7 := HB.out.q
      omega) (by
      show (st.find id).1.bk.ids.length + _ ≤ _
      have h6 := HFL.out.2.1
      have h7 := HB.out.b
      omega)
    have HRM := Lib.hid hroom
    clear HO3 h5 hl1 hroom hw hpp
    go_wp2_with fail
    refine HRM.out.mono ?_
    rintro e w4 ⟨L3, Z3, hkp, rfl, hown⟩
    have HO4 := Lib.hid hown
    clear HRM hkp hown
    go_wp2_with fail
    go_ret
    refine ⟨L3, Z3, by rw [HG.out]; rfl, ?_⟩
    rw [HG.out]
    show Own w0 w4 (Sep (PoR p bb L3 Z3 ((st.find id).1.turn i { (st.find id).1.pl i with u := true, p := ((st.find id).1.pl i).p + 1 }).room) J)
    rw [HPL.out]
    exact HO4.out
  · have HG := Lib.hid (pin_none hi)
    have HO := Lib.hid hown
    clear hkp hown hi
    go_wp2_with fail
    go_ret
    refine ⟨L1, Z, by rw [HG.out]; rfl, ?_⟩
    rw [HG.out]
    exact HO.out
theorem unpin_none {st : Po} {id : Int} (h : st.ix id = none) : st.unpin id = (st, false) := by unfold Po.unpin; rw [h]
theorem unpin_zero {st : Po} {id : Int} {i : Nat} (h : st.ix id = some i) (h2 : (st.pl i).p = 0) : st.unpin id = (st, false) := by unfold Po.unpin; rw [h]; dsimp only; rw [if_pos h2]
theorem unpin_some {st : Po} {id : Int} {i : Nat} (h : st.ix id = some i) (h2 : (st.pl i).p ≠ 0) : st.unpin id = ((st.turn i { st.pl i with p := (st.pl i).p - 1 }).room, true) := by unfold Po.unpin; rw [h]; dsimp only; rw [if_neg h2]
def UnpinPost (w0 w' : World) (p bb : Nat) (st : Po) (id : Int) (J : Res) (e : Ending) : Prop :=
  ∃ L' Z', e = .returned (.int .i64 (if (st.unpin id).2 then 0 else 5)) ∧ Own w0 w' (Sep (PoR p bb L' Z' (st.unpin id).1) J)
set_option maxHeartbeats 4000000 in
theorem punpin_any {w0 w : World} {p bb : Nat} {L Z : List Pb} {st : Po} {J : Res} [Stab J] (h : Own w0 w (Sep (PoR p bb L Z st) J)) (id : Int) (h0 : 0 ≤ id) (h1 : id < 18446744073709551616) (hB : PoB st) (hP : ∀ x ∈ st.L, x.p ≤ 1000000000) :
    Calls Try.prog 20 #[ptr p, .int .u64 id] w (fun e w' => UnpinPost w0 w' p bb st id J e) := by
  have HB := Lib.hid hB
  have HS := Lib.hid h
  have HR := Lib.hid (⟨h0, h1⟩ : 0 ≤ id ∧ id < 18446744073709551616)
  cases hix : st.ix id with
  | some i =>
    obtain ⟨D0, hm0⟩ := h.poM
    obtain ⟨_, _, hil⟩ := hm0.look_some h0 h1 hix
    obtain ⟨mb, ro, rc, D, hm, hs, h4⟩ := h.openPl hil
    obtain ⟨l1, l2, _⟩ := hm.look_some h0 h1 hix
    obtain ⟨x, hx⟩ : ∃ x, L.getD i default = x := ⟨_, rfl⟩
    have hpl : st.pl i = x.v := by rw [hm.pl i, hx]
    have hpp : x.v.p ≤ 1000000000 := by rw [← hpl]; exact hP _ (pl_mem (by rw [← hm.len]; exact hil))
    have HPL := Lib.hid hpl
    rw [hx] at h4 l1
    have HX := Lib.hid hx
    have HLEN := Lib.hid hm.len
    have HM := Lib.hid hm
    have HSH := Lib.hid hs
    have HIL := Lib.hid hil
    have HIX := Lib.hid hix
    obtain ⟨xk, xo, xc, xv⟩ := x
    obtain ⟨xi, xb, xd, xp, xu⟩ := xv
    unfold PlB plc at h4
    dsimp only at h4 hpp l1
    have HL1 := Lib.hid l1
    have HL2 := Lib.hid l2
    have HMP := Lib.hid h4.snd.snd.snd.snd.map
    have e3 := h4.snd.snd.blk5c.1.2.2.2.1
    have HO := Lib.hid h4
    obtain ⟨⟨d0, d1, d2, d3, d4⟩, q0, q1, q2, q3, q4⟩ := h4.blk5c
    clear h h0 h1 hB hP hix hm0 hm hs h4 hx hil hpl l1 l2
    by_cases hz : xp = 0
    · subst hz
      have HG := Lib.hid (unpin_zero HIX.out (by rw [HPL.out]))
      go_enter Try.func20, Try.ntmps20
      go_wp2_with (at_lookup; refine look_pl rfl _ _ rfl mb D rfl HMP.out id rfl HR.out.1 HR.out.2 (ptr xk) true HL1.out HL2.out ?_)
      go_ret
      refine ⟨L, Z, by rw [HG.out]; rfl, ?_⟩
      rw [HG.out]
      exact HS.out
    · have HG := Lib.hid (unpin_some HIX.out (by rw [HPL.out]; exact hz))
      have hzd : ((xp : Int) == 0) = false := by simpa using hz
      have hw : wrap64 ((xp : Int) - 1) = (xp : Int) - 1 := IntWalk.wrap64_in _ ⟨by omega, by omega⟩
      have hpz : ((xp - 1 : Nat) : Int) = (xp : Int) - 1 := by omega
      have HPZ := Lib.hid hpz
      clear hz hpz
      go_enter Try.func20, Try.ntmps20
      go_upto_region 7 with (at_lookup; refine look_pl rfl _ _ rfl mb D rfl HMP.out id rfl HR.out.1 HR.out.2 (ptr xk) true HL1.out HL2.out ?_)
      have HO3 : Hid (Own w0 _ (Sep (Blk xk (.cells #[.int .u64 xi, .slice xo xb.length xc, .bool xd, .int .i64 ((xp : Int) - 1), .bool xu] 71)) _)) := Lib.hid (HO.out.store 3 (.int .i64 ((xp : Int) - 1)))
      generalize World.setCell w _ _ = w3 at *
      clear HO d0 d1 d2 d3 d4 q0 q1 q2 q3 q4 e3
      have h5 := Own.turnPl (J := J) (Z := Z) (mb := mb) (p := p) (bb := bb) (P := BytesOk (L ++ Z)) (x := ⟨xk, xo, xc, ⟨xi, xb, xd, xp - 1, xu⟩⟩) HM.out HSH.out HIL.out (by rw [HX.out]) (by rw [HX.out]) (fun w hw => hw.same (i := i) (x := ⟨xk, xo, xc, ⟨xi, xb, xd, xp, xu⟩⟩) (by rw [List.length_append]; have := HIL.out; omega) (by rw [getD_left HIL.out]; exact HX.out) xd (xp - 1) xu) (by unfold PlB plc; dsimp only; rw [HPZ.out]; exact HO3.out)
      have hroom := proom_any h5 (by
        show st.bk.asked.length + _ ≤ _
        rw [List.length_set, HLEN.out]
        have h7 := HB.out.q
        omega) (by
        show st.bk.ids.length + _ ≤ _
        rw [List.length_set, HLEN.out]
        have h7 := HB.out.b
        omega)
      have HRM := Lib.hid hroom
      clear HO3 h5 hroom hw hpp hzd
      go_wp2_with fail
      refine HRM.out.mono ?_
      rintro e w4 ⟨L3, Z3, hkp, rfl, hown⟩
      have HO4 := Lib.hid hown
      clear HRM hkp hown
      go_wp2_with fail
      go_ret
      refine ⟨L3, Z3, by rw [HG.out]; rfl, ?_⟩
      rw [HG.out]
      show Own w0 w4 (Sep (PoR p bb L3 Z3 (st.turn i { st.pl i with p := (st.pl i).p - 1 }).room) J)
      rw [HPL.out]
      exact HO4.out
  | none =>
    obtain ⟨mb, ro, rc, D, hm, hs, h4⟩ := h.openPo
    obtain ⟨l1, l2⟩ := hm.look_none h0 h1 hix
    have HG := Lib.hid (unpin_none hix)
    have HL1 := Lib.hid l1
    have HL2 := Lib.hid l2
    unfold poc at h4
    have HMP := Lib.hid h4.snd.snd.map
    have e3 := h4.blk5c.1.2.2.2.1
    clear h h0 h1 hB hP hix hm hs h4 l1 l2
    go_enter Try.func20, Try.ntmps20
    go_wp2_with (at_lookup; refine look_pl rfl _ _ rfl mb D rfl HMP.out id rfl HR.out.1 HR.out.2 (.pointer none) false HL1.out HL2.out ?_)
    go_ret
    refine ⟨L, Z, by rw [HG.out]; rfl, ?_⟩
    rw [HG.out]
    exact HS.out
/-! ### Evict, Len -/
def EvictPost (w0 w' : World) (p bb : Nat) (st : Po) (J : Res) (e : Ending) : Prop :=
  ∃ L' Z', e = .returned (.tuple #[.int .u64 st.evict.2.1, .int .i64 st.evict.2.2]) ∧ Own w0 w' (Sep (PoR p bb L' Z' st.evict.1) J)
set_option maxHeartbeats 4000000 in
theorem pevict_any {w0 w : World} {p bb : Nat} {L Z : List Pb} {st : Po} {J : Res} [Stab J] (h : Own w0 w (Sep (PoR p bb L Z st) J)) (hB : PoB st) :
    Calls Try.prog 22 #[ptr p] w (fun e w' => EvictPost w0 w' p bb st J e) := by
  have HS := Lib.hid h
  obtain ⟨mb, ro, rc, D, hm, hs, h4⟩ := h.openPo
  obtain ⟨n, hn⟩ : ∃ n, L.length = n := ⟨_, rfl⟩
  have hls : st.L.length = n := by rw [← hm.len]; exact hn
  unfold poc at h4
  rw [hn] at h4
  have e2 := h4.blk5c.1.2.2.1
  by_cases hz : n = 0
  · subst hz
    have HG : Hid (st.evict = (st, 0, 5)) := Lib.hid (by unfold Po.evict; rw [if_pos (List.length_eq_zero_iff.1 hls)])
    clear h hm hs h4 hn hls hB
    go_enter Try.func22, Try.ntmps22
    go_wp2_with fail
    go_ret2
    refine ⟨L, Z, by rw [HG.out]; rfl, ?_⟩
    rw [HG.out]
    exact HS.out
  · have HG : Hid (st.evict = st.goes) := Lib.hid (by unfold Po.evict; rw [if_neg (fun e => hz (by rw [← hls, e]; rfl))])
    have hnd : ((n : Int) == 0) = false := by simpa using hz
    have hgo := pgoes_any h (by have := hB.q; omega) (by have := hB.q; omega) (by have := hB.b; omega)
    have HGO := Lib.hid hgo
    clear h hm hs h4 hn hls hB hz hgo
    go_enter Try.func22, Try.ntmps22
    go_wp2_with fail
    refine HGO.out.mono ?_
    rintro e w2 ⟨L2, Z2, hkp, rfl, hown⟩
    have HO := Lib.hid hown
    clear HGO hkp hown
    go_wp2_with fail
    go_ret2
    refine ⟨L2, Z2, by rw [HG.out]; rfl, ?_⟩
    rw [HG.out]
    exact HO.out
set_option maxHeartbeats 4000000 in
theorem plen_any {w0 w : World} {p bb : Nat} {L Z : List Pb} {st : Po} {J : Res} [Stab J] (h : Own w0 w (Sep (PoR p bb L Z st) J)) :
    Calls Try.prog 26 #[ptr p] w (fun e w' => e = .returned (.int .i64 (st.L.length : Int)) ∧ w = w') := by
  obtain ⟨mb, ro, rc, D, hm, hs, h4⟩ := h.openPo
  have hls := hm.len
  unfold poc at h4
  obtain ⟨n, hn⟩ : ∃ n, L.length = n := ⟨_, rfl⟩
  rw [hn] at h4 hls
  rw [← hls]
  have e2 := h4.blk5c.1.2.2.1
  clear h hm hs h4 hls hn
  go_enter Try.func26, Try.ntmps26
  go_wp2_with fail
  go_ret
  exact ⟨rfl, rfl⟩

end Go.Proofs.Ytjmelhmjcbliaaa
