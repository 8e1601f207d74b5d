/-
  Package pool: Put. (Written by wip/tools/genpoput.py.)
-/
import Derived.Test.YtjmelhmjcbliaaaPoP9
namespace Go.Proofs.Ytjmelhmjcbliaaa
open Go Go.RowKit
set_option linter.unusedVariables false
set_option linter.unusedSimpArgs false
set_option maxRecDepth 100000

theorem put_some {st : Po} {id : Int} {b : List UInt8} {i : Nat} (h : st.ix id = some i) : st.put id b = (st.turn i { st.pl i with b := b, u := true, d := true }).room := by unfold Po.put; rw [h]
theorem put_none {st : Po} {id : Int} {b : List UInt8} (h : st.ix id = none) : st.put id b = Po.room { st with L := st.L ++ [⟨id, b, true, 0, true⟩] } := by unfold Po.put; rw [h]
def PutPost (w0 w' : World) (p bb : Nat) (st : Po) (id : Int) (b : List UInt8) (J : Res) (e : Ending) : Prop :=
  ∃ L' Z', e = .returned (.tuple #[]) ∧ Own w0 w' (Sep (PoR p bb L' Z' (st.put id b)) J)
set_option maxHeartbeats 8000000 in
theorem pput_any {w0 w : World} {p bb : Nat} {L Z : List Pb} {st : Po} {J : Res} [Stab J] (h : Own w0 w (Sep (PoR p bb L Z st) J)) (id : Int) (h0 : 0 ≤ id) (h1 : id < 18446744073709551616) (v : Value) (b : List UInt8) (hv : SlC w0 v b) (hvl : b.length ≤ 140737488351232) (hB : PoB st) :
    Calls Try.prog 14 #[ptr p, .int .u64 id, v] w (fun e w' => PutPost w0 w' p bb st id b J e) := by
  obtain ⟨vo, vc, rfl⟩ := hv.shape
  have HV := Lib.hid hv
  have HVL := Lib.hid hvl
  have HB := Lib.hid hB
  have HS := Lib.hid h
  have HR := Lib.hid (⟨h0, h1⟩ : 0 ≤ id ∧ id < 18446744073709551616)
  obtain ⟨bn, hbn⟩ : ∃ n, b.length = n := ⟨_, rfl⟩
  have HBN := Lib.hid hbn
  rw [hbn]
  obtain ⟨mb, ro, rc, D, hm, hs, h4⟩ := h.openPo
  have hmm := hm
  unfold poc at h4
  have HMP := Lib.hid h4.snd.snd.map
  have c3 := h4.blk5c.1.2.2.2.1
  have HLEN : Hid (L.length = st.L.length) := Lib.hid hm.len
  cases hix : st.ix id with
  | some i =>
    obtain ⟨l1, l2, hil⟩ := hmm.look_some h0 h1 hix
    obtain ⟨xk, hxk⟩ : ∃ k, (L.getD i default).k = k := ⟨_, rfl⟩
    rw [hxk] at l1
    have HG := Lib.hid (put_some (b := b) hix)
    have HL1 := Lib.hid l1
    have HL2 := Lib.hid l2
    have HIL := Lib.hid hil
    have HXK := Lib.hid hxk
    obtain ⟨L1, hL1⟩ : ∃ l, l = L := ⟨_, rfl⟩
    obtain ⟨st1, hst1⟩ : ∃ s, s = st := ⟨_, rfl⟩
    have HE := Lib.hid hL1
    have HST := Lib.hid hst1
    have hb4 : st1.bk.asked.length + L1.length ≤ 999999999 ∧ st1.bk.ids.length + L1.length ≤ 999999999 := by
      rw [hst1, hL1, hm.len]
      have := hB.q
      have := hB.b
      omega
    have HB4 := Lib.hid hb4
    clear h h0 h1 hv hvl hB hix hm hmm hs h4 l1 l2 hil hxk hL1 hst1 hbn hb4
    go_enter Try.func14, Try.ntmps14
    go_upto_region 4 with (at_lookup; refine look_pl rfl _ _ rfl mb D rfl HMP.out id rfl HR.out.1 HR.out.2 (ptr xk) true HL1.out HL2.out ?_)
    have HO0 : Hid (Own w0 w (Sep (PoR p bb L1 Z st1) J)) := Lib.hid (by rw [HE.out, HST.out]; exact HS.out)
    rw [← HE.out] at HXK HIL
    obtain ⟨w2, hw2⟩ : ∃ W, W = w := ⟨w, rfl⟩
    rw [← hw2] at HO0
    rw [← hw2]
    clear hw2 c3 HMP HS
    have hcl := clone_by (.slice vo b.length vc) b w2 (HV.out.keep HO0.out.only) (by have := HVL.out; omega)
    rw [HBN.out] at hcl
    have HCL := Lib.hid hcl
    clear hcl
    go_wp2_with fail
    refine HCL.out.mono ?_
    rintro e w3 ⟨v', rfl, hrow, ho⟩
    rw [← HBN.out] at hrow
    obtain ⟨bo, bc, rfl, hb5⟩ := HO0.out.bytesFix ho hrow
    rw [HBN.out] at hb5
    obtain ⟨mb2, ro2, rc2, D2, hm2, hs2, h6⟩ := hb5.swap.openPl HIL.out
    obtain ⟨x, hx⟩ : ∃ x, L1.getD i default = x := ⟨_, rfl⟩
    have hxk2 := HXK.out
    rw [hx] at h6 hxk2
    have HX := Lib.hid hx
    have HPL : Hid (st1.pl i = x.v) := Lib.hid (by rw [hm2.pl i, hx])
    obtain ⟨xk', xo, xc, xv⟩ := x
    obtain ⟨xi, xb, xd, xp, xu⟩ := xv
    dsimp only at hxk2
    subst hxk2
    unfold PlB plc at h6
    dsimp only at h6
    have HO6 := Lib.hid h6
    have HM2 := Lib.hid hm2
    have HSH2 := Lib.hid hs2
    obtain ⟨⟨d0, d1, d2, d3, d4⟩, q0, q1, q2, q3, q4⟩ := h6.blk5c
    clear HCL hrow ho hb5 hm2 hs2 h6 hx HO0
    rw [HBN.out]
    go_upto_region 5 with fail
    have HO7 : Hid (Own w0 _ (Sep (Blk xk' (.cells #[.int .u64 xi, .slice bo bn bc, .bool xd, .int .i64 (xp : Int), .bool xu] 71)) _)) := Lib.hid (HO6.out.store 1 (.slice bo bn bc))
    generalize World.setCell w3 _ _ = w4 at *
    clear HO6 d0 d1 d2 d3 d4 q0 q1 q2 q3 q4
    obtain ⟨⟨d0, d1, d2, d3, d4⟩, q0, q1, q2, q3, q4⟩ := HO7.out.blk5c
    go_upto_region 6 with fail
    have HO8 : Hid (Own w0 _ (Sep (Blk xk' (.cells #[.int .u64 xi, .slice bo bn bc, .bool true, .int .i64 (xp : Int), .bool true] 71)) _)) := Lib.hid (Own.store (cs := #[.int .u64 xi, .slice bo bn bc, .bool xd, .int .i64 (xp : Int), .bool true]) (HO7.out.store 4 (.bool true)) 2 (.bool true))
    generalize World.setCell _ _ _ = w5 at *
    clear HO7 d0 d1 d2 d3 d4 q0 q1 q2 q3 q4
    have h9 : Own w0 w5 (Sep (PlB ⟨xk', bo, bc, ⟨xi, b, true, xp, true⟩⟩) (Sep (PlsR ((L1 ++ Z).eraseIdx i)) (Sep (Blk p (.cells (poc bb mb2 ro2 rc2 L1 st1) 66)) (Sep (RowG 67 (.slice ro2 L1.length rc2) L1) (Sep (MapR mb2 D2) (Sep (Fix fun w => SlC w (.slice bo bn bc) b ∧ BytesOk (L1 ++ Z) w) (Sep (BkR bb st1.bk) J))))))) := by
      unfold PlB plc
      dsimp only
      rw [HBN.out]
      have h10 : Own w0 w5 (Sep (Fix fun w => SlC w (.slice bo bn bc) b) (Sep (Fix (BytesOk (L1 ++ Z))) (Sep (Blk xk' (.cells #[.int .u64 xi, .slice bo bn bc, .bool true, .int .i64 (xp : Int), .bool true] 71)) (Sep (PlsR ((L1 ++ Z).eraseIdx i)) (Sep (Blk p (.cells (poc bb mb2 ro2 rc2 L1 st1) 66)) (Sep (RowG 67 (.slice ro2 L1.length rc2) L1) (Sep (MapR mb2 D2) (Sep (BkR bb st1.bk) J)))))))) := HO8.out.ac (by ac_rfl)
      exact h10.fix2.ac (by ac_rfl)
    have h11 := Own.turnPl (J := J) (Z := Z) (mb := mb2) (p := p) (bb := bb) (x := ⟨xk', bo, bc, ⟨xi, b, true, xp, true⟩⟩) HM2.out HSH2.out HIL.out (by rw [HX.out]) (by rw [HX.out]) (fun w hw => BytesOk.put hw.2 (by dsimp only; rw [HBN.out]; exact hw.1) HVL.out) h9
    have hroom := proom_any h11 (by
      show st1.bk.asked.length + _ ≤ _
      rw [List.length_set]
      have := HB4.out.1
      omega) (by
      show st1.bk.ids.length + _ ≤ _
      rw [List.length_set]
      have := HB4.out.2
      omega)
    have HRM := Lib.hid hroom
    clear h9 h11 hroom HO8
    go_wp2_with fail
    refine HRM.out.mono ?_
    rintro e w6 ⟨L3, Z3, hkp, rfl, hown⟩
    have HO9 := Lib.hid hown
    clear HRM hkp hown
    go_wp2_with fail
    go_end0
    refine ⟨L3, Z3, rfl, ?_⟩
    rw [HG.out]
    have e : st.turn i { st.pl i with b := b, u := true, d := true } = st1.turn i ⟨xi, b, true, xp, true⟩ := by
      rw [← HST.out, HPL.out]
    rw [e]
    exact HO9.out
  | none =>
    obtain ⟨l1, l2⟩ := hmm.look_none h0 h1 hix
    have HG := Lib.hid (put_none (b := b) hix)
    have HL1 := Lib.hid l1
    have HL2 := Lib.hid l2
    have hcome := pcome_any h id h0 h1 (ixOf_none hix) (by have := hB.q; rw [hm.len]; omega)
    have HCM := Lib.hid hcome
    clear h h0 h1 hv hvl hB hix hm hmm hs h4 l1 l2 hbn hcome
    go_enter Try.func14, Try.ntmps14
    go_wp2_with (at_lookup; refine look_pl rfl _ _ rfl mb D rfl HMP.out id rfl HR.out.1 HR.out.2 (.pointer none) false HL1.out HL2.out ?_)
    refine HCM.out.mono ?_
    rintro e w2 ⟨xk, rfl, hown⟩
    obtain ⟨L1, hL1⟩ : ∃ l, l = L ++ [(⟨xk, none, 0, ⟨id, [], false, 0, false⟩⟩ : Pb)] := ⟨_, rfl⟩
    obtain ⟨st1, hst1⟩ : ∃ s : Po, s = { st with L := st.L ++ [⟨id, [], false, 0, false⟩] } := ⟨_, rfl⟩
    obtain ⟨i, hi⟩ : ∃ i, i = L.length := ⟨_, rfl⟩
    rw [← hL1, ← hst1] at hown
    have HO0 := Lib.hid hown
    have HE := Lib.hid hL1
    have HST := Lib.hid hst1
    have HIE := Lib.hid hi
    have hb4 : st1.bk.asked.length + L1.length ≤ 999999999 ∧ st1.bk.ids.length + L1.length ≤ 999999999 := by
      rw [hst1, hL1, List.length_append, HLEN.out]
      have := HB.out.q
      have := HB.out.b
      show st.bk.asked.length + (st.L.length + 1) ≤ _ ∧ st.bk.ids.length + (st.L.length + 1) ≤ _
      omega
    have HB4 := Lib.hid hb4
    have HIL : Hid (i < L1.length) := Lib.hid (by rw [hL1, hi, List.length_append]; exact Nat.lt_succ_self _)
    have HXK : Hid ((L1.getD i default).k = xk) := Lib.hid (by rw [hL1, hi, getD_end])
    clear HCM hown hL1 hst1 hb4 c3 HMP HS hi
    go_upto_region 4 with fail
    have hcl := clone_by (.slice vo b.length vc) b w2 (HV.out.keep HO0.out.only) (by have := HVL.out; omega)
    rw [HBN.out] at hcl
    have HCL := Lib.hid hcl
    clear hcl
    go_wp2_with fail
    refine HCL.out.mono ?_
    rintro e w3 ⟨v', rfl, hrow, ho⟩
    rw [← HBN.out] at hrow
    obtain ⟨bo, bc, rfl, hb5⟩ := HO0.out.bytesFix ho hrow
    rw [HBN.out] at hb5
    obtain ⟨mb2, ro2, rc2, D2, hm2, hs2, h6⟩ := hb5.swap.openPl HIL.out
    obtain ⟨x, hx⟩ : ∃ x, L1.getD i default = x := ⟨_, rfl⟩
    have hxk2 := HXK.out
    rw [hx] at h6 hxk2
    have HX := Lib.hid hx
    have HPL : Hid (st1.pl i = x.v) := Lib.hid (by rw [hm2.pl i, hx])
    obtain ⟨xk', xo, xc, xv⟩ := x
    obtain ⟨xi, xb, xd, xp, xu⟩ := xv
    dsimp only at hxk2
    subst hxk2
    unfold PlB plc at h6
    dsimp only at h6
    have HO6 := Lib.hid h6
    have HM2 := Lib.hid hm2
    have HSH2 := Lib.hid hs2
    obtain ⟨⟨d0, d1, d2, d3, d4⟩, q0, q1, q2, q3, q4⟩ := h6.blk5c
    clear HCL hrow ho hb5 hm2 hs2 h6 hx HO0
    rw [HBN.out]
    go_upto_region 5 with fail
    have HO7 : Hid (Own w0 _ (Sep (Blk xk' (.cells #[.int .u64 xi, .slice bo bn bc, .bool xd, .int .i64 (xp : Int), .bool xu] 71)) _)) := Lib.hid (HO6.out.store 1 (.slice bo bn bc))
    generalize World.setCell w3 _ _ = w4 at *
    clear HO6 d0 d1 d2 d3 d4 q0 q1 q2 q3 q4
    obtain ⟨⟨d0, d1, d2, d3, d4⟩, q0, q1, q2, q3, q4⟩ := HO7.out.blk5c
    go_upto_region 6 with fail
    have HO8 : Hid (Own w0 _ (Sep (Blk xk' (.cells #[.int .u64 xi, .slice bo bn bc, .bool true, .int .i64 (xp : Int), .bool true] 71)) _)) := Lib.hid (Own.store (cs := #[.int .u64 xi, .slice bo bn bc, .bool xd, .int .i64 (xp : Int), .bool true]) (HO7.out.store 4 (.bool true)) 2 (.bool true))
    generalize World.setCell _ _ _ = w5 at *
    clear HO7 d0 d1 d2 d3 d4 q0 q1 q2 q3 q4
    have h9 : Own w0 w5 (Sep (PlB ⟨xk', bo, bc, ⟨xi, b, true, xp, true⟩⟩) (Sep (PlsR ((L1 ++ Z).eraseIdx i)) (Sep (Blk p (.cells (poc bb mb2 ro2 rc2 L1 st1) 66)) (Sep (RowG 67 (.slice ro2 L1.length rc2) L1) (Sep (MapR mb2 D2) (Sep (Fix fun w => SlC w (.slice bo bn bc) b ∧ BytesOk (L1 ++ Z) w) (Sep (BkR bb st1.bk) J))))))) := by
      unfold PlB plc
      dsimp only
      rw [HBN.out]
      have h10 : Own w0 w5 (Sep (Fix fun w => SlC w (.slice bo bn bc) b) (Sep (Fix (BytesOk (L1 ++ Z))) (Sep (Blk xk' (.cells #[.int .u64 xi, .slice bo bn bc, .bool true, .int .i64 (xp : Int), .bool true] 71)) (Sep (PlsR ((L1 ++ Z).eraseIdx i)) (Sep (Blk p (.cells (poc bb mb2 ro2 rc2 L1 st1) 66)) (Sep (RowG 67 (.slice ro2 L1.length rc2) L1) (Sep (MapR mb2 D2) (Sep (BkR bb st1.bk) J)))))))) := HO8.out.ac (by ac_rfl)
      exact h10.fix2.ac (by ac_rfl)
    have h11 := Own.turnPl (J := J) (Z := Z) (mb := mb2) (p := p) (bb := bb) (x := ⟨xk', bo, bc, ⟨xi, b, true, xp, true⟩⟩) HM2.out HSH2.out HIL.out (by rw [HX.out]) (by rw [HX.out]) (fun w hw => BytesOk.put hw.2 (by dsimp only; rw [HBN.out]; exact hw.1) HVL.out) h9
    have hroom := proom_any h11 (by
      show st1.bk.asked.length + _ ≤ _
      rw [List.length_set]
      have := HB4.out.1
      omega) (by
      show st1.bk.ids.length + _ ≤ _
      rw [List.length_set]
      have := HB4.out.2
      omega)
    have HRM := Lib.hid hroom
    clear h9 h11 hroom HO8
    go_wp2_with fail
    refine HRM.out.mono ?_
    rintro e w6 ⟨L3, Z3, hkp, rfl, hown⟩
    have HO9 := Lib.hid hown
    clear HRM hkp hown
    go_wp2_with fail
    go_end0
    refine ⟨L3, Z3, rfl, ?_⟩
    rw [HG.out]
    have hxx := HX.out
    rw [HE.out, HIE.out, getD_end] at hxx
    simp only [Pb.mk.injEq, Pl.mk.injEq] at hxx
    have e : ({ st with L := st.L ++ [⟨id, b, true, 0, true⟩] } : Po) = st1.turn i ⟨xi, b, true, xp, true⟩ := by
      rw [HST.out, HIE.out, HLEN.out]
      unfold Po.turn
      dsimp only
      rw [set_end, ← hxx.2.2.2.1, ← hxx.2.2.2.2.2.2.1]
    rw [e]
    exact HO9.out

end Go.Proofs.Ytjmelhmjcbliaaa
