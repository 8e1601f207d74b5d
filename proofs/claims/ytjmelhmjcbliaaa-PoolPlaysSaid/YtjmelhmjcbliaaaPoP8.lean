/-
  Package pool: Get, Pin.
-/
import Derived.Test.YtjmelhmjcbliaaaPoP7
namespace Go.Proofs.Ytjmelhmjcbliaaa
open Go Go.RowKit
set_option linter.unusedVariables false
set_option linter.unusedSimpArgs false
set_option maxRecDepth 100000

theorem Bk.load_len (b : Bk) (id : Int) : (b.load id).1.asked.length = b.asked.length + 1 ∧ (b.load id).1.ids = b.ids := ⟨by unfold Bk.load Bk.ask; simp, rfl⟩
theorem Po.find_len (st : Po) (id : Int) : (st.find id).1.bk.asked.length ≤ st.bk.asked.length + 1 ∧ (st.find id).1.bk.ids.length = st.bk.ids.length ∧ (st.find id).1.L.length ≤ st.L.length + 1 ∧ (st.find id).1.most = st.most ∧ (st.find id).1.hand = st.hand := by
  cases h : st.ix id with
  | some i => rw [find_some h]; exact ⟨Nat.le_succ _, rfl, Nat.le_succ _, rfl, rfl⟩
  | none =>
    have h3 := Bk.load_len st.bk id
    cases h2 : (st.bk.load id).2 with
    | none => rw [find_bad h h2]; exact ⟨Nat.le_of_eq h3.1, by rw [h3.2], Nat.le_succ _, rfl, rfl⟩
    | some b => rw [find_come h h2]; exact ⟨Nat.le_of_eq h3.1, by rw [h3.2], by simp, rfl, rfl⟩
/-- Bytes of one's own, in new memory. -/
theorem Own.bytesRow {w0 w w' : World} {v : Value} {xs : List UInt8} {J : Res} [Stab J] (h : Own w0 w J) (ho : Only (fun _ => False) w w') (hr : w'.ownsRow w.heap.size 5 1 v xs.length (u8s xs)) : Own w0 w' (Sep (RowV 5 1 v xs.length (u8s xs)) J) := by
  refine h.fresh ho (B := fun k => v.ownBlock = some k) ⟨own_base hr (Nat.zero_le _), fun k => Iff.rfl⟩ fun k hk => ?_
  rcases hr.2 with ⟨rfl, _⟩ | ⟨g, cap, cur, rfl, hb, _⟩
  · simp [Value.ownBlock] at hk
  · simp [Value.ownBlock] at hk; omega
theorem Own.bytesOf {w0 w : World} {v : Value} {xs : List UInt8} {J : Res} (h : Own w0 w (Sep (RowV 5 1 v xs.length (u8s xs)) J)) : ∃ ao c, v = .slice ao xs.length c ∧ SlC w v xs := own_bytes (w := w) h.owns
/-- Bounds within which a pool's calls go. -/
structure PoB (st : Po) : Prop where
  q : st.bk.asked.length + st.L.length ≤ 999999990
  b : st.bk.ids.length + st.L.length ≤ 999999990
/-- A place is turned, one or two of its cells. -/
def GetPost (w0 w' : World) (p bb : Nat) (st : Po) (id : Int) (J : Res) (e : Ending) : Prop :=
  ∃ L' Z', ((∃ b v, (st.get id).2 = some b ∧ b.length ≤ 140737488351232 ∧ e = .returned (.tuple #[v, .int .i64 0]) ∧ Own w0 w' (Sep (RowV 5 1 v b.length (u8s b)) (Sep (PoR p bb L' Z' (st.get id).1) J))) ∨ ((st.get id).2 = none ∧ e = .returned (.tuple #[.slice none 0 0, .int .i64 2]) ∧ Own w0 w' (Sep (PoR p bb L' Z' (st.get id).1) J)))
theorem get_none {st : Po} {id : Int} (h : (st.find id).2 = none) : st.get id = ((st.find id).1, none) := by unfold Po.get; rw [h]
theorem get_some {st : Po} {id : Int} {i : Nat} (h : (st.find id).2 = some i) : st.get id = (((st.find id).1.turn i { (st.find id).1.pl i with u := true }).room, some ((st.find id).1.pl i).b) := by unfold Po.get; rw [h]
theorem pin_none {st : Po} {id : Int} (h : (st.find id).2 = none) : st.pin id = ((st.find id).1, false) := by unfold Po.pin; rw [h]
theorem pin_some {st : Po} {id : Int} {i : Nat} (h : (st.find id).2 = some i) : st.pin id = (((st.find id).1.turn i { (st.find id).1.pl i with u := true, p := ((st.find id).1.pl i).p + 1 }).room, true) := by unfold Po.pin; rw [h]
set_option maxHeartbeats 4000000 in
theorem pget_any {w0 w : World} {p bb : Nat} {L Z : List Pb} {st : Po} {J : Res} [Stab J] (h : Own w0 w (Sep (PoR p bb L Z st) J)) (id : Int) (h0 : 0 ≤ id) (h1 : id < 18446744073709551616) (hB : PoB st) :
    Calls Try.prog 10 #[ptr p, .int .u64 id] w (fun e w' => GetPost w0 w' p bb st id J e) := by
  have HB := Lib.hid hB
  have hlL : L.length = st.L.length := by
    obtain ⟨D, hm⟩ := h.poM
    exact hm.len
  have hfind := pfind_any h id h0 h1 (by have := hB.q; omega) (by have := hB.q; omega) (by have := hB.b; omega)
  have HF := Lib.hid hfind
  clear h h0 h1 hB hlL hfind
  go_enter Try.func10, Try.ntmps10
  go_wp2_with fail
  refine HF.out.mono ?_
  rintro e w1 ⟨L1, hkp, hor, hown⟩
  have HFL := Lib.hid (Po.find_len st id)
  clear HF
  rcases hor with ⟨i, hi, hil, rfl⟩ | ⟨hi, rfl⟩
  · have HG := Lib.hid (get_some hi)
    obtain ⟨mb, ro, rc, D, hm, hs, h4⟩ := hown.openPl hil
    have HM := Lib.hid hm
    have HSH := Lib.hid hs
    have HIL := Lib.hid hil
    obtain ⟨x, hx⟩ : ∃ x, L1.getD i default = x := ⟨_, rfl⟩
    have HPL : Hid ((st.find id).1.pl i = x.v) := Lib.hid (by rw [hm.pl i, hx])
    rw [hx] at h4 ⊢
    have HX := Lib.hid hx
    have HLEN := Lib.hid hm.len
    obtain ⟨xk, xo, xc, xv⟩ := x
    obtain ⟨xi, xb, xd, xp, xu⟩ := xv
    unfold PlB plc at h4
    dsimp only at h4
    have HO := Lib.hid h4
    obtain ⟨⟨d0, d1, d2, d3, d4⟩, q0, q1, q2, q3, q4⟩ := h4.blk5c
    clear hkp hown hi hm hs h4 hx hil
    dsimp only
    go_upto_region 5 with fail
    have HO2 := Lib.hid (HO.out.store 4 (.bool true))
    generalize World.setCell w1 _ _ = w2 at *
    clear HO d0 d1 d2 d3 d4 q0 q1 q2 q3 q4
    have h5 := Own.turnPl (J := J) (Z := Z) (mb := mb) (p := p) (bb := bb) (P := BytesOk (L1 ++ Z)) (x := ⟨xk, xo, xc, ⟨xi, xb, xd, xp, true⟩⟩) HM.out HSH.out HIL.out (by rw [HX.out]) (by rw [HX.out]) (fun w hw => hw.same (i := i) (x := ⟨xk, xo, xc, ⟨xi, xb, xd, xp, xu⟩⟩) (by rw [List.length_append]; have := HIL.out; omega) (by rw [getD_left HIL.out]; exact HX.out) xd xp true) (by unfold PlB plc; dsimp only; exact HO2.out)
    have hl1 : (L1.set i ⟨xk, xo, xc, ⟨xi, xb, xd, xp, true⟩⟩).length ≤ st.L.length + 1 := by
      rw [List.length_set, HLEN.out]
      exact HFL.out.2.2.1
    have hroom := proom_any h5 (by
      show (st.find id).1.bk.asked.length + _ ≤ _
      have h6 := HFL.out.1
      have h7 := HB.out.q
      omega) (by
      show (st.find id).1.bk.ids.length + _ ≤ _
      have h6 := HFL.out.2.1
      have h7 := HB.out.b
      omega)
    have HRM := Lib.hid hroom
    have HMEM : Hid ((⟨xk, xo, xc, ⟨xi, xb, xd, xp, true⟩⟩ : Pb) ∈ L1.set i ⟨xk, xo, xc, ⟨xi, xb, xd, xp, true⟩⟩ ++ Z) := Lib.hid (List.mem_append.2 (.inl (List.mem_set HIL.out _)))
    clear HO2 h5 hl1 hroom
    go_wp2_with fail
    refine HRM.out.mono ?_
    rintro e w3 ⟨L3, Z3, hkp, rfl, hown⟩
    obtain ⟨y, hy, e1, e2, e3, e4, e5⟩ := hkp _ HMEM.out
    dsimp only at e1 e2 e3 e4
    obtain ⟨_, k1, k2, k3⟩ := hown.poCell hy
    rw [e1, e2, e3, e4] at k1
    rw [e2, e3, e4] at k2
    rw [e4] at k3
    have HK3 := Lib.hid k3
    obtain ⟨bn, hbn⟩ : ∃ n, xb.length = n := ⟨_, rfl⟩
    have HBN := Lib.hid hbn
    have hcl := clone_by _ xb w3 k2 (by omega)
    rw [hbn] at k1 hcl
    have HCL := Lib.hid hcl
    have HO3 := Lib.hid hown
    clear HRM HMEM hkp hown hy e1 e2 e3 e4 e5 k2 k3 hcl hbn
    go_wp2_with fail
    refine HCL.out.mono ?_
    rintro e w4 ⟨v', rfl, hrow, ho⟩
    rw [← HBN.out] at hrow
    have HO4 := Lib.hid (HO3.out.bytesRow ho hrow)
    clear HCL hrow ho k1 HO3
    go_wp2_with fail
    go_ret2
    refine ⟨L3, Z3, .inl ⟨xb, v', ?_, HK3.out, rfl, ?_⟩⟩
    · rw [HG.out]
      show some ((st.find id).1.pl i).b = some xb
      rw [HPL.out]
    · rw [HG.out]
      show Own w0 w4 (Sep _ (Sep (PoR p bb L3 Z3 ((st.find id).1.turn i { (st.find id).1.pl i with u := true }).room) J))
      rw [HPL.out]
      exact HO4.out
  · have HG := Lib.hid (get_none hi)
    have HO := Lib.hid hown
    clear hkp hown hi
    go_wp2_with fail
    go_ret2
    refine ⟨L1, Z, .inr ⟨by rw [HG.out], rfl, ?_⟩⟩
    rw [HG.out]
    exact HO.out

end Go.Proofs.Ytjmelhmjcbliaaa
