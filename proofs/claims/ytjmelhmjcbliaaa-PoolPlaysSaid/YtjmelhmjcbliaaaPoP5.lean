/-
  Package pool: goes, room.
-/
import Derived.Test.YtjmelhmjcbliaaaPoP4
namespace Go.Proofs.Ytjmelhmjcbliaaa
open Go Go.RowKit
set_option linter.unusedVariables false
set_option linter.unusedSimpArgs false
set_option maxRecDepth 100000

/-- What is read of a place that a pool has, or had. -/
theorem Own.poCell {w0 w : World} {p bb : Nat} {L Z : List Pb} {st : Po} {J : Res} (h : Own w0 w (Sep (PoR p bb L Z st) J)) {x : Pb} (hx : x ∈ L ++ Z) :
    w.cell? ⟨x.k, 0, none⟩ = some (.int .u64 x.v.id) ∧ w.cell? ⟨x.k, 1, none⟩ = some (.slice x.ao x.v.b.length x.c) ∧ SlC w (.slice x.ao x.v.b.length x.c) x.v.b ∧ x.v.b.length ≤ 140737488351232 := by
  obtain ⟨mb, ro, rc, D, hm, hs, h1⟩ := h.openPo
  obtain ⟨j, hj, rfl⟩ := List.getElem_of_mem hx
  have hby := h1.snd.snd.snd.snd.fixed _ (List.getElem_mem hj)
  have h2 := h1.snd.snd.snd.plAt hj
  have e : (L ++ Z).getD j default = (L ++ Z)[j] := by rw [List.getD_eq_getElem?_getD, List.getElem?_eq_getElem hj]; rfl
  rw [e] at h2
  have h3 := h2.blk5c.1
  exact ⟨h3.1, h3.2.1, hby.1, hby.2⟩
theorem PoM.hand {D : DataW Value} {L : List Pb} {st : Po} (h : PoM D L st) {i : Nat} (hi : i < L.length) : PoM D L { st with hand := i } :=
  ⟨h.v, ⟨h.ok.nd, h.ok.r, .inr (by rw [← h.len]; exact hi)⟩, h.tidy, h.has, h.at', h.size⟩
/-- What goes leaves. -/
def GoesPost (w0 w' : World) (p bb : Nat) (L Z : List Pb) (st : Po) (J : Res) (e : Ending) : Prop :=
  ∃ L' Z', Keeps (L ++ Z) (L' ++ Z') ∧ e = .returned (.tuple #[.int .u64 st.goes.2.1, .int .i64 st.goes.2.2]) ∧ Own w0 w' (Sep (PoR p bb L' Z' st.goes.1) J)
theorem goes_none {st : Po} (h : (nextP (2 * st.L.length) st.L st.hand).2 = none) : st.goes = ({ st with L := (nextP (2 * st.L.length) st.L st.hand).1 }, 0, 9) := by
  unfold Po.goes
  rw [h]
theorem goes_no {st : Po} {i : Nat} (h : (nextP (2 * st.L.length) st.L st.hand).2 = some i) (h2 : (Po.save { st with L := (nextP (2 * st.L.length) st.L st.hand).1, hand := i } i).2 = false) : st.goes = ((Po.save { st with L := (nextP (2 * st.L.length) st.L st.hand).1, hand := i } i).1, 0, 3) := by
  unfold Po.goes
  rw [h]
  dsimp only
  rw [if_neg (by rw [h2]; simp)]
theorem goes_yes {st : Po} {i : Nat} (h : (nextP (2 * st.L.length) st.L st.hand).2 = some i) (h2 : (Po.save { st with L := (nextP (2 * st.L.length) st.L st.hand).1, hand := i } i).2 = true) : st.goes = ((Po.save { st with L := (nextP (2 * st.L.length) st.L st.hand).1, hand := i } i).1.out i, (Po.pl { st with L := (nextP (2 * st.L.length) st.L st.hand).1, hand := i } i).id, 0) := by
  unfold Po.goes
  rw [h]
  dsimp only
  rw [if_pos h2]
set_option maxHeartbeats 4000000 in
theorem pgoes_any {w0 w : World} {p bb : Nat} {L Z : List Pb} {st : Po} {J : Res} [Stab J] (h : Own w0 w (Sep (PoR p bb L Z st) J)) (hl : L.length ≤ 1000000000) (hq : st.bk.asked.length ≤ 1000000000) (hb : st.bk.ids.length ≤ 1000000000) :
    Calls Try.prog 44 #[ptr p] w (fun e w' => GoesPost w0 w' p bb L Z st J e) := by
  have HS := Lib.hid h
  have HL := Lib.hid hl
  have HB := Lib.hid (⟨hq, hb⟩ : st.bk.asked.length ≤ 1000000000 ∧ st.bk.ids.length ≤ 1000000000)
  have hne : ∀ i, (nextP (2 * st.L.length) st.L st.hand).2 = some i → i < L.length := fun i hi => by
    obtain ⟨D, hm⟩ := h.poM
    by_cases h0 : st.L.length = 0
    · rw [h0] at hi
      cases hi
    · have := (nextP_some _ _ _ _ hi h0).1
      rw [hm.len]
      exact this
  have HNE := Lib.hid hne
  clear h hl hq hb hne
  go_enter Try.func44, Try.ntmps44
  go_wp2_with fail
  refine (pnext_any HS.out HL.out).mono ?_
  rintro e w1 ⟨L1, hkp, hln, rfl, hown⟩
  have HKP := Lib.hid hkp
  have HLN := Lib.hid hln
  have HO := Lib.hid hown
  clear hkp hln hown HS
  cases hnx : (nextP (2 * st.L.length) st.L st.hand).2 with
  | none =>
    have HG := Lib.hid (goes_none hnx)
    clear hnx
    dsimp only [Option.getD_none, Option.isSome_none]
    go_wp2_with fail
    go_ret2
    refine ⟨L1, Z, HKP.out, by rw [HG.out]; rfl, ?_⟩
    rw [HG.out]
    exact HO.out
  | some i =>
    dsimp only [Option.getD_some, Option.isSome_some]
    obtain ⟨st1, hst1⟩ : ∃ s : Po, s = { st with L := (nextP (2 * st.L.length) st.L st.hand).1 } := ⟨_, rfl⟩
    rw [← hst1] at HO
    have HST1 := Lib.hid hst1
    have hi1 : i < L1.length := by rw [HLN.out]; exact HNE.out i hnx
    have HI1 := Lib.hid hi1
    have HNX := Lib.hid hnx
    obtain ⟨mb, ro, rc, D, hm, hs, h1⟩ := HO.out.openPo
    have HM := Lib.hid hm
    have HSH := Lib.hid hs
    obtain ⟨n, hn⟩ : ∃ n, L1.length = n := ⟨_, rfl⟩
    have HN := Lib.hid hn
    unfold poc at h1
    rw [hn] at h1 hi1
    have H1 := Lib.hid h1
    obtain ⟨⟨c0, c1, c2, c3, c4⟩, f0, f1, f2, f3, f4⟩ := h1.blk5c
    have hiI : (i : Int) < (n : Int) := by omega
    have hi0 : (0 : Int) ≤ (i : Int) := by omega
    clear h1 hm hs hst1 hnx HO hn
    go_upto_region 5 with fail
    have HO2 := Lib.hid (H1.out.store 4 (.int .i64 (i : Int)))
    generalize World.setCell w1 _ _ = w2 at *
    clear c0 c1 c2 c3 c4 f0 f1 f2 f3 f4 H1
    obtain ⟨st2, hst2⟩ : ∃ s : Po, s = { st with L := (nextP (2 * st.L.length) st.L st.hand).1, hand := i } := ⟨_, rfl⟩
    have HST2 := Lib.hid hst2
    have e12 : st2 = { st1 with hand := i } := by rw [hst2, HST1.out]
    have HM2 := Lib.hid (HM.out.hand HI1.out)
    rw [← e12] at HM2
    have hO3 : Own w0 w2 (Sep (PoR p bb L1 Z st2) J) := by
      have hx : Own w0 w2 (Sep (Blk p (.cells (poc bb mb ro rc L1 st2) 66)) (Sep (RowG 67 (.slice ro L1.length rc) L1) (Sep (MapR mb D) (Sep (PlsR (L1 ++ Z)) (Sep (Fix (BytesOk (L1 ++ Z))) (Sep (BkR bb st2.bk) J)))))) := by
        unfold poc
        rw [e12, HN.out]
        exact HO2.out
      exact Own.shutPo HM2.out HSH.out hx
    have HO3 := Lib.hid hO3
    obtain ⟨g, rfl⟩ := own_addr (HO2.out.swap) (by rw [HN.out]; omega)
    have d2 := HO2.out.blk5c.1.2.2.1
    have hrow : w2.cell? ⟨g, i, none⟩ = some (ptr (L1.getD i default).k) := by
      obtain ⟨g2, off, e2, e3⟩ := HO2.out.swap.rowSlg.pb (j := i) (by rw [HN.out]; omega)
      simp only [Option.some.injEq, Addr.mk.injEq, and_true] at e2
      obtain ⟨rfl, rfl⟩ := e2
      rw [Nat.zero_add] at e3
      exact e3
    obtain ⟨xk, hxk⟩ : ∃ k, (L1.getD i default).k = k := ⟨_, rfl⟩
    rw [hxk] at hrow
    have HXK := Lib.hid hxk
    have hsave := psave_any HO3.out i HI1.out (by rw [HST2.out]; exact HB.out.1) (by rw [HST2.out]; exact HB.out.2)
    rw [hxk] at hsave
    have HSV := Lib.hid hsave
    clear hO3 HO2 hst2 e12 hxk hsave
    go_wp2_with fail
    refine HSV.out.mono ?_
    rintro e w3 ⟨x, rfl, hx1, hx2, hx3, hx4, hx5, hown⟩
    have HX1 := Lib.hid hx1
    have HKS := Lib.hid (HKP.out.trans (Keeps.left (Z := Z) (Keeps.set HI1.out hx1 hx2 hx3 hx4 hx5)))
    have HX5 := Lib.hid hx5
    have HO4 := Lib.hid hown
    clear HSV hx1 hx2 hx3 hx4 hx5 hown d2 hrow HO3
    cases hsv : (st2.save i).2 with
    | false =>
      have HG := Lib.hid (goes_no HNX.out (by rw [← HST2.out]; exact hsv))
      clear hsv
      dsimp only
      rw [if_neg (show ¬ (false = true) by simp)]
      go_wp2_with fail
      go_ret2
      refine ⟨L1.set i x, Z, HKS.out, by rw [HG.out]; rfl, ?_⟩
      rw [HG.out, ← HST2.out]
      exact HO4.out
    | true =>
      have HG := Lib.hid (goes_yes HNX.out (by rw [← HST2.out]; exact hsv))
      clear hsv
      dsimp only
      rw [if_pos rfl]
      have hlx : i < (L1.set i x).length := by rw [List.length_set]; exact HI1.out
      have hout := pout_any HO4.out i hlx (by rw [List.length_set, HLN.out]; exact HL.out)
      have HOUT := Lib.hid hout
      clear hout
      go_wp2_with fail
      refine HOUT.out.mono ?_
      rintro e w4 ⟨rfl, hown⟩
      have hxx : (L1.set i x).getD i default = x := getD_set_same HI1.out _ _
      have HKO := Lib.hid (HKS.out.trans (Keeps.out (Z := Z) hlx))
      rw [hxx] at hown HKO
      have hc := (hown.poCell (x := x) (by simp)).1
      have hpid : x.v.id = (Po.pl { st with L := (nextP (2 * st.L.length) st.L st.hand).1, hand := i } i).id := by
        rw [← HST2.out, HM2.out.pl i]
        exact HX5.out
      rw [HX1.out, HXK.out, hpid] at hc
      have HO5 := Lib.hid hown
      clear HO4 HOUT hown hlx hxx hpid
      obtain ⟨yid, hy⟩ : ∃ y, (Po.pl { st with L := (nextP (2 * st.L.length) st.L st.hand).1, hand := i } i).id = y := ⟨_, rfl⟩
      rw [hy] at hc HG
      clear hy
      go_wp2_with fail
      go_ret2
      refine ⟨_, _, HKO.out, by rw [HG.out]; rfl, ?_⟩
      rw [HG.out, ← HST2.out]
      exact HO5.out

end Go.Proofs.Ytjmelhmjcbliaaa
