/-
  The walk of the statement PoolHolds.
-/
import Derived.Test.YtlfmkjapglalpaaPoL4
import Derived.Test.YtlfmkjapglalpaaPoArg
namespace Go.Proofs.Ytlfmkjapglalpaa
open Go Go.RowKit
set_option linter.unusedVariables false
set_option linter.unusedSimpArgs false
set_option maxRecDepth 100000

/-- Where the law stands: a pool, and what Get must answer, in a second back. -/
def HoS (w0 W : World) (p bb nbb m K pins : Nat) (J : Res) : Prop := ∃ (L Z : List Pb) (st : Po) (nb : Bk) (nv : Int → List UInt8), HoI m nv st ∧ st.sum = pins ∧ st.L.length ≤ m + st.sum ∧ st.bk.asked.length ≤ K ∧ Six nb ∧ (∀ j, 1 ≤ j → j ≤ 6 → nb.val j = some (nv j)) ∧ nb.asked.length ≤ K ∧ Own w0 W (Sep (PoR p bb L Z st) (Sep (BkR nbb nb) J))
theorem u64_rem6 (z : Int) (h0 : 0 ≤ z) : ∃ q a : Nat, z.tmod 6 = (q : Int) ∧ IntKind.u64.wrap ((q : Int) + 1) = (a : Int) ∧ 1 ≤ a ∧ a ≤ 6 := by
  have h1 := Int.tmod_nonneg 6 h0
  have h2 := Int.tmod_lt_of_pos z (show (0 : Int) < 6 by decide)
  refine ⟨(z.tmod 6).toNat, (z.tmod 6).toNat + 1, by omega, ?_, by omega, by omega⟩
  rw [wrapU]
  unfold wu
  omega
theorem rem5 (z : Int) : ∃ q : Nat, (wrap64 (z.tmod 5 + 5)).tmod 5 = (q : Int) ∧ q < 5 := by
  obtain ⟨h1, h2⟩ := xmodN_spec 5 (by decide) (by decide) z
  exact ⟨_, h2, h1⟩
theorem Own.opCells {w0 w : World} {b : Nat} {a0 a1 a2 a3 : Value} {t : TypeId} {J : Res} (h : Own w0 w (Sep (Blk b (.cells #[a0, a1, a2, a3] t)) J)) : w.cell? ⟨b, 0, none⟩ = some a0 ∧ w.cell? ⟨b, 2, none⟩ = some a2 ∧ w.cell? ⟨b, 3, none⟩ = some a3 := by
  have := h.blk4c.1
  exact ⟨this.1, this.2.2.1, this.2.2.2⟩
theorem wrap_add2 (m p : Nat) (hm : m ≤ 8) (hp : p ≤ 300) : wrap64 ((m : Int) + (p : Int)) = ((m + p : Nat) : Int) := by
  rw [IntWalk.wrap64_in _ ⟨by omega, by omega⟩, Int.natCast_add]
theorem not_gt_of {m p ln s mp : Nat} (h : ln ≤ m + s) (hs : s = p) (he : m + p = mp) : ¬ (mp : Int) < (ln : Int) := by omega
/-- Where the law stands while it cleans: what is still dirty is among those left. -/
def HoD (w0 W : World) (p bb nbb m k : Nat) (ao : Option Addr) (c : Nat) (l : List Int) : Prop := ∃ (L Z : List Pb) (st : Po) (nb : Bk) (nv : Int → List UInt8), HoI m nv st ∧ st.bk.asked.length ≤ 4000 + k ∧ Six nb ∧ (∀ j, 1 ≤ j → j ≤ 6 → nb.val j = some (nv j)) ∧ nb.asked.length ≤ 4000 ∧ (∀ x ∈ l, x ∈ st.ids) ∧ (∀ j ∈ st.dirty, j ∈ l.drop k) ∧ Own w0 W (Sep (RowG 34 (.slice ao l.length c) l) (Sep (PoR p bb L Z st) (Sep (BkR nbb nb) Emp)))
/-- Where the law stands while it loads. -/
def HoE (w0 W : World) (p bb nbb m k : Nat) : Prop := ∃ (L Z : List Pb) (st : Po) (nb : Bk) (nv : Int → List UInt8), HoI m nv st ∧ st.bk.asked.length ≤ 5000 + k ∧ Six nb ∧ (∀ j, 1 ≤ j → j ≤ 6 → nb.val j = some (nv j)) ∧ nb.asked.length ≤ 5000 + k ∧ st.dirty = [] ∧ Own w0 W (Sep (PoR p bb L Z st) (Sep (BkR nbb nb) Emp))
theorem HoI.clear {m : Nat} {nv : Int → List UInt8} {st : Po} (h : HoI m nv st) (hd : st.dirty = []) {j : Int} (h1 : 1 ≤ j) (h6 : j ≤ 6) : st.bk.val j = some (nv j) := by
  by_cases hj : j ∈ st.ids
  · obtain ⟨x, hx, rfl⟩ := List.mem_map.1 hj
    refine h.c x hx ?_
    cases hxd : x.d with
    | false => rfl
    | true =>
      have : x.id ∈ st.dirty := List.mem_map.2 ⟨x, List.mem_filter.2 ⟨hx, hxd⟩, rfl⟩
      rw [hd] at this
      cases this
  · exact h.o j h1 h6 hj
theorem drop_rest {l : List Int} {k : Nat} (hk : k < l.length) {j : Int} (h : j ∈ l.drop k) (hne : j ≠ l.getD k default) : j ∈ l.drop (k + 1) := by
  rw [List.drop_eq_getElem_cons hk] at h
  rcases List.mem_cons.1 h with rfl | h
  · exact absurd (by rw [List.getD_eq_getElem?_getD, List.getElem?_eq_getElem hk]; rfl) hne
  · exact h
theorem getD_mem_int {l : List Int} {k : Nat} (hk : k < l.length) : l.getD k default ∈ l := by
  rw [List.getD_eq_getElem?_getD, List.getElem?_eq_getElem hk]
  exact List.getElem_mem hk
theorem dirty_ids {st : Po} {j : Int} (h : j ∈ st.dirty) : j ∈ st.ids := by
  obtain ⟨x, hx, rfl⟩ := List.mem_map.1 h
  exact List.mem_map.2 ⟨x, (List.mem_filter.1 hx).1, rfl⟩
theorem dirty_len (st : Po) : st.dirty.length ≤ st.L.length := by
  unfold Po.dirty
  rw [List.length_map]
  exact List.length_filter_le _ _
theorem drop_end {l : List Int} {st : Po} (h : ∀ j ∈ st.dirty, j ∈ l.drop l.length) : st.dirty = [] := by
  rw [List.drop_length] at h
  exact List.eq_nil_iff_forall_not_mem.2 fun j hj => by cases h j hj
set_option maxHeartbeats 8000000 in
theorem holds_walk (z : Int) (ao : Option Addr) (c : Nat) (os : List OpP) (w : World) (ho : SlOpP w ao os) :
    Calls Try.prog 4 #[.int .i64 z, .slice ao os.length c] w fun e w' => e = .returned (.bool true) ∧ Quiet w w' := by
  have HI := Lib.hid ho
  obtain ⟨n, hn⟩ : ∃ n, os.length = n := ⟨_, rfl⟩
  rw [hn]
  have HN := Lib.hid hn
  obtain ⟨q, m, hq, hm, hmq, hq8⟩ := rem1 8 (by decide) (by decide) z
  have HQ : Hid ((wrap64 (z.tmod 8 + 8)).tmod 8 = (q : Int)) := Lib.hid hq
  have HM := Lib.hid hm
  have HM1 : Hid (1 ≤ m ∧ m ≤ 8) := Lib.hid (by omega)
  clear ho hn hq hm hmq hq8
  go_enter Try.func4, Try.ntmps4
  go_wp2_with fail
  refine (pawake_any w).mono ?_
  rintro e w1 ⟨rfl, hq⟩
  have H0 := Lib.hid ((Own.start w).quiet hq)
  clear hq
  go_wp2_with fail
  rw [HQ.out, HM.out]
  clear HQ HM
  refine (back_any H0.out).mono ?_
  rintro e w2 ⟨bb, rfl, h⟩
  have H1 := Lib.hid h
  clear h H0
  go_wp2_with fail
  refine (pnew_any H1.out m HM1.out.1 (by have := HM1.out; omega)).mono ?_
  rintro e w3 ⟨p, rfl, h⟩
  have H2 := Lib.hid h
  clear h H1
  go_wp2_with fail
  refine (back_any H2.out).mono ?_
  rintro e w4 ⟨nbb, rfl, h⟩
  have H3 : Hid (HoS w w4 p bb nbb m 0 0 Emp) := Lib.hid ⟨[], [], (⟨[], 0, bk0 6, m⟩ : Po), bk0 6, fun j => (bk0 6).bs.getD (j.toNat - 1) [], ⟨bk0_six, List.nodup_nil, fun x hx => (by cases hx), fun x hx => (by cases hx), fun x hx => (by cases hx), fun j j1 j6 _ => six_val bk0_six j1 j6, rfl⟩, rfl, Nat.zero_le _, Nat.le_refl _, bk0_six, fun j j1 j6 => six_val bk0_six j1 j6, Nat.le_refl _, h.swap⟩
  clear h H2
  go_upto_block 0 with fail
  go_cut [9, 10] (fun _ _ wx => ∃ (k pins : Nat), k ≤ 200 ∧ Hid (HoS w wx p bb nbb m (20 * k) pins Emp))
  case first =>
    go_wp2_with fail
    go_loopw [9, 10] (fun pv iv wr => ∃ (k pins : Nat), k ≤ n ∧ k ≤ 200 ∧ pins ≤ k ∧ pv = .int .i64 (pins : Int) ∧ iv = .int .i64 (k : Int) ∧ Hid (HoS w wr p bb nbb m (20 * k) pins Emp)) (fun _ iv _ => n - (intOf iv).toNat)
    case atStart => exact ⟨0, 0, Nat.zero_le _, Nat.zero_le _, Nat.le_refl _, rfl, rfl, H3⟩
    case round =>
      clear H3
      obtain ⟨k, pins, hk, hk2, hpk, rfl, rfl, HX⟩ := hrel
      by_cases hin : k < n ∧ k < 200
      · obtain ⟨hlt, hlt2⟩ := hin
        have hltI : (k : Int) < (n : Int) := by omega
        have h200I : (k : Int) < 200 := by omega
        have hk0 : (0 : Int) ≤ (k : Int) := by omega
        obtain ⟨L, Z, st, nb, nv, hs, hsum, hlen, hask, hsix, hval, hnask, hO⟩ := HX.out
        obtain ⟨g, off, rfl, hx⟩ := HI.out k (by rw [HN.out]; exact hlt)
        obtain ⟨x, hxe⟩ : ∃ x, os.getD k default = x := ⟨_, rfl⟩
        rw [hxe] at hx
        obtain ⟨xK, xN, xI, xB⟩ := x
        obtain ⟨d0, d1, d2, ⟨vB, d3, hvb, hvl⟩, rk, rn, rd⟩ := hx
        dsimp only at d0 d1 d2 d3 hvb hvl rk rn rd
        obtain ⟨hvs, bo, bc, rfl, _⟩ := hvb
        obtain ⟨bl, hbl⟩ : ∃ l, xB.length = l := ⟨_, rfl⟩
        rw [hbl] at d3
        have HBL := Lib.hid hbl
        have hov := hO.only
        have d0 := hov.cellq d0
        have d1 := hov.cellq d1
        have d2 := hov.cellq d2
        have d3 := hov.cellq d3
        have HVB := Lib.hid hvs
        have HVL := Lib.hid hvl
        obtain ⟨q6, a, hq6, ha, ha1, ha6⟩ := u64_rem6 xI rd.1
        obtain ⟨q5, hq5, hq5b⟩ := rem5 xK
        have HQ5 := Lib.hid hq5b
        have HA := Lib.hid (⟨ha1, ha6⟩ : 1 ≤ a ∧ a ≤ 6)
        have HLT := Lib.hid (⟨hlt, hlt2, hpk⟩ : k < n ∧ k < 200 ∧ pins ≤ k)
        have HO1 := Lib.hid (hO.alloc (.cells #[.int .i64 xK, .int .i64 xN, .int .u64 xI, .slice bo bl bc] 37))
        have HS := Lib.hid hs
        have HSUM := Lib.hid hsum
        have HLEN := Lib.hid hlen
        have HASK := Lib.hid hask
        have HSIX := Lib.hid hsix
        have HVAL := Lib.hid hval
        have HNASK := Lib.hid hnask
        clear hs hsum hlen hask hsix hval hnask hO hxe hvs hbl hvl rk rn rd ha1 ha6 hov hq5b hpk HX
        go_upto_region 14 with fail
        obtain ⟨ob, hob⟩ : ∃ o, wr.heap.size = o := ⟨_, rfl⟩
        rw [hob] at HO1 ⊢
        generalize World.alloc wr _ = w5 at *
        clear hob d0 d1 d2 d3
        obtain ⟨e0, e2, e3⟩ := HO1.out.opCells
        have HO2 := Lib.hid (HO1.out.ac (by ac_rfl : _ = Sep (PoR p bb L Z st) (Sep (BkR nbb nb) (Sep (Blk ob (.cells #[.int .i64 xK, .int .i64 xN, .int .u64 xI, .slice bo bl bc] 37)) Emp))))
        clear HO1
        go_upto_block 2 with fail
        obtain ⟨qi, hqi⟩ : ∃ i : Int, (q5 : Int) = i := ⟨_, rfl⟩
        have hq5c : qi = 0 ∨ qi = 1 ∨ qi = 2 ∨ qi = 3 ∨ qi = 4 := by have := HQ5.out; omega
        rw [hqi]
        clear hqi hq5 hq6 ha
        go_cut [9, 10] (fun pv iv wx => iv = .int .i64 (k : Int) ∧ ∃ pins' : Nat, pins' ≤ k + 1 ∧ pv = .int .i64 (pins' : Int) ∧ Hid (HoS w wx p bb nbb m (20 * (k + 1)) pins' Emp))
        case first =>
          have hpk : pins ≤ k := HLT.out.2.2
          rcases hq5c with rfl | rfl | rfl | rfl | rfl
          · as_aux_lemma =>
              have hget := hold_get HO2.out HS.out HASK.out (by have := HLT.out; omega) a HA.out.1 HA.out.2
              have HG := Lib.hid hget
              clear hget
              go_wp2_with fail
              refine HG.out.mono ?_
              rintro e w7 ⟨v, rfl, L', Z', st', hs', hsum', hlen', hask', ho⟩
              obtain ⟨vo, vc, rfl, hsl⟩ := ho.bytesOf
              have hnl := now_load (ho.ac (by ac_rfl : _ = Sep (BkR nbb nb) (Sep (RowV 5 1 (.slice vo (nv a).length vc) (nv a).length (u8s (nv a))) (Sep (PoR p bb L' Z' st') (Sep (Blk ob (.cells #[.int .i64 xK, .int .i64 xN, .int .u64 xI, .slice bo bl bc] 37)) Emp))))) HSIX.out HNASK.out (by have := HLT.out; omega) a HA.out.1 HA.out.2 (HVAL.out a (by have := HA.out; omega) (by have := HA.out; omega))
              have HNL := Lib.hid hnl
              have HS' := Lib.hid hs'
              have HSUM' := Lib.hid hsum'
              have HLEN' := Lib.hid hlen'
              have HASK' := Lib.hid hask'
              obtain ⟨nl, hnlen⟩ : ∃ l, (nv a).length = l := ⟨_, rfl⟩
              have HNLE := Lib.hid hnlen
              rw [hnlen] at hsl ⊢
              clear HG hs' hsum' hlen' hask' ho hsl hnl hnlen HO2 e0 e2 e3
              go_wp2_with fail
              refine HNL.out.mono ?_
              rintro e w8 ⟨ao8, c8, nb8, rfl, hsix8, hval8, hnask8, ho8⟩
              have hs1 := ho8.fixed
              obtain ⟨vo2, vc2, he2, hs2⟩ := ho8.swap.swap.snd.snd.bytesOf
              simp only [Value.slice.injEq] at he2
              obtain ⟨rfl, _, rfl⟩ := he2
              have hby := raw_bytes _ _ (nv a) w8 hs2 hs1
              rw [HNLE.out] at hby
              have HBY := Lib.hid hby
              have HSIX8 := Lib.hid hsix8
              have HVAL8 := Lib.hid hval8
              have HNASK8 := Lib.hid hnask8
              have HO8 := Lib.hid ho8
              rw [HNLE.out]
              clear HNL hsix8 hval8 hnask8 ho8 hs1 hs2 hby
              go_wp2_with (go_at_call 12; refine HBY.out.mono ?_; rintro e w9 ⟨rfl, rfl⟩)
              go_meet
              refine ⟨rfl, pins, by omega, rfl, Lib.hid ⟨L', Z', st', nb8, nv, HS'.out, HSUM'.out.trans HSUM.out, HLEN'.out, by have := HASK'.out; omega, HSIX8.out, fun j j1 j6 => by rw [HVAL8.out]; exact HVAL.out j j1 j6, by have := HNASK8.out; omega, ?_⟩⟩
              have h9 : Own w w8 (Sep (Fix fun w => SlC w (.slice ao8 (nv a).length c8) (nv a)) (Sep (RowV 5 1 (.slice vo (nv a).length vc) (nv a).length (u8s (nv a))) (Sep (Blk ob (.cells #[.int .i64 xK, .int .i64 xN, .int .u64 xI, .slice bo bl bc] 37)) (Sep (PoR p bb L' Z' st') (Sep (BkR nbb nb8) Emp))))) := HO8.out.ac (by ac_rfl)
              exact h9.snd.snd.snd
          · as_aux_lemma =>
              have hget := hold_get HO2.out HS.out HASK.out (by have := HLT.out; omega) a HA.out.1 HA.out.2
              have HG := Lib.hid hget
              clear hget
              go_wp2_with fail
              refine HG.out.mono ?_
              rintro e w7 ⟨v, rfl, L', Z', st', hs', hsum', hlen', hask', ho⟩
              obtain ⟨vo, vc, rfl, hsl⟩ := ho.bytesOf
              have hnl := now_load (ho.ac (by ac_rfl : _ = Sep (BkR nbb nb) (Sep (RowV 5 1 (.slice vo (nv a).length vc) (nv a).length (u8s (nv a))) (Sep (PoR p bb L' Z' st') (Sep (Blk ob (.cells #[.int .i64 xK, .int .i64 xN, .int .u64 xI, .slice bo bl bc] 37)) Emp))))) HSIX.out HNASK.out (by have := HLT.out; omega) a HA.out.1 HA.out.2 (HVAL.out a (by have := HA.out; omega) (by have := HA.out; omega))
              have HNL := Lib.hid hnl
              have HS' := Lib.hid hs'
              have HSUM' := Lib.hid hsum'
              have HLEN' := Lib.hid hlen'
              have HASK' := Lib.hid hask'
              obtain ⟨nl, hnlen⟩ : ∃ l, (nv a).length = l := ⟨_, rfl⟩
              have HNLE := Lib.hid hnlen
              rw [hnlen] at hsl ⊢
              clear HG hs' hsum' hlen' hask' ho hsl hnl hnlen HO2 e0 e2 e3
              go_wp2_with fail
              refine HNL.out.mono ?_
              rintro e w8 ⟨ao8, c8, nb8, rfl, hsix8, hval8, hnask8, ho8⟩
              have hs1 := ho8.fixed
              obtain ⟨vo2, vc2, he2, hs2⟩ := ho8.swap.swap.snd.snd.bytesOf
              simp only [Value.slice.injEq] at he2
              obtain ⟨rfl, _, rfl⟩ := he2
              have hby := raw_bytes _ _ (nv a) w8 hs2 hs1
              rw [HNLE.out] at hby
              have HBY := Lib.hid hby
              have HSIX8 := Lib.hid hsix8
              have HVAL8 := Lib.hid hval8
              have HNASK8 := Lib.hid hnask8
              have HO8 := Lib.hid ho8
              rw [HNLE.out]
              clear HNL hsix8 hval8 hnask8 ho8 hs1 hs2 hby
              go_wp2_with (go_at_call 12; refine HBY.out.mono ?_; rintro e w9 ⟨rfl, rfl⟩)
              go_meet
              refine ⟨rfl, pins, by omega, rfl, Lib.hid ⟨L', Z', st', nb8, nv, HS'.out, HSUM'.out.trans HSUM.out, HLEN'.out, by have := HASK'.out; omega, HSIX8.out, fun j j1 j6 => by rw [HVAL8.out]; exact HVAL.out j j1 j6, by have := HNASK8.out; omega, ?_⟩⟩
              have h9 : Own w w8 (Sep (Fix fun w => SlC w (.slice ao8 (nv a).length c8) (nv a)) (Sep (RowV 5 1 (.slice vo (nv a).length vc) (nv a).length (u8s (nv a))) (Sep (Blk ob (.cells #[.int .i64 xK, .int .i64 xN, .int .u64 xI, .slice bo bl bc] 37)) (Sep (PoR p bb L' Z' st') (Sep (BkR nbb nb8) Emp))))) := HO8.out.ac (by ac_rfl)
              exact h9.snd.snd.snd
          · as_aux_lemma =>
              have hv : SlC w (.slice bo bl bc) xB := by rw [← HBL.out]; exact HVB.out
              have hput := hold_put HO2.out HS.out HASK.out (by have := HLT.out; omega) a HA.out.1 HA.out.2 (.slice bo bl bc) xB hv HVL.out
              have HP := Lib.hid hput
              have HV := Lib.hid hv
              clear hput hv HO2
              go_wp2_with fail
              refine HP.out.mono ?_
              rintro e w7 ⟨rfl, L', Z', st', hs', hsum', hlen', hask', ho⟩
              obtain ⟨f0, f2, f3⟩ := (ho.ac (by ac_rfl : _ = Sep (Blk ob (.cells #[.int .i64 xK, .int .i64 xN, .int .u64 xI, .slice bo bl bc] 37)) (Sep (PoR p bb L' Z' st') (Sep (BkR nbb nb) Emp)))).opCells
              have hns := now_save (ho.ac (by ac_rfl : _ = Sep (BkR nbb nb) (Sep (PoR p bb L' Z' st') (Sep (Blk ob (.cells #[.int .i64 xK, .int .i64 xN, .int .u64 xI, .slice bo bl bc] 37)) Emp)))) HSIX.out HNASK.out (by have := HLT.out; omega) a HA.out.1 HA.out.2 (.slice bo bl bc) xB HV.out HVL.out
              have HNS := Lib.hid hns
              have HS' := Lib.hid hs'
              have HSUM' := Lib.hid hsum'
              have HLEN' := Lib.hid hlen'
              have HASK' := Lib.hid hask'
              clear HP hs' hsum' hlen' hask' ho hns e0 e2 e3 f0 f2
              go_wp2_with fail
              refine HNS.out.mono ?_
              rintro e w8 ⟨nb8, rfl, hsix8, hval8, hnask8, ho8⟩
              have HSIX8 := Lib.hid hsix8
              have HVAL8 := Lib.hid hval8
              have HNASK8 := Lib.hid hnask8
              have HO8 := Lib.hid ho8
              clear HNS hsix8 hval8 hnask8 ho8 f3
              go_wp2_with fail
              go_meet
              refine ⟨rfl, pins, by omega, rfl, Lib.hid ⟨L', Z', st', nb8, _, HS'.out, HSUM'.out.trans HSUM.out, HLEN'.out, by have := HASK'.out; omega, HSIX8.out, fun j j1 j6 => ?_, by have := HNASK8.out; omega, ?_⟩⟩
              · rw [HVAL8.out j j1 j6]
                split
                · rfl
                · exact HVAL.out j j1 j6
              · have h9 : Own w w8 (Sep (Blk ob (.cells #[.int .i64 xK, .int .i64 xN, .int .u64 xI, .slice bo bl bc] 37)) (Sep (PoR p bb L' Z' st') (Sep (BkR nbb nb8) Emp))) := HO8.out.ac (by ac_rfl)
                exact h9.snd
          · as_aux_lemma =>
              have hpin := hold_pin HO2.out HS.out HASK.out (by have := HLT.out; omega) (by have := HSUM.out; have := HLT.out; omega) a HA.out.1 HA.out.2
              have HP := Lib.hid hpin
              clear hpin HO2 e0 e2 e3
              go_wp2_with fail
              refine HP.out.mono ?_
              rintro e w7 ⟨rfl, L', Z', st', hs', hsum', hlen', hask', ho⟩
              have HS' := Lib.hid hs'
              have HSUM' := Lib.hid hsum'
              have HLEN' := Lib.hid hlen'
              have HASK' := Lib.hid hask'
              have HO7 := Lib.hid ho
              have hp2 : (pins : Int) ≤ 200 := by have := HLT.out; omega
              have hp0 : (0 : Int) ≤ (pins : Int) := by omega
              clear HP hs' hsum' hlen' hask' ho
              go_wp2_with fail
              go_meet
              refine ⟨rfl, pins + 1, by omega, by push_cast; rfl, Lib.hid ⟨L', Z', st', nb, nv, HS'.out, by have h1 := HSUM'.out; have h2 := HSUM.out; omega, HLEN'.out, by have := HASK'.out; omega, HSIX.out, HVAL.out, by have := HNASK.out; omega, ?_⟩⟩
              have h9 : Own w w7 (Sep (Blk ob (.cells #[.int .i64 xK, .int .i64 xN, .int .u64 xI, .slice bo bl bc] 37)) (Sep (PoR p bb L' Z' st') (Sep (BkR nbb nb) Emp))) := HO7.out.ac (by ac_rfl)
              exact h9.snd
          · as_aux_lemma =>
              have hun := hold_unpin HO2.out HS.out HLEN.out HASK.out (by have := HLT.out; omega) (by have := HSUM.out; have := HLT.out; omega) a HA.out.2
              have HP := Lib.hid hun
              clear hun HO2 e0 e2 e3
              go_wp2_with fail
              refine HP.out.mono ?_
              rintro e w7 ⟨L', Z', st', ⟨rfl, hsum'⟩ | ⟨rfl, hsum'⟩, hs', hlen', hask', ho⟩
              · have hp1 : 1 ≤ pins := by have := HSUM.out; omega
                have HP1 := Lib.hid hp1
                have hp1I : (1 : Int) ≤ (pins : Int) := by omega
                have hp2 : (pins : Int) ≤ 200 := by have := HLT.out; omega
                clear hp1
                have hev := hold_evict (ho) hs' hask' (by have := HLT.out; omega)
                have HEV := Lib.hid hev
                have HSUM' := Lib.hid hsum'
                have HLEN' := Lib.hid hlen'
                clear HP hs' hsum' hlen' hask' ho hev
                go_wp2_with fail
                refine HEV.out.mono ?_
                rintro e w8 ⟨r1, r2, rfl, L8, Z8, st8, hs8, hsum8, hlen8, hask8, ho8⟩
                have HS8 := Lib.hid hs8
                have HSUM8 := Lib.hid hsum8
                have HLEN8 := Lib.hid hlen8
                have HASK8 := Lib.hid hask8
                have HO8 := Lib.hid ho8
                clear HEV hs8 hsum8 hlen8 hask8 ho8
                go_wp2_with fail
                go_meet
                refine ⟨rfl, pins - 1, by have := HLT.out; omega, by rw [Int.natCast_sub HP1.out]; rfl, Lib.hid ⟨L8, Z8, st8, nb, nv, HS8.out, by have h1 := HSUM'.out; have h2 := HSUM.out; have h3 := HSUM8.out; omega, by have h1 := HLEN'.out; have h2 := HLEN8.out; have h3 := HSUM8.out; omega, by have := HASK8.out; omega, HSIX.out, HVAL.out, by have := HNASK.out; omega, ?_⟩⟩
                have h9 : Own w w8 (Sep (Blk ob (.cells #[.int .i64 xK, .int .i64 xN, .int .u64 xI, .slice bo bl bc] 37)) (Sep (PoR p bb L8 Z8 st8) (Sep (BkR nbb nb) Emp))) := HO8.out.ac (by ac_rfl)
                exact h9.snd
              · have hev := hold_evict (ho) hs' hask' (by have := HLT.out; omega)
                have HEV := Lib.hid hev
                have HSUM' := Lib.hid hsum'
                have HLEN' := Lib.hid hlen'
                clear HP hs' hsum' hlen' hask' ho hev
                go_wp2_with fail
                refine HEV.out.mono ?_
                rintro e w8 ⟨r1, r2, rfl, L8, Z8, st8, hs8, hsum8, hlen8, hask8, ho8⟩
                have HS8 := Lib.hid hs8
                have HSUM8 := Lib.hid hsum8
                have HLEN8 := Lib.hid hlen8
                have HASK8 := Lib.hid hask8
                have HO8 := Lib.hid ho8
                clear HEV hs8 hsum8 hlen8 hask8 ho8
                go_wp2_with fail
                go_meet
                refine ⟨rfl, pins, by have := HLT.out; omega, rfl, Lib.hid ⟨L8, Z8, st8, nb, nv, HS8.out, by have h1 := HSUM'.out; have h2 := HSUM.out; have h3 := HSUM8.out; omega, by have h1 := HLEN'.out; have h2 := HLEN8.out; have h3 := HSUM8.out; omega, by have := HASK8.out; omega, HSIX.out, HVAL.out, by have := HNASK.out; omega, ?_⟩⟩
                have h9 : Own w w8 (Sep (Blk ob (.cells #[.int .i64 xK, .int .i64 xN, .int .u64 xI, .slice bo bl bc] 37)) (Sep (PoR p bb L8 Z8 st8) (Sep (BkR nbb nb) Emp))) := HO8.out.ac (by ac_rfl)
                exact h9.snd
        case rest =>
          clear HO2 HS HSUM HLEN HASK HSIX HVAL HNASK HVB HVL HBL e0 e2 e3
          obtain ⟨rfl, pins2, hp2, rfl, HX2⟩ := hcut
          obtain ⟨w8, hw8⟩ : ∃ W, W = wc := ⟨wc, rfl⟩
          subst hw8
          obtain ⟨L, Z, st, nb2, nv2, hs, hsum, hlen, hask, hsix, hval, hnask, hO⟩ := HX2.out
          have hle := plen_any hO
          have hlb := hs.len
          obtain ⟨ln, hln⟩ : ∃ l, st.L.length = l := ⟨_, rfl⟩
          rw [hln] at hle hlb hlen
          have HLE := Lib.hid hle
          have HP2 := Lib.hid hp2
          have hk2 := HLT.out.2.1
          have hm8 := HM1.out.2
          have hs1 := wrap_add2 m pins2 hm8 (by omega)
          obtain ⟨mp, hmp⟩ : ∃ n, m + pins2 = n := ⟨_, rfl⟩
          have hgt := not_gt_of hlen hsum hmp
          rw [hmp] at hs1
          clear hle hp2 hs hsum hlen hask hsix hval hnask hO hln hm8 hmp
          go_wp2_with (go_at_call 26; refine HLE.out.mono ?_; rintro e w9 ⟨rfl, rfl⟩)
          have HK2 := Lib.hid hk2
          clear HLE hgt hs1 hk2
          have hlt := HLT.out.1
          go_roundw
          case rel => exact ⟨k + 1, pins2, by omega, by have := HK2.out; omega, HP2.out, rfl, by push_cast; rfl, HX2⟩
          case measure => simp [intOf]; omega
      · by_cases hd1 : (k : Int) < (n : Int)
        · have hd2 : ¬ (k : Int) < 200 := by omega
          clear hin
          go_wp2_with fail
          go_meet
          exact ⟨k, pins, hk2, HX⟩
        · clear hin
          go_wp2_with fail
          go_meet
          exact ⟨k, pins, hk2, HX⟩
  case rest =>
    clear H3
    obtain ⟨k, pins, hk, HX⟩ := hcut
    obtain ⟨w5, hw5⟩ : ∃ W, W = wc := ⟨wc, rfl⟩
    subst hw5
    obtain ⟨L, Z, st, nb, nv, hs, hsum, hlen, hask, hsix, hval, hnask, hO⟩ := HX.out
    have hd := pdirty_any hO (by obtain ⟨D, hm⟩ := hO.poM; rw [hm.len]; have := hs.len; omega)
    have HD := Lib.hid hd
    have HS := Lib.hid hs
    have HASK : Hid (st.bk.asked.length ≤ 4000) := Lib.hid (by omega)
    have HSIX := Lib.hid hsix
    have HVAL := Lib.hid hval
    have HNASK : Hid (nb.asked.length ≤ 4000) := Lib.hid (by omega)
    clear HX hs hsum hlen hask hsix hval hnask hO hd hk
    go_wp2_with fail
    refine HD.out.mono ?_
    rintro e w6 ⟨ao, cc, l, rfl, hperm, ho⟩
    have HP := Lib.hid hperm
    have hl6 : l.length ≤ 6 := by have h1 := hperm.length_eq; have h2 := dirty_len st; have h3 := HS.out.len; omega
    have H6 : Hid (HoD w w6 p bb nbb m 0 ao cc l) := Lib.hid ⟨L, Z, st, nb, nv, HS.out, HASK.out, HSIX.out, HVAL.out, HNASK.out, fun x hx => dirty_ids (hperm.mem_iff.1 hx), fun j hj => by rw [List.drop_zero]; exact hperm.mem_iff.2 hj, ho⟩
    have HL6 := Lib.hid hl6
    obtain ⟨ln, hln⟩ : ∃ n, l.length = n := ⟨_, rfl⟩
    have HLN := Lib.hid hln
    have hln6 : (ln : Int) ≤ 6 := by omega
    rw [hln]
    clear HD HS HASK HSIX HVAL HNASK hperm ho HP hl6 hln
    go_upto_block 3 with fail
    go_cut [18] (fun _ wx => Hid (HoE w wx p bb nbb m 0))
    case first =>
      go_wp2_with fail
      go_loopw [18] (fun v wr => ∃ k : Nat, k ≤ ln ∧ v = .int .i64 (k : Int) ∧ Hid (HoD w wr p bb nbb m k ao cc l)) (fun v _ => ln - (intOf v).toNat)
      case atStart => exact ⟨0, Nat.zero_le _, rfl, H6⟩
      case round =>
        clear H6
        obtain ⟨k, hk, rfl, HY⟩ := hrel
        obtain ⟨L, Z, st, nb, nv, hs, hask, hsix, hval, hnask, hin, hdr, hO⟩ := HY.out
        have HS := Lib.hid hs
        have HASK := Lib.hid hask
        have HSIX := Lib.hid hsix
        have HVAL := Lib.hid hval
        have HNASK := Lib.hid hnask
        have HIN := Lib.hid hin
        have HDR := Lib.hid hdr
        have HO := Lib.hid hO
        clear HY hs hask hsix hval hnask hin hdr hO
        by_cases hlt : k < ln
        · have hltI : (k : Int) < (ln : Int) := by omega
          have hk0 : (0 : Int) ≤ (k : Int) := by omega
          have hkl : k < l.length := by rw [HLN.out]; exact hlt
          obtain ⟨g, rfl⟩ := own_addr HO.out (by omega)
          obtain ⟨e1, e2⟩ := cellsNu HO.out hkl
          obtain ⟨x, hx⟩ : ∃ x, l.getD k default = x := ⟨_, rfl⟩
          have hxm : x ∈ st.ids := by rw [← hx]; exact HIN.out _ (getD_mem_int hkl)
          rw [hx] at e1
          have hcl := hold_clean HO.out.swap HS.out HASK.out (by have := HL6.out; omega) x hxm
          have HC := Lib.hid hcl
          have HXD := Lib.hid hx
          have HKL := Lib.hid hkl
          clear hcl hx hkl hxm e2
          go_wp2_with fail
          refine HC.out.mono ?_
          rintro e w8 ⟨rfl, L', st', hs', hids', hdr', hask', ho⟩
          have HS' := Lib.hid hs'
          have HIDS' := Lib.hid hids'
          have HDR' := Lib.hid hdr'
          have HASK' := Lib.hid hask'
          have HO' := Lib.hid ho.swap
          clear HC hs' hids' hdr' hask' ho HO e1
          go_wp2_with fail
          go_roundw
          case rel =>
            refine ⟨k + 1, by omega, by go_num, Lib.hid ⟨L', Z, st', nb, nv, HS'.out, by have := HASK'.out; omega, HSIX.out, HVAL.out, HNASK.out, fun y hy => by rw [HIDS'.out]; exact HIN.out y hy, fun j hj => ?_, HO'.out⟩⟩
            obtain ⟨a1, a2⟩ := HDR'.out j hj
            exact drop_rest HKL.out (HDR.out j a1) (by rw [HXD.out]; exact a2)
          case measure => simp [intOf]; omega
        · obtain rfl : k = ln := by omega
          go_wp2_with fail
          go_meet
          exact Lib.hid ⟨L, Z, st, nb, nv, HS.out, by have h1 := HASK.out; have h2 := HL6.out; have h3 := HLN.out; omega, HSIX.out, HVAL.out, by have := HNASK.out; omega, drop_end (l := l) (by rw [HLN.out]; exact HDR.out), HO.out.snd⟩
    case rest =>
      clear H6 HL6 HLN hln6
      obtain ⟨w7, hw7⟩ : ∃ W, W = wc := ⟨wc, rfl⟩
      subst hw7
      have H7 := hcut
      clear hcut
      go_upto_block 5 with fail
      go_cut [19] (fun _ wx => Hid (HoE w wx p bb nbb m 7))
      case first =>
        go_wp2_with fail
        go_loopw [19] (fun v wr => ∃ k : Nat, 1 ≤ k ∧ k ≤ 7 ∧ v = .int .u64 (k : Int) ∧ Hid (HoE w wr p bb nbb m k)) (fun v _ => 7 - (intOf v).toNat)
        case atStart =>
          refine ⟨1, Nat.le_refl _, by omega, rfl, Lib.hid ?_⟩
          obtain ⟨L, Z, st, nb, nv, a1, a2, a3, a4, a5, a6, a7⟩ := H7.out
          exact ⟨L, Z, st, nb, nv, a1, by omega, a3, a4, by omega, a6, a7⟩
        case round =>
          clear H7
          obtain ⟨k, hk1, hk7, rfl, HY⟩ := hrel
          by_cases hlt : k ≤ 6
          · have hltI : (k : Int) ≤ 6 := by omega
            have hk0 : (0 : Int) ≤ (k : Int) := by omega
            obtain ⟨L, Z, st, nb, nv, hs, hask, hsix, hval, hnask, hdr, hO⟩ := HY.out
            have hlo := hold_load hO hs hask (by omega) k hk1 hlt (hs.clear hdr (by omega) (by omega))
            have HLO := Lib.hid hlo
            have HSIX := Lib.hid hsix
            have HVAL := Lib.hid hval
            have HNASK := Lib.hid hnask
            have HDR := Lib.hid hdr
            have HK := Lib.hid (⟨hk1, hlt⟩ : 1 ≤ k ∧ k ≤ 6)
            obtain ⟨nl, hnlen⟩ : ∃ l, (nv k).length = l := ⟨_, rfl⟩
            have HNLE := Lib.hid hnlen
            clear HY hs hask hsix hval hnask hdr hO hlo hnlen
            go_wp2_with fail
            refine HLO.out.mono ?_
            rintro e w8 ⟨ao8, c8, st8, rfl, hs8, hL8, hval8, hask8, ho8⟩
            have hnl := now_load (ho8.ac (by ac_rfl : _ = Sep (BkR nbb nb) (Sep (Fix fun w => SlC w (.slice ao8 (nv k).length c8) (nv k)) (Sep (PoR p bb L Z st8) Emp)))) HSIX.out HNASK.out (by omega) k HK.out.1 HK.out.2 (HVAL.out k (by have := HK.out; omega) (by have := HK.out; omega))
            have HNL := Lib.hid hnl
            have HS8 := Lib.hid hs8
            have HL8 := Lib.hid hL8
            have HASK8 := Lib.hid hask8
            rw [HNLE.out]
            clear HLO hnl hs8 hL8 hval8 hask8 ho8
            go_wp2_with fail
            refine HNL.out.mono ?_
            rintro e w9 ⟨ao9, c9, nb9, rfl, hsix9, hval9, hnask9, ho9⟩
            have hs1 := ho9.fixed
            have hs2 := (ho9.ac (by ac_rfl : _ = Sep (Fix fun w => SlC w (.slice ao8 (nv k).length c8) (nv k)) (Sep (Fix fun w => SlC w (.slice ao9 (nv k).length c9) (nv k)) (Sep (BkR nbb nb9) (Sep (PoR p bb L Z st8) Emp))))).fixed
            have hby := raw_bytes _ _ (nv k) w9 hs2 hs1
            rw [HNLE.out] at hby
            have HBY := Lib.hid hby
            have HSIX9 := Lib.hid hsix9
            have HVAL9 := Lib.hid hval9
            have HNASK9 := Lib.hid hnask9
            have HO9 := Lib.hid ho9
            rw [HNLE.out]
            clear HNL hsix9 hval9 hnask9 ho9 hs1 hs2 hby
            go_wp2_with (go_at_call 12; refine HBY.out.mono ?_; rintro e w10 ⟨rfl, rfl⟩)
            go_roundw
            case rel =>
              refine ⟨k + 1, by omega, by omega, by go_num, Lib.hid ⟨L, Z, st8, nb9, nv, HS8.out, by have := HASK8.out; omega, HSIX9.out, fun j j1 j6 => by rw [HVAL9.out]; exact HVAL.out j j1 j6, by have := HNASK9.out; omega, by unfold Po.dirty; rw [HL8.out]; exact HDR.out, ?_⟩⟩
              have h9 : Own w w9 (Sep (Fix fun w => SlC w (.slice ao9 (nv k).length c9) (nv k)) (Sep (Fix fun w => SlC w (.slice ao8 (nv k).length c8) (nv k)) (Sep (PoR p bb L Z st8) (Sep (BkR nbb nb9) Emp)))) := HO9.out.ac (by ac_rfl)
              exact h9.snd.snd
            case measure => simp [intOf]; omega
          · obtain rfl : k = 7 := by omega
            go_wp2_with fail
            go_meet
            exact HY
      case rest =>
        clear H7
        obtain ⟨w8, hw8⟩ : ∃ W, W = wc := ⟨wc, rfl⟩
        subst hw8
        obtain ⟨L, Z, st, nb, nv, hs, hask, hsix, hval, hnask, hdr, hO⟩ := hcut.out
        have hd := pdirty_any hO (by obtain ⟨D, hm⟩ := hO.poM; rw [hm.len]; have := hs.len; omega)
        have HD := Lib.hid hd
        have HDR := Lib.hid hdr
        clear hcut hs hask hsix hval hnask hdr hO hd
        go_wp2_with fail
        refine HD.out.mono ?_
        rintro e w9 ⟨ao9, cc9, l9, rfl, hp9, ho9⟩
        obtain rfl : l9 = [] := by rw [HDR.out] at hp9; exact hp9.eq_nil
        have HO9 := Lib.hid ho9
        clear HD ho9 hp9
        go_wp2_with fail
        go_ret
        exact ⟨rfl, HO9.out.only⟩

end Go.Proofs.Ytlfmkjapglalpaa
