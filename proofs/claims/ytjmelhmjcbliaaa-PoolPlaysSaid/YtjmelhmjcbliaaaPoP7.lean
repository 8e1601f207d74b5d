/-
  Package pool: find.
-/
import Derived.Test.YtjmelhmjcbliaaaPoP6
namespace Go.Proofs.Ytjmelhmjcbliaaa
open Go Go.RowKit
set_option linter.unusedVariables false
set_option linter.unusedSimpArgs false
set_option maxRecDepth 100000

theorem zero_pl (w : World) : (zeroValue 67).run Try.prog w = .ok (.pointer none) w := by rfl
/-- What a look into the map tells. -/
theorem look_pl {ops : Array Oper} {rest : List Oper} {o : Oper} {a : Act} {Q : Exit → Act → World → Prop} {w : World} (hg : o.guard = none) (m x : Operand) (hop : o.op = Op.lookup 63 m x true) (mb : Nat) (D : DataW Value)
    (hm : a.eval m = .map (some mb)) (hown : w.ownsMap Try.prog 34 Rv mb (Maps.size D) D) (i : Int) (hx : a.eval x = .int .u64 i) (h0 : 0 ≤ i) (h1 : i < 18446744073709551616) (v0 : Value) (b0 : Bool) (hv : D.atKey (kd i) (.held (.pointer none)) = .held v0) (hb : Maps.has D (kd i) = b0)
    (hK : wpList Try.prog ops Q rest (a.put o.dst (.tuple #[v0, .bool b0])) w) : wpList Try.prog ops Q (o :: rest) a w := by
  refine wpList_lookup_own_ok w hg m x 63 hop 34 67 kU64 Try.underlying63 Rv (zero_pl w) (.held (.pointer none)) [] rfl mb (Maps.size D) D hm hown _ (kd i) hx (key_kd h0 h1) ?_
  intro v ps hv'
  rw [hv] at hv'
  unfold Rv at hv'
  simp only [Option.some.injEq, Prod.mk.injEq, DataW.held.injEq] at hv'
  rw [hv'.1, hb]
  exact hK
theorem lookP_ix {id : Int} : ∀ {L : List Pb} {i : Nat}, ixOf id (L.map (·.v.id)) = some i → lookP id L = ptr (L.getD i default).k
  | [], i, h => by cases h
  | x :: L, i, h => by
    rw [List.map_cons, ixOf] at h
    split at h
    · rename_i e
      simp only [Option.some.injEq] at h
      subst h
      show (if x.v.id = id then _ else _) = _
      rw [if_pos e]
      rfl
    · rename_i e
      rw [Option.map_eq_some_iff] at h
      obtain ⟨k, hk, rfl⟩ := h
      show (if x.v.id = id then _ else _) = _
      rw [if_neg e]
      exact lookP_ix hk
theorem PoM.look_some {D : DataW Value} {L : List Pb} {st : Po} (h : PoM D L st) {id : Int} (h0 : 0 ≤ id) (h1 : id < 18446744073709551616) {i : Nat} (hi : st.ix id = some i) : D.atKey (kd id) (.held (.pointer none)) = .held (ptr (L.getD i default).k) ∧ Maps.has D (kd id) = true ∧ i < L.length := by
  unfold Po.ix at hi
  have h2 := ixOf_some hi
  refine ⟨?_, (h.has id h0 h1).2 (List.mem_of_getElem? h2.2.1), ?_⟩
  · rw [h.at' id h0 h1]
    rw [h.ids] at hi
    rw [lookP_ix hi]
  · have h3 := h2.1
    rw [h.ids, List.length_map] at h3
    exact h3
theorem PoM.look_none {D : DataW Value} {L : List Pb} {st : Po} (h : PoM D L st) {id : Int} (h0 : 0 ≤ id) (h1 : id < 18446744073709551616) (hi : st.ix id = none) : D.atKey (kd id) (.held (.pointer none)) = .held (.pointer none) ∧ Maps.has D (kd id) = false := by
  have h2 := ixOf_none hi
  refine ⟨?_, ?_⟩
  · rw [h.at' id h0 h1, lookP_none (by rw [← h.ids]; exact h2)]
  · rw [← Bool.not_eq_true, h.has id h0 h1]
    exact h2
theorem PoM.bk {D : DataW Value} {L : List Pb} {st : Po} (h : PoM D L st) (b : Bk) : PoM D L { st with bk := b } := ⟨h.v, ⟨h.ok.nd, h.ok.r, h.ok.h⟩, h.tidy, h.has, h.at', h.size⟩
theorem BytesOk.put {A : List Pb} {w : World} (h : BytesOk A w) {i : Nat} {x : Pb} (hs : SlC w (.slice x.ao x.v.b.length x.c) x.v.b) (hl : x.v.b.length ≤ 140737488351232) : BytesOk (A.set i x) w := fun y hy => by
  rcases List.mem_or_eq_of_mem_set hy with h5 | rfl
  · exact h y h5
  · exact ⟨hs, hl⟩
theorem getD_end {α : Type} {L : List α} {x d : α} : (L ++ [x]).getD L.length d = x := by simp [List.getD_eq_getElem?_getD]
theorem set_end {α : Type} : ∀ {L : List α} {x y : α}, (L ++ [x]).set L.length y = L ++ [y]
  | [], x, y => rfl
  | z :: L, x, y => by
    show z :: (L ++ [x]).set L.length y = z :: (L ++ [y])
    rw [set_end]
/-- What find leaves. -/
def FindPost (w0 w' : World) (p bb : Nat) (L Z : List Pb) (st : Po) (id : Int) (J : Res) (e : Ending) : Prop :=
  ∃ L', Keeps (L ++ Z) (L' ++ Z) ∧ ((∃ i, (st.find id).2 = some i ∧ i < L'.length ∧ e = .returned (.tuple #[ptr (L'.getD i default).k, .int .i64 0])) ∨ ((st.find id).2 = none ∧ e = .returned (.tuple #[.pointer none, .int .i64 2]))) ∧ Own w0 w' (Sep (PoR p bb L' Z (st.find id).1) J)
theorem find_some {st : Po} {id : Int} {i : Nat} (h : st.ix id = some i) : st.find id = (st, some i) := by unfold Po.find; rw [h]
theorem find_bad {st : Po} {id : Int} (h : st.ix id = none) (h2 : (st.bk.load id).2 = none) : st.find id = ({ st with bk := (st.bk.load id).1 }, none) := by unfold Po.find; rw [h]; dsimp only; rw [h2]
theorem find_come {st : Po} {id : Int} {b : List UInt8} (h : st.ix id = none) (h2 : (st.bk.load id).2 = some b) : st.find id = ({ st with bk := (st.bk.load id).1, L := st.L ++ [⟨id, b, false, 0, false⟩] }, some st.L.length) := by unfold Po.find; rw [h]; dsimp only; rw [h2]
set_option maxHeartbeats 4000000 in
theorem pfind_any {w0 w : World} {p bb : Nat} {L Z : List Pb} {st : Po} {J : Res} [Stab J] (h : Own w0 w (Sep (PoR p bb L Z st) J)) (id : Int) (h0 : 0 ≤ id) (h1 : id < 18446744073709551616) (hl : L.length ≤ 1000000000) (hq : st.bk.asked.length ≤ 1000000000) (hb : st.bk.ids.length ≤ 1000000000) :
    Calls Try.prog 33 #[ptr p, .int .u64 id] w (fun e w' => FindPost w0 w' p bb L Z st id J e) := by
  have HS := Lib.hid h
  have HL := Lib.hid hl
  have HB := Lib.hid (⟨hq, hb⟩ : st.bk.asked.length ≤ 1000000000 ∧ st.bk.ids.length ≤ 1000000000)
  have HR := Lib.hid (⟨h0, h1⟩ : 0 ≤ id ∧ id < 18446744073709551616)
  obtain ⟨mb, ro, rc, D, hm, hs, hO⟩ := h.openPo
  unfold poc at hO
  obtain ⟨n, hn⟩ : ∃ n, L.length = n := ⟨_, rfl⟩
  rw [hn] at hO
  obtain ⟨c0, c1, c2, c3, c4⟩ := hO.blk5c.1
  have HMP := Lib.hid hO.snd.snd.map
  have HN := Lib.hid hn
  have HM := Lib.hid hm
  have HSH := Lib.hid hs
  have HO := Lib.hid (hO.ac (by ac_rfl : _ = Sep (BkR bb st.bk) (Sep (Blk p (.cells #[backV bb, .int .i64 (st.most : Int), .slice ro n rc, .map (some mb), .int .i64 (st.hand : Int)] 66)) (Sep (RowG 67 (.slice ro n rc) L) (Sep (MapR mb D) (Sep (PlsR (L ++ Z)) (Sep (Fix (BytesOk (L ++ Z))) J)))))))
  clear h h0 h1 hl hq hb hs hO hn
  cases hix : st.ix id with
  | some i =>
    obtain ⟨l1, l2, l3⟩ := hm.look_some HR.out.1 HR.out.2 hix
    have HF := Lib.hid (find_some hix)
    have HL1 := Lib.hid l1
    have HL2 := Lib.hid l2
    have HL3 := Lib.hid l3
    obtain ⟨xk, hxk⟩ : ∃ k, (L.getD i default).k = k := ⟨_, rfl⟩
    have HXK := Lib.hid hxk
    rw [hxk] at HL1
    clear hm l1 l2 l3 hix hxk
    go_enter Try.func33, Try.ntmps33
    go_wp2_with (at_lookup; refine look_pl rfl _ _ rfl mb D rfl HMP.out id rfl HR.out.1 HR.out.2 (ptr xk) true HL1.out HL2.out ?_)
    go_ret2
    refine ⟨L, Keeps.refl _, .inl ⟨i, by rw [HF.out], HL3.out, by rw [HXK.out]; rfl⟩, ?_⟩
    rw [HF.out]
    exact HS.out
  | none =>
    obtain ⟨l1, l2⟩ := hm.look_none HR.out.1 HR.out.2 hix
    have HIX := Lib.hid hix
    have HL1 := Lib.hid l1
    have HL2 := Lib.hid l2
    clear hm l1 l2 hix
    go_enter Try.func33, Try.ntmps33
    go_wp2_with (at_lookup; refine look_pl rfl _ _ rfl mb D rfl HMP.out id rfl HR.out.1 HR.out.2 (.pointer none) false HL1.out HL2.out ?_)
    refine (bload_any HO.out id HB.out.1 HB.out.2).mono ?_
    rintro e w2 (⟨x, ao, c, hx, hxl, rfl, hown⟩ | ⟨hx, rfl, hown⟩)
    · have HF := Lib.hid (find_come HIX.out hx)
      have HXL := Lib.hid hxl
      obtain ⟨B, hB⟩ : ∃ B, (st.bk.load id).1 = B := ⟨_, rfl⟩
      rw [hB] at hown HF
      obtain ⟨st1, hst1⟩ : ∃ s : Po, s = { st with bk := B } := ⟨_, rfl⟩
      have HST1 := Lib.hid hst1
      have hpo : Own w0 w2 (Sep (PoR p bb L Z st1) (Sep (Fix fun w => SlC w (.slice ao x.length c) x) J)) := by
        rw [hst1]
        refine Own.shutPo (mb := mb) (ro := ro) (rc := rc) (D := D) (HM.out.bk _) HSH.out ?_
        unfold poc
        rw [HN.out]
        exact hown.ac (by ac_rfl)
      have HO2 := Lib.hid hpo
      have hnid : id ∉ st1.ids := by rw [hst1]; exact ixOf_none HIX.out
      have hcome := pcome_any hpo id HR.out.1 HR.out.2 hnid HL.out
      have HC := Lib.hid hcome
      obtain ⟨xn, hxn⟩ : ∃ n, x.length = n := ⟨_, rfl⟩
      have HXN := Lib.hid hxn
      rw [hxn]
      clear hx hxl hB hst1 hpo hnid hcome hown hxn HO
      go_wp2_with fail
      refine HC.out.mono ?_
      rintro e w3 ⟨k, rfl, hown⟩
      obtain ⟨st2, hst2⟩ : ∃ s : Po, s = { st1 with L := st1.L ++ [⟨id, [], false, 0, false⟩] } := ⟨_, rfl⟩
      rw [← hst2] at hown
      have HST2 := Lib.hid hst2
      have hli : L.length < (L ++ [(⟨k, none, 0, ⟨id, [], false, 0, false⟩⟩ : Pb)]).length := by rw [List.length_append]; exact Nat.lt_succ_self _
      obtain ⟨mb2, ro2, rc2, D2, hm2, hs2, h4⟩ := hown.openPl hli
      rw [getD_end] at h4
      have HM2 := Lib.hid hm2
      have HSH2 := Lib.hid hs2
      have HLI := Lib.hid hli
      unfold PlB plc at h4
      dsimp only at h4
      have hsl := h4.snd.snd.snd.snd.snd.snd.snd.fixed
      have hcl := clone_by _ x w3 hsl (by have := HXL.out; omega)
      rw [HXN.out] at hcl
      have HCL := Lib.hid hcl
      have HO4 := Lib.hid h4
      clear HC hst2 hli hm2 hs2 h4 hsl hcl hown HO2
      go_wp2_with fail
      refine HCL.out.mono ?_
      rintro e w4 ⟨v', rfl, hrow, ho⟩
      rw [← HXN.out] at hrow
      obtain ⟨bo, bc, rfl, hown2⟩ := HO4.out.bytesFix ho hrow
      rw [HXN.out] at hown2
      have HO5 := Lib.hid hown2.swap
      clear HCL hrow ho hown2 HO4
      obtain ⟨⟨d0, d1, d2, d3, d4⟩, q0, q1, q2, q3, q4⟩ := HO5.out.blk5c
      rw [HXN.out]
      go_wp2_with fail
      have HO6 := Lib.hid (HO5.out.store 1 (.slice bo xn bc))
      generalize World.setCell w4 _ _ = w5 at *
      clear HO5 d0 d1 d2 d3 d4 q0 q1 q2 q3 q4
      go_ret2
      have h7 : Own w0 w5 (Sep (Fix fun w => SlC w (.slice bo xn bc) x) (Sep (Fix (BytesOk ((L ++ [(⟨k, none, 0, ⟨id, [], false, 0, false⟩⟩ : Pb)]) ++ Z))) (Sep (Blk k (.cells #[.int .u64 id, .slice bo xn bc, .bool false, .int .i64 0, .bool false] 71)) (Sep (PlsR (((L ++ [(⟨k, none, 0, ⟨id, [], false, 0, false⟩⟩ : Pb)]) ++ Z).eraseIdx L.length)) (Sep (Blk p (.cells (poc bb mb2 ro2 rc2 (L ++ [(⟨k, none, 0, ⟨id, [], false, 0, false⟩⟩ : Pb)]) st2) 66)) (Sep (RowG 67 (.slice ro2 (L ++ [(⟨k, none, 0, ⟨id, [], false, 0, false⟩⟩ : Pb)]).length rc2) (L ++ [(⟨k, none, 0, ⟨id, [], false, 0, false⟩⟩ : Pb)])) (Sep (MapR mb2 D2) (Sep (BkR bb st2.bk) J)))))))) := (HO6.out.ac (by simp only [List.setIfInBounds_toArray, List.set_cons_zero, List.set_cons_succ]; ac_rfl : _ = Sep (Fix fun w => SlC w (.slice ao xn c) x) (Sep (Fix fun w => SlC w (.slice bo xn bc) x) (Sep (Fix (BytesOk ((L ++ [(⟨k, none, 0, ⟨id, [], false, 0, false⟩⟩ : Pb)]) ++ Z))) (Sep (Blk k (.cells #[.int .u64 id, .slice bo xn bc, .bool false, .int .i64 0, .bool false] 71)) (Sep (PlsR (((L ++ [(⟨k, none, 0, ⟨id, [], false, 0, false⟩⟩ : Pb)]) ++ Z).eraseIdx L.length)) (Sep (Blk p (.cells (poc bb mb2 ro2 rc2 (L ++ [(⟨k, none, 0, ⟨id, [], false, 0, false⟩⟩ : Pb)]) st2) 66)) (Sep (RowG 67 (.slice ro2 (L ++ [(⟨k, none, 0, ⟨id, [], false, 0, false⟩⟩ : Pb)]).length rc2) (L ++ [(⟨k, none, 0, ⟨id, [], false, 0, false⟩⟩ : Pb)])) (Sep (MapR mb2 D2) (Sep (BkR bb st2.bk) J)))))))))).snd
      have h8 := h7.fix2
      have h9 := Own.turnPl (J := J) (Z := Z) (mb := mb2) (p := p) (bb := bb) (P := fun w => SlC w (.slice bo xn bc) x ∧ BytesOk ((L ++ [(⟨k, none, 0, ⟨id, [], false, 0, false⟩⟩ : Pb)]) ++ Z) w) (st := st2) (x := ⟨k, bo, bc, ⟨id, x, false, 0, false⟩⟩) HM2.out HSH2.out HLI.out (by rw [getD_end]) (by rw [getD_end]) (fun w hw => BytesOk.put hw.2 (by rw [HXN.out]; exact hw.1) HXL.out) (by unfold PlB plc; dsimp only; rw [HXN.out]; exact h8.ac (by ac_rfl))
      rw [set_end] at h9
      refine ⟨L ++ [⟨k, bo, bc, ⟨id, x, false, 0, false⟩⟩], Keeps.left fun y hy => ⟨y, List.mem_append.2 (.inl hy), rfl, rfl, rfl, rfl, rfl⟩, .inl ⟨L.length, ?_, ?_, ?_⟩, ?_⟩
      · rw [HF.out, HM.out.len]
      · rw [List.length_append]; exact Nat.lt_succ_self _
      · rw [getD_end]; rfl
      · rw [HF.out]
        have e : st2.turn L.length ⟨id, x, false, 0, false⟩ = { st with bk := B, L := st.L ++ [⟨id, x, false, 0, false⟩] } := by
          rw [HST2.out, HST1.out]
          unfold Po.turn
          dsimp only
          rw [HM.out.len, set_end]
        rw [← e]
        exact h9
    · have HF := Lib.hid (find_bad HIX.out hx)
      have HO2 := Lib.hid hown
      clear hx hown
      go_wp2_with fail
      go_ret2
      refine ⟨L, Keeps.refl _, .inr ⟨by rw [HF.out], rfl⟩, ?_⟩
      rw [HF.out]
      refine Own.shutPo (mb := mb) (ro := ro) (rc := rc) (D := D) (HM.out.bk _) HSH.out ?_
      unfold poc
      rw [HN.out]
      exact HO2.out.ac (by ac_rfl)

end Go.Proofs.Ytjmelhmjcbliaaa
