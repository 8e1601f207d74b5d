/-
  Package pool: a place is taken out. (Written by wip/tools/genpop3.py.)
-/
import Derived.Test.YtjmelhmjcbliaaaPoP2
import Derived.Test.YtjmelhmjcbliaaaPoDel
namespace Go.Proofs.Ytjmelhmjcbliaaa
open Go Go.RowKit
set_option linter.unusedVariables false
set_option linter.unusedSimpArgs false
set_option maxRecDepth 100000

theorem step_delete {ops : Array Oper} {o : Oper} {a : Act} {w : World} {K : Act → World → Prop} {Q : Exit → Act → World → Prop} {E : Prop} (hg : o.guard = none) (m x : Operand) (t : TypeId) (hop : o.op = Op.call { callee := Callee.builtin Builtin.delete, args := #[m, x], argTypes := #[t, 34] }) (e : TypeId) (ht : Try.prog.underlying t = some (.map 34 e)) (mb : Nat) (D : DataW Value)
    (hm : a.eval m = .map (some mb)) (hown : w.ownsMap Try.prog 34 Rv mb (Maps.size D) D) (i : Int) (hx : a.eval x = .int .u64 i) (h0 : 0 ≤ i) (h1 : i < 18446744073709551616)
    (hK : ∀ w', w'.ownsMap Try.prog 34 Rv mb (Maps.size D) (D.del (kd i)) → w.mapTurned w' mb → K (a.put o.dst (.tuple #[])) w') : if Region.wanted o (yielded ops a.tmps) = true then Oper.wp Try.prog o a w K Q else E := by
  have hw : Region.wanted o (yielded ops a.tmps) = true := by simp [Region.wanted, hg]
  rw [if_pos hw]
  obtain ⟨w', hrun, r1, r2⟩ := hown.drop kU64 ht (key_kd h0 h1) o.type
  unfold Oper.wp
  simp [execOp, hop, resolve, invoke, builtin, hm, hx, hrun, Result.andThen]
  exact hK w' r1 r2
theorem perm_erase : ∀ {L : List Pb} {i : Nat}, i < L.length → L.Perm (L.getD i default :: L.eraseIdx i)
  | [], i, h => by simp at h
  | x :: L, 0, _ => List.Perm.refl _
  | x :: L, i + 1, h => by
    have h1 := perm_erase (L := L) (i := i) (by simpa using h)
    exact (h1.cons x).trans (List.Perm.swap _ _ _)
theorem PlsR.out {L Z : List Pb} {i : Nat} (hi : i < L.length) : PlsR (L ++ Z) = PlsR (L.eraseIdx i ++ (L.getD i default :: Z)) := by
  rw [PlsR.at (L := L ++ Z) (i := i) (by rw [List.length_append]; omega), getD_left hi, List.eraseIdx_append_of_lt_length hi]
  show PlsR (L.getD i default :: (L.eraseIdx i ++ Z)) = _
  exact PlsR.perm (List.perm_middle (a := L.getD i default) (l₁ := L.eraseIdx i) (l₂ := Z)).symm
theorem BytesOk.out {L Z : List Pb} {i : Nat} {w : World} (hi : i < L.length) (h : BytesOk (L ++ Z) w) : BytesOk (L.eraseIdx i ++ (L.getD i default :: Z)) w := fun y hy => by
  rw [List.mem_append, List.mem_cons] at hy
  rcases hy with hy | hy | hy
  · exact h y (List.mem_append.2 (.inl (List.mem_of_mem_eraseIdx hy)))
  · subst hy
    exact h _ (List.mem_append.2 (.inl (getD_mem hi _)))
  · exact h y (List.mem_append.2 (.inr hy))
theorem Keeps.out {L Z : List Pb} {i : Nat} (hi : i < L.length) : Keeps (L ++ Z) (L.eraseIdx i ++ (L.getD i default :: Z)) := fun x hx => by
  refine ⟨x, ?_, rfl, rfl, rfl, rfl, rfl⟩
  have h1 : (L ++ Z).Perm (L.eraseIdx i ++ (L.getD i default :: Z)) := by
    have h2 := perm_erase hi
    exact (h2.append_right Z).trans (List.perm_middle (a := L.getD i default) (l₁ := L.eraseIdx i) (l₂ := Z)).symm
  exact h1.mem_iff.1 hx
theorem Own.shutOut {w0 w : World} {p bb mb : Nat} {ro : Option Addr} {rc n : Nat} {D : DataW Value} {L Z : List Pb} {st : Po} {J : Res} {i : Nat} {H : Int} (hm : PoM D L st) (hi : i < L.length) (hn : n = (L.eraseIdx i).length) (hH : H = (outH st.L.length st.hand i : Int)) (hs : Shp ro n rc)
    (h : Own w0 w (Sep (Blk p (.cells #[backV bb, .int .i64 (st.most : Int), .slice ro n rc, .map (some mb), .int .i64 H] 66)) (Sep (RowG 67 (.slice ro n rc) (L.eraseIdx i)) (Sep (MapR mb (D.del (kd (L.getD i default).v.id))) (Sep (PlsR (L ++ Z)) (Sep (Fix (BytesOk (L ++ Z))) (Sep (BkR bb st.bk) J))))))) :
    Own w0 w (Sep (PoR p bb (L.eraseIdx i) (L.getD i default :: Z) (st.out i)) J) := by
  subst hn hH
  rw [PlsR.out hi] at h
  have h2 := (h.ac (by ac_rfl : _ = Sep (Fix (BytesOk (L ++ Z))) (Sep (Blk p (.cells #[backV bb, .int .i64 (st.most : Int), .slice ro (L.eraseIdx i).length rc, .map (some mb), .int .i64 (outH st.L.length st.hand i : Int)] 66)) (Sep (RowG 67 (.slice ro (L.eraseIdx i).length rc) (L.eraseIdx i)) (Sep (MapR mb (D.del (kd (L.getD i default).v.id))) (Sep (PlsR (L.eraseIdx i ++ (L.getD i default :: Z))) (Sep (BkR bb st.bk) J))))))).fixI (fun w hw => BytesOk.out hi hw)
  exact Own.shutPo (hm.cut hi) hs (h2.ac (by ac_rfl))
/-- What out leaves. -/
def OutPost (w0 w' : World) (p bb : Nat) (L Z : List Pb) (st : Po) (i : Nat) (J : Res) (e : Ending) : Prop := e = .returned (.tuple #[]) ∧ Own w0 w' (Sep (PoR p bb (L.eraseIdx i) (L.getD i default :: Z) (st.out i)) J)
set_option maxHeartbeats 8000000 in
theorem pout_any {w0 w : World} {p bb : Nat} {L Z : List Pb} {st : Po} {J : Res} [Stab J] (h : Own w0 w (Sep (PoR p bb L Z st) J)) (i : Nat) (hi : i < L.length) (hl : L.length ≤ 1000000000) :
    Calls Try.prog 41 #[ptr p, .int .i64 (i : Int)] w (fun e w' => OutPost w0 w' p bb L Z st i J e) := by
  obtain ⟨mb, ro, rc, D, hm, hs, hO⟩ := h.openPo
  have HM := Lib.hid hm
  have HI := Lib.hid hi
  have HL := Lib.hid hl
  obtain ⟨x, hx⟩ : ∃ x, L.getD i default = x := ⟨_, rfl⟩
  have HX := Lib.hid hx
  have hxm : x ∈ L := by rw [← hx]; exact getD_mem hi default
  have HR : Hid (0 ≤ x.v.id ∧ x.v.id < 18446744073709551616) := Lib.hid (hm.ok.r x.v (by rw [← hm.v]; exact List.mem_map.2 ⟨x, hxm, rfl⟩))
  obtain ⟨g, rfl⟩ := own_addr hO.swap (by omega)
  obtain ⟨n, hn⟩ : ∃ n, L.length = n := ⟨_, rfl⟩
  have HN := Lib.hid hn
  have HNS : Hid (st.L.length = n) := Lib.hid (by rw [← hm.len]; exact hn)
  have HHD := Lib.hid hm.ok.h
  unfold poc at hO
  rw [hn] at hO hi hl
  obtain ⟨hd, hhd⟩ : ∃ h, st.hand = h := ⟨_, rfl⟩
  rw [hhd] at hO
  have HHH := Lib.hid hhd
  have HO := Lib.hid hO
  have HOd := Lib.hid hO.drew
  have hR : ∀ {W : World} {R : Res} {DD : DataW Value}, Own w0 W (Sep (Blk p (.cells #[backV bb, .int .i64 (st.most : Int), .slice (some ⟨g, 0, none⟩) n rc, .map (some mb), .int .i64 (hd : Int)] 66)) (Sep (RowG 67 (.slice (some ⟨g, 0, none⟩) n rc) L) (Sep (MapR mb DD) (Sep (PlsR (L ++ Z)) R)))) → W.cell? ⟨p, 3, none⟩ = some (.map (some mb)) ∧ W.cell? ⟨p, 2, none⟩ = some (.slice (some ⟨g, 0, none⟩) n rc) ∧ W.cell? ⟨g, i, none⟩ = some (ptr x.k) ∧ W.cell? ⟨x.k, 0, none⟩ = some (.int .u64 x.v.id) := fun H => by
    have e1 := H.blk5c.1
    obtain ⟨g2, off, e2, e3⟩ := H.swap.rowSlg.pb (j := i) HI.out
    simp only [Option.some.injEq, Addr.mk.injEq, and_true] at e2
    obtain ⟨rfl, rfl⟩ := e2
    rw [HX.out, Nat.zero_add] at e3
    have e4 := (H.snd.snd.snd.plAt (i := i) (by rw [List.length_append]; have := HI.out; omega)).blk5c.1
    rw [getD_left HI.out, HX.out] at e4
    exact ⟨e1.2.2.2.1, e1.2.2.1, e3, e4.1⟩
  have HRR := Lib.hid (hR HOd.out)
  have hiI : (i : Int) < (n : Int) := by omega
  have hi0 : (0 : Int) ≤ (i : Int) := by omega
  clear h hm hs hO hx hxm hhd
  go_enter Try.func41, Try.ntmps41
  go_upto_region 0 with fail
  clear HO
  refine anyG.start (fun w' => w'.cell? ⟨p, 3, none⟩ = some (.map (some mb)) ∧ w'.cell? ⟨p, 2, none⟩ = some (.slice (some ⟨g, 0, none⟩) n rc) ∧ w'.cell? ⟨g, i, none⟩ = some (ptr x.k) ∧ w'.cell? ⟨x.k, 0, none⟩ = some (.int .u64 x.v.id)) [] (by kernel_rfl) ?_ (fun hHeld => ?_)
  · exact HRR.out
  refine anyG.take [] (i := 0) (oi := ?_) (v := ?_) ?_ (by kernel_rfl) (by kernel_rfl) (by kernel_rfl) (by kernel_rfl) (by kernel_rfl) (by kernel_rfl) ?_ (Or.inl ⟨?_, ?_⟩) (by assumption) ?_
  rotate_left 2
  · (simp only [List.getElem?_toArray, List.getElem?_cons_zero]; rfl)
  · exact fun _ _ _ h => h
  · rfl
  · (intro w hSw; (try dsimp only at hSw); go_simp <;> with_reducible rfl)
  (try simp only [Act.put, List.setIfInBounds_toArray, List.set_cons_zero, List.set_cons_succ])
  refine anyG.take [] (i := 1) (oi := ?_) (v := ?_) ?_ (by kernel_rfl) (by kernel_rfl) (by kernel_rfl) (by kernel_rfl) (by kernel_rfl) (by kernel_rfl) ?_ (Or.inl ⟨?_, ?_⟩) (by assumption) ?_
  rotate_left 2
  · (simp only [List.getElem?_toArray, List.getElem?_cons_succ, List.getElem?_cons_zero]; rfl)
  · exact fun _ _ _ h => h
  · rfl
  · (intro w hSw; (try dsimp only at hSw); go_simp <;> with_reducible rfl)
  (try simp only [Act.put, List.setIfInBounds_toArray, List.set_cons_zero, List.set_cons_succ])
  refine anyG.take [] (i := 2) (oi := ?_) (v := ?_) ?_ (by kernel_rfl) (by kernel_rfl) (by kernel_rfl) (by kernel_rfl) (by kernel_rfl) (by kernel_rfl) ?_ (Or.inl ⟨?_, ?_⟩) (by assumption) ?_
  rotate_left 2
  · (simp only [List.getElem?_toArray, List.getElem?_cons_succ, List.getElem?_cons_zero]; rfl)
  · exact fun _ _ _ h => h
  · rfl
  · (intro w hSw; (try dsimp only at hSw); go_simp <;> with_reducible rfl)
  (try simp only [Act.put, List.setIfInBounds_toArray, List.set_cons_zero, List.set_cons_succ])
  refine anyG.take [] (i := 3) (oi := ?_) (v := ?_) ?_ (by kernel_rfl) (by kernel_rfl) (by kernel_rfl) (by kernel_rfl) (by kernel_rfl) (by kernel_rfl) ?_ (Or.inl ⟨?_, ?_⟩) (by assumption) ?_
  rotate_left 2
  · (simp only [List.getElem?_toArray, List.getElem?_cons_succ, List.getElem?_cons_zero]; rfl)
  · exact fun _ _ _ h => h
  · rfl
  · (intro w hSw; (try dsimp only at hSw); go_simp <;> with_reducible rfl)
  (try simp only [Act.put, List.setIfInBounds_toArray, List.set_cons_zero, List.set_cons_succ])
  refine anyG.take [] (i := 4) (oi := ?_) (v := ?_) ?_ (by kernel_rfl) (by kernel_rfl) (by kernel_rfl) (by kernel_rfl) (by kernel_rfl) (by kernel_rfl) ?_ (Or.inl ⟨?_, ?_⟩) (by assumption) ?_
  rotate_left 2
  · (simp only [List.getElem?_toArray, List.getElem?_cons_succ, List.getElem?_cons_zero]; rfl)
  · exact fun _ _ _ h => h
  · rfl
  · (intro w hSw; (try dsimp only at hSw); go_simp <;> with_reducible rfl)
  (try simp only [Act.put, List.setIfInBounds_toArray, List.set_cons_zero, List.set_cons_succ])
  refine anyG.take [] (i := 5) (oi := ?_) (v := ?_) ?_ (by kernel_rfl) (by kernel_rfl) (by kernel_rfl) (by kernel_rfl) (by kernel_rfl) (by kernel_rfl) ?_ (Or.inl ⟨?_, ?_⟩) (by assumption) ?_
  rotate_left 2
  · (simp only [List.getElem?_toArray, List.getElem?_cons_succ, List.getElem?_cons_zero]; rfl)
  · exact fun _ _ _ h => h
  · rfl
  · (intro w hSw; (try dsimp only at hSw); go_simp <;> with_reducible rfl)
  (try simp only [Act.put, List.setIfInBounds_toArray, List.set_cons_zero, List.set_cons_succ])
  refine anyG.take [] (i := 6) (oi := ?_) (v := ?_) ?_ (by kernel_rfl) (by kernel_rfl) (by kernel_rfl) (by kernel_rfl) (by kernel_rfl) (by kernel_rfl) ?_ (Or.inl ⟨?_, ?_⟩) (by assumption) ?_
  rotate_left 2
  · (simp only [List.getElem?_toArray, List.getElem?_cons_succ, List.getElem?_cons_zero]; rfl)
  · exact fun _ _ _ h => h
  · rfl
  · (intro w hSw; (try dsimp only at hSw); go_simp <;> with_reducible rfl)
  (try simp only [Act.put, List.setIfInBounds_toArray, List.set_cons_zero, List.set_cons_succ])
  refine anyG.take [] (i := 7) (oi := ?_) (v := ?_) ?_ (by kernel_rfl) (by kernel_rfl) (by kernel_rfl) (by kernel_rfl) (by kernel_rfl) (by kernel_rfl) ?_ (Or.inl ⟨?_, ?_⟩) (by assumption) ?_
  rotate_left 2
  · (simp only [List.getElem?_toArray, List.getElem?_cons_succ, List.getElem?_cons_zero]; rfl)
  · exact fun _ _ _ h => h
  · rfl
  · (intro w hSw; (try dsimp only at hSw); go_simp <;> with_reducible rfl)
  (try simp only [Act.put, List.setIfInBounds_toArray, List.set_cons_zero, List.set_cons_succ])
  refine anyG.take [] (i := 8) (oi := ?_) (v := ?_) ?_ (by kernel_rfl) (by kernel_rfl) (by kernel_rfl) (by kernel_rfl) (by kernel_rfl) (by kernel_rfl) ?_ (Or.inl ⟨?_, ?_⟩) (by assumption) ?_
  rotate_left 2
  · (simp only [List.getElem?_toArray, List.getElem?_cons_succ, List.getElem?_cons_zero]; rfl)
  · exact fun _ _ _ h => h
  · rfl
  · (intro w hSw; (try dsimp only at hSw); go_simp <;> with_reducible rfl)
  (try simp only [Act.put, List.setIfInBounds_toArray, List.set_cons_zero, List.set_cons_succ])
  refine anyG.take [] (i := 9) (oi := ?_) (v := ?_) ?_ (by kernel_rfl) (by kernel_rfl) (by kernel_rfl) (by kernel_rfl) (by kernel_rfl) (by kernel_rfl) ?_ (Or.inl ⟨?_, ?_⟩) (by assumption) ?_
  rotate_left 2
  · (simp only [List.getElem?_toArray, List.getElem?_cons_succ, List.getElem?_cons_zero]; rfl)
  · exact fun _ _ _ h => h
  · rfl
  · (intro w hSw; (try dsimp only at hSw); go_simp <;> with_reducible rfl)
  (try simp only [Act.put, List.setIfInBounds_toArray, List.set_cons_zero, List.set_cons_succ])
  refine anyG.take [] (i := 10) (oi := ?_) (v := ?_) ?_ (by kernel_rfl) (by kernel_rfl) (by kernel_rfl) (by kernel_rfl) (by kernel_rfl) (by kernel_rfl) ?_ (Or.inl ⟨?_, ?_⟩) (by assumption) ?_
  rotate_left 2
  · (simp only [List.getElem?_toArray, List.getElem?_cons_succ, List.getElem?_cons_zero]; rfl)
  · exact fun _ _ _ h => h
  · rfl
  · (intro w hSw; (try dsimp only at hSw); go_simp <;> with_reducible rfl)
  (try simp only [Act.put, List.setIfInBounds_toArray, List.set_cons_zero, List.set_cons_succ])
  refine anyG.take [] (i := 11) (oi := ?_) (v := ?_) ?_ (by kernel_rfl) (by kernel_rfl) (by kernel_rfl) (by kernel_rfl) (by kernel_rfl) (by kernel_rfl) ?_ (Or.inl ⟨?_, ?_⟩) (by assumption) ?_
  rotate_left 2
  · (simp only [List.getElem?_toArray, List.getElem?_cons_succ, List.getElem?_cons_zero]; rfl)
  · exact fun _ _ _ h => h
  · rfl
  · (intro w hSw; (try dsimp only at hSw); go_simp <;> with_reducible rfl)
  (try simp only [Act.put, List.setIfInBounds_toArray, List.set_cons_zero, List.set_cons_succ])
  refine anyG.take [] (i := 12) (oi := ?_) (v := ?_) ?_ (by kernel_rfl) (by kernel_rfl) (by kernel_rfl) (by kernel_rfl) (by kernel_rfl) (by kernel_rfl) ?_ (Or.inl ⟨?_, ?_⟩) (by assumption) ?_
  rotate_left 2
  · (simp only [List.getElem?_toArray, List.getElem?_cons_succ, List.getElem?_cons_zero]; rfl)
  · exact fun _ _ _ h => h
  · rfl
  · (intro w hSw; (try dsimp only at hSw); go_simp <;> with_reducible rfl)
  (try simp only [Act.put, List.setIfInBounds_toArray, List.set_cons_zero, List.set_cons_succ])
  refine anyG.take [] (i := 13) (oi := ?_) (v := ?_) ?_ (by kernel_rfl) (by kernel_rfl) (by kernel_rfl) (by kernel_rfl) (by kernel_rfl) (by kernel_rfl) ?_ (Or.inl ⟨?_, ?_⟩) (by assumption) ?_
  rotate_left 2
  · (simp only [List.getElem?_toArray, List.getElem?_cons_succ, List.getElem?_cons_zero]; rfl)
  · exact fun _ _ _ h => h
  · rfl
  · (intro w hSw; (try dsimp only at hSw); go_simp <;> with_reducible rfl)
  (try simp only [Act.put, List.setIfInBounds_toArray, List.set_cons_zero, List.set_cons_succ])
  refine anyG.ready (rs := [14]) (by kernel_rfl) (by simp) (AllG.early (o := ?o14_1) ?h14_1 (fun K hK => ?s14_1) AllG.nil)
  case h14_1 => (simp only [List.getElem?_toArray, List.getElem?_cons_succ, List.getElem?_cons_zero]; rfl)
  case' s14_1 =>
    (refine step_delete rfl _ _ 63 rfl 67 Try.underlying63 mb D (by first | rfl | simp [Act.eval]) HOd.out.snd.snd.map x.v.id (by first | rfl | simp [Act.eval]) HR.out.1 HR.out.2 ?_; intro w6 hown hturn; have HO1 : Hid (Own w0 w6 (Sep (RowG 67 (.slice (some ⟨g, 0, none⟩) n rc) L) (Sep (Blk p (.cells #[backV bb, .int .i64 (st.most : Int), .slice (some ⟨g, 0, none⟩) n rc, .map (some mb), .int .i64 (hd : Int)] 66)) (Sep (MapR mb (D.del (kd x.v.id))) (Sep (PlsR (L ++ Z)) (Sep (Fix (BytesOk (L ++ Z))) (Sep (BkR bb st.bk) J))))))) := Lib.hid (((HOd.out.ac (by ac_rfl : _ = Sep (MapR mb D) (Sep (RowG 67 (.slice (some ⟨g, 0, none⟩) n rc) L) (Sep (Blk p (.cells #[backV bb, .int .i64 (st.most : Int), .slice (some ⟨g, 0, none⟩) n rc, .map (some mb), .int .i64 (hd : Int)] 66)) (Sep (PlsR (L ++ Z)) (Sep (Fix (BytesOk (L ++ Z))) (Sep (BkR bb st.bk) J))))))).turned hown hturn).ac (by ac_rfl)); clear hown hturn HOd)
    refine hK.out _ _ ?_ (fun hHeld => ?_)
    · exact hR (HO1.out.ac (by ac_rfl : _ = Sep (Blk p (.cells #[backV bb, .int .i64 (st.most : Int), .slice (some ⟨g, 0, none⟩) n rc, .map (some mb), .int .i64 (hd : Int)] 66)) (Sep (RowG 67 (.slice (some ⟨g, 0, none⟩) n rc) L) (Sep (MapR mb (D.del (kd x.v.id))) (Sep (PlsR (L ++ Z)) (Sep (Fix (BytesOk (L ++ Z))) (Sep (BkR bb st.bk) J)))))))
    clear hK K
    (try simp only [Act.put, List.setIfInBounds_toArray, List.set_cons_zero, List.set_cons_succ])
    refine anyG.done (by kernel_rfl) ?_
    clear hR
    obtain ⟨⟨c0, c1, c2, c3, c4⟩, f0, f1, f2, f3, f4⟩ := HO1.out.swap.blk5c
    have hdel := delete_pb (so := some ⟨g, 0, none⟩) (sc := rc) (es := L) (w0 := w0) (w := w6) (by rw [HN.out]; exact HO1.out) i (i + 1) (by omega) (by rw [HN.out]; omega) (by rw [HN.out]; omega)
    have hw : wrap64 ((i : Int) + 1) = (i : Int) + 1 := IntWalk.wrap64_in _ ⟨by omega, by omega⟩
    rw [HN.out, show ((i + 1 : Nat) : Int) = (i : Int) + 1 by push_cast; rfl] at hdel
    have HDEL := Lib.hid hdel
    clear hdel
    go_wp2_with fail
    refine HDEL.out.mono ?_
    rintro r w7 ⟨bo, cap, rfl, hsh, hown⟩
    have HSH := Lib.hid hsh.out
    have HO2 := Lib.hid hown.swap
    clear hown hsh HDEL HO1 c0 c1 c2 c3 c4 f0 f1 f2 f3 f4 hHeld HRR
    have he : L.take i ++ L.drop (i + 1) = L.eraseIdx i := (List.eraseIdx_eq_take_drop_succ L i).symm
    rw [he] at HO2 HSH ⊢
    obtain ⟨m, hm⟩ : ∃ m, (L.eraseIdx i).length = m := ⟨_, rfl⟩
    rw [hm] at HO2 HSH ⊢
    have hmn : m + 1 = n := by rw [← hm, List.length_eraseIdx_of_lt HI.out, HN.out]; omega
    have HMM := Lib.hid hm
    have HMN := Lib.hid hmn
    clear he hm
    obtain ⟨⟨c0, c1, c2, c3, c4⟩, f0, f1, f2, f3, f4⟩ := HO2.out.blk5c
    go_upto_region 2 with fail
    have HO3 := Lib.hid (HO2.out.store 2 (.slice bo m cap))
    generalize World.setCell w7 _ _ = w8 at *
    clear HO2 c0 c1 c2 c3 c4 f0 f1 f2 f3 f4
    have HO4 : Hid (Own w0 w8 (Sep (Blk p (.cells #[backV bb, .int .i64 (st.most : Int), .slice bo m cap, .map (some mb), .int .i64 (hd : Int)] 66)) (Sep (RowG 67 (.slice bo m cap) (L.eraseIdx i)) (Sep (MapR mb (D.del (kd x.v.id))) (Sep (PlsR (L ++ Z)) (Sep (Fix (BytesOk (L ++ Z))) (Sep (BkR bb st.bk) J))))))) := HO3
    clear HO3
    obtain ⟨⟨c0, c1, c2, c3, c4⟩, f0, f1, f2, f3, f4⟩ := HO4.out.blk5c
    have hhb : hd = 0 ∨ hd < n := by have h1 := HHD.out; have h2 := HHH.out; have h3 := HNS.out; omega
    by_cases hlt : i < hd
    · have hltI : (i : Int) < (hd : Int) := by omega
      have hw2 : wrap64 ((hd : Int) - 1) = (hd : Int) - 1 := IntWalk.wrap64_in _ ⟨by omega, by omega⟩
      go_upto_region 4 with fail
      have HO5 := Lib.hid (HO4.out.store 4 (.int .i64 ((hd : Int) - 1)))
      generalize World.setCell w8 _ _ = w9 at *
      clear c0 c1 c2 c3 c4 f0 f1 f2 f3 f4 HO4
      have HO6 : Hid (Own w0 w9.drew (Sep (Blk p (.cells #[backV bb, .int .i64 (st.most : Int), .slice bo m cap, .map (some mb), .int .i64 ((hd : Int) - 1)] 66)) (Sep (RowG 67 (.slice bo m cap) (L.eraseIdx i)) (Sep (MapR mb (D.del (kd x.v.id))) (Sep (PlsR (L ++ Z)) (Sep (Fix (BytesOk (L ++ Z))) (Sep (BkR bb st.bk) J))))))) := Lib.hid HO5.out.drew
      clear HO5
      obtain ⟨e0, e1, e2, e3, e4⟩ := HO6.out.blk5c.1
      refine anyG.start (fun w' => w'.cell? ⟨p, 2, none⟩ = some (.slice bo m cap) ∧ w'.cell? ⟨p, 4, none⟩ = some (.int .i64 ((hd : Int) - 1))) [] (by kernel_rfl) ?_ (fun hHeld => ?_)
      · exact ⟨e2, e4⟩
      refine anyG.take [] (i := 0) (oi := ?_) (v := ?_) ?_ (by kernel_rfl) (by kernel_rfl) (by kernel_rfl) (by kernel_rfl) (by kernel_rfl) (by kernel_rfl) ?_ (Or.inl ⟨?_, ?_⟩) (by assumption) ?_
      rotate_left 2
      · (simp only [List.getElem?_toArray, List.getElem?_cons_zero]; rfl)
      · exact fun _ _ _ h => h
      · rfl
      · (intro w hSw; (try dsimp only at hSw); go_simp <;> with_reducible rfl)
      (try simp only [Act.put, List.setIfInBounds_toArray, List.set_cons_zero, List.set_cons_succ])
      refine anyG.take [] (i := 1) (oi := ?_) (v := ?_) ?_ (by kernel_rfl) (by kernel_rfl) (by kernel_rfl) (by kernel_rfl) (by kernel_rfl) (by kernel_rfl) ?_ (Or.inl ⟨?_, ?_⟩) (by assumption) ?_
      rotate_left 2
      · (simp only [List.getElem?_toArray, List.getElem?_cons_succ, List.getElem?_cons_zero]; rfl)
      · exact fun _ _ _ h => h
      · rfl
      · (intro w hSw; (try dsimp only at hSw); go_simp <;> with_reducible rfl)
      (try simp only [Act.put, List.setIfInBounds_toArray, List.set_cons_zero, List.set_cons_succ])
      refine anyG.take [] (i := 2) (oi := ?_) (v := ?_) ?_ (by kernel_rfl) (by kernel_rfl) (by kernel_rfl) (by kernel_rfl) (by kernel_rfl) (by kernel_rfl) ?_ (Or.inl ⟨?_, ?_⟩) (by assumption) ?_
      rotate_left 2
      · (simp only [List.getElem?_toArray, List.getElem?_cons_succ, List.getElem?_cons_zero]; rfl)
      · exact fun _ _ _ h => h
      · rfl
      · (intro w hSw; (try dsimp only at hSw); go_simp <;> with_reducible rfl)
      (try simp only [Act.put, List.setIfInBounds_toArray, List.set_cons_zero, List.set_cons_succ])
      refine anyG.take [] (i := 3) (oi := ?_) (v := ?_) ?_ (by kernel_rfl) (by kernel_rfl) (by kernel_rfl) (by kernel_rfl) (by kernel_rfl) (by kernel_rfl) ?_ (Or.inl ⟨?_, ?_⟩) (by assumption) ?_
      rotate_left 2
      · (simp only [List.getElem?_toArray, List.getElem?_cons_succ, List.getElem?_cons_zero]; rfl)
      · exact fun _ _ _ h => h
      · rfl
      · (intro w hSw; (try dsimp only at hSw); go_simp <;> with_reducible rfl)
      (try simp only [Act.put, List.setIfInBounds_toArray, List.set_cons_zero, List.set_cons_succ])
      refine anyG.take [] (i := 4) (oi := ?_) (v := ?_) ?_ (by kernel_rfl) (by kernel_rfl) (by kernel_rfl) (by kernel_rfl) (by kernel_rfl) (by kernel_rfl) ?_ (Or.inl ⟨?_, ?_⟩) (by assumption) ?_
      rotate_left 2
      · (simp only [List.getElem?_toArray, List.getElem?_cons_succ, List.getElem?_cons_zero]; rfl)
      · exact fun _ _ _ h => h
      · rfl
      · (intro w hSw; (try dsimp only at hSw); go_simp <;> with_reducible rfl)
      (try simp only [Act.put, List.setIfInBounds_toArray, List.set_cons_zero, List.set_cons_succ])
      refine anyG.take [] (i := 5) (oi := ?_) (v := ?_) ?_ (by kernel_rfl) (by kernel_rfl) (by kernel_rfl) (by kernel_rfl) (by kernel_rfl) (by kernel_rfl) ?_ (Or.inl ⟨?_, ?_⟩) (by assumption) ?_
      rotate_left 2
      · (simp only [List.getElem?_toArray, List.getElem?_cons_succ, List.getElem?_cons_zero]; rfl)
      · exact fun _ _ _ h => h
      · rfl
      · (intro w hSw; (try dsimp only at hSw); go_simp <;> with_reducible rfl)
      (try simp only [Act.put, List.setIfInBounds_toArray, List.set_cons_zero, List.set_cons_succ])
      refine anyG.take [] (i := 6) (oi := ?_) (v := ?_) ?_ (by kernel_rfl) (by kernel_rfl) (by kernel_rfl) (by kernel_rfl) (by kernel_rfl) (by kernel_rfl) ?_ (Or.inl ⟨?_, ?_⟩) (by assumption) ?_
      rotate_left 2
      · (simp only [List.getElem?_toArray, List.getElem?_cons_succ, List.getElem?_cons_zero]; rfl)
      · exact fun _ _ _ h => h
      · rfl
      · (intro w hSw; (try dsimp only at hSw); go_simp <;> with_reducible rfl)
      (try simp only [Act.put, List.setIfInBounds_toArray, List.set_cons_zero, List.set_cons_succ])
      refine anyG.take [] (i := 7) (oi := ?_) (v := ?_) ?_ (by kernel_rfl) (by kernel_rfl) (by kernel_rfl) (by kernel_rfl) (by kernel_rfl) (by kernel_rfl) ?_ (Or.inl ⟨?_, ?_⟩) (by assumption) ?_
      rotate_left 2
      · (simp only [List.getElem?_toArray, List.getElem?_cons_succ, List.getElem?_cons_zero]; rfl)
      · exact fun _ _ _ h => h
      · rfl
      · (intro w hSw; (try dsimp only at hSw); go_simp <;> with_reducible rfl)
      (try simp only [Act.put, List.setIfInBounds_toArray, List.set_cons_zero, List.set_cons_succ])
      refine anyG.take [] (i := 8) (oi := ?_) (v := ?_) ?_ (by kernel_rfl) (by kernel_rfl) (by kernel_rfl) (by kernel_rfl) (by kernel_rfl) (by kernel_rfl) ?_ (Or.inl ⟨?_, ?_⟩) (by assumption) ?_
      rotate_left 2
      · (simp only [List.getElem?_toArray, List.getElem?_cons_succ, List.getElem?_cons_zero]; rfl)
      · exact fun _ _ _ h => h
      · rfl
      · (intro w hSw; (try dsimp only at hSw); go_simp <;> with_reducible rfl)
      (try simp only [Act.put, List.setIfInBounds_toArray, List.set_cons_zero, List.set_cons_succ])
      refine anyG.take [] (i := 9) (oi := ?_) (v := ?_) ?_ (by kernel_rfl) (by kernel_rfl) (by kernel_rfl) (by kernel_rfl) (by kernel_rfl) (by kernel_rfl) ?_ (Or.inl ⟨?_, ?_⟩) (by assumption) ?_
      rotate_left 2
      · (simp only [List.getElem?_toArray, List.getElem?_cons_succ, List.getElem?_cons_zero]; rfl)
      · exact fun _ _ _ h => h
      · rfl
      · (intro w hSw; (try dsimp only at hSw); go_simp <;> with_reducible rfl)
      (try simp only [Act.put, List.setIfInBounds_toArray, List.set_cons_zero, List.set_cons_succ])
      refine anyG.done (by kernel_rfl) ?_
      clear hHeld e0 e1 e2 e3 e4
      generalize World.drew w9 = w10 at *
      by_cases hz : (hd : Int) - 1 = (m : Int)
      · exact absurd hz (by have := HMN.out; omega)
      · have hzd : (((hd : Int) - 1) == (m : Int)) = false := by simpa using hz
        go_wp2_with fail
        go_end0
        refine ⟨rfl, ?_⟩
        exact Own.shutOut (mb := mb) (ro := bo) (rc := cap) (n := m) HM.out HI.out HMM.out.symm (H := (hd : Int) - 1) (by unfold outH; rw [HNS.out, HHH.out]; rw [if_pos (show i < hd by omega), if_neg (show ¬ hd - 1 = n - 1 by have := HMN.out; omega)]; omega) HSH.out (by rw [HX.out]; exact HO6.out)
    · have hltI : ¬ (i : Int) < (hd : Int) := by omega
      go_upto_region 4 with fail
      obtain ⟨w9, h9⟩ : ∃ W, W = w8 := ⟨w8, rfl⟩
      subst h9
      have HO5 := HO4
      clear c0 c1 c2 c3 c4 f0 f1 f2 f3 f4 HO4
      have HO6 : Hid (Own w0 w9.drew (Sep (Blk p (.cells #[backV bb, .int .i64 (st.most : Int), .slice bo m cap, .map (some mb), .int .i64 ((hd : Int))] 66)) (Sep (RowG 67 (.slice bo m cap) (L.eraseIdx i)) (Sep (MapR mb (D.del (kd x.v.id))) (Sep (PlsR (L ++ Z)) (Sep (Fix (BytesOk (L ++ Z))) (Sep (BkR bb st.bk) J))))))) := Lib.hid HO5.out.drew
      clear HO5
      obtain ⟨e0, e1, e2, e3, e4⟩ := HO6.out.blk5c.1
      refine anyG.start (fun w' => w'.cell? ⟨p, 2, none⟩ = some (.slice bo m cap) ∧ w'.cell? ⟨p, 4, none⟩ = some (.int .i64 ((hd : Int)))) [] (by kernel_rfl) ?_ (fun hHeld => ?_)
      · exact ⟨e2, e4⟩
      refine anyG.take [] (i := 0) (oi := ?_) (v := ?_) ?_ (by kernel_rfl) (by kernel_rfl) (by kernel_rfl) (by kernel_rfl) (by kernel_rfl) (by kernel_rfl) ?_ (Or.inl ⟨?_, ?_⟩) (by assumption) ?_
      rotate_left 2
      · (simp only [List.getElem?_toArray, List.getElem?_cons_zero]; rfl)
      · exact fun _ _ _ h => h
      · rfl
      · (intro w hSw; (try dsimp only at hSw); go_simp <;> with_reducible rfl)
      (try simp only [Act.put, List.setIfInBounds_toArray, List.set_cons_zero, List.set_cons_succ])
      refine anyG.take [] (i := 1) (oi := ?_) (v := ?_) ?_ (by kernel_rfl) (by kernel_rfl) (by kernel_rfl) (by kernel_rfl) (by kernel_rfl) (by kernel_rfl) ?_ (Or.inl ⟨?_, ?_⟩) (by assumption) ?_
      rotate_left 2
      · (simp only [List.getElem?_toArray, List.getElem?_cons_succ, List.getElem?_cons_zero]; rfl)
      · exact fun _ _ _ h => h
      · rfl
      · (intro w hSw; (try dsimp only at hSw); go_simp <;> with_reducible rfl)
      (try simp only [Act.put, List.setIfInBounds_toArray, List.set_cons_zero, List.set_cons_succ])
      refine anyG.take [] (i := 2) (oi := ?_) (v := ?_) ?_ (by kernel_rfl) (by kernel_rfl) (by kernel_rfl) (by kernel_rfl) (by kernel_rfl) (by kernel_rfl) ?_ (Or.inl ⟨?_, ?_⟩) (by assumption) ?_
      rotate_left 2
      · (simp only [List.getElem?_toArray, List.getElem?_cons_succ, List.getElem?_cons_zero]; rfl)
      · exact fun _ _ _ h => h
      · rfl
      · (intro w hSw; (try dsimp only at hSw); go_simp <;> with_reducible rfl)
      (try simp only [Act.put, List.setIfInBounds_toArray, List.set_cons_zero, List.set_cons_succ])
      refine anyG.take [] (i := 3) (oi := ?_) (v := ?_) ?_ (by kernel_rfl) (by kernel_rfl) (by kernel_rfl) (by kernel_rfl) (by kernel_rfl) (by kernel_rfl) ?_ (Or.inl ⟨?_, ?_⟩) (by assumption) ?_
      rotate_left 2
      · (simp only [List.getElem?_toArray, List.getElem?_cons_succ, List.getElem?_cons_zero]; rfl)
      · exact fun _ _ _ h => h
      · rfl
      · (intro w hSw; (try dsimp only at hSw); go_simp <;> with_reducible rfl)
      (try simp only [Act.put, List.setIfInBounds_toArray, List.set_cons_zero, List.set_cons_succ])
      refine anyG.take [] (i := 4) (oi := ?_) (v := ?_) ?_ (by kernel_rfl) (by kernel_rfl) (by kernel_rfl) (by kernel_rfl) (by kernel_rfl) (by kernel_rfl) ?_ (Or.inl ⟨?_, ?_⟩) (by assumption) ?_
      rotate_left 2
      · (simp only [List.getElem?_toArray, List.getElem?_cons_succ, List.getElem?_cons_zero]; rfl)
      · exact fun _ _ _ h => h
      · rfl
      · (intro w hSw; (try dsimp only at hSw); go_simp <;> with_reducible rfl)
      (try simp only [Act.put, List.setIfInBounds_toArray, List.set_cons_zero, List.set_cons_succ])
      refine anyG.take [] (i := 5) (oi := ?_) (v := ?_) ?_ (by kernel_rfl) (by kernel_rfl) (by kernel_rfl) (by kernel_rfl) (by kernel_rfl) (by kernel_rfl) ?_ (Or.inl ⟨?_, ?_⟩) (by assumption) ?_
      rotate_left 2
      · (simp only [List.getElem?_toArray, List.getElem?_cons_succ, List.getElem?_cons_zero]; rfl)
      · exact fun _ _ _ h => h
      · rfl
      · (intro w hSw; (try dsimp only at hSw); go_simp <;> with_reducible rfl)
      (try simp only [Act.put, List.setIfInBounds_toArray, List.set_cons_zero, List.set_cons_succ])
      refine anyG.take [] (i := 6) (oi := ?_) (v := ?_) ?_ (by kernel_rfl) (by kernel_rfl) (by kernel_rfl) (by kernel_rfl) (by kernel_rfl) (by kernel_rfl) ?_ (Or.inl ⟨?_, ?_⟩) (by assumption) ?_
      rotate_left 2
      · (simp only [List.getElem?_toArray, List.getElem?_cons_succ, List.getElem?_cons_zero]; rfl)
      · exact fun _ _ _ h => h
      · rfl
      · (intro w hSw; (try dsimp only at hSw); go_simp <;> with_reducible rfl)
      (try simp only [Act.put, List.setIfInBounds_toArray, List.set_cons_zero, List.set_cons_succ])
      refine anyG.take [] (i := 7) (oi := ?_) (v := ?_) ?_ (by kernel_rfl) (by kernel_rfl) (by kernel_rfl) (by kernel_rfl) (by kernel_rfl) (by kernel_rfl) ?_ (Or.inl ⟨?_, ?_⟩) (by assumption) ?_
      rotate_left 2
      · (simp only [List.getElem?_toArray, List.getElem?_cons_succ, List.getElem?_cons_zero]; rfl)
      · exact fun _ _ _ h => h
      · rfl
      · (intro w hSw; (try dsimp only at hSw); go_simp <;> with_reducible rfl)
      (try simp only [Act.put, List.setIfInBounds_toArray, List.set_cons_zero, List.set_cons_succ])
      refine anyG.take [] (i := 8) (oi := ?_) (v := ?_) ?_ (by kernel_rfl) (by kernel_rfl) (by kernel_rfl) (by kernel_rfl) (by kernel_rfl) (by kernel_rfl) ?_ (Or.inl ⟨?_, ?_⟩) (by assumption) ?_
      rotate_left 2
      · (simp only [List.getElem?_toArray, List.getElem?_cons_succ, List.getElem?_cons_zero]; rfl)
      · exact fun _ _ _ h => h
      · rfl
      · (intro w hSw; (try dsimp only at hSw); go_simp <;> with_reducible rfl)
      (try simp only [Act.put, List.setIfInBounds_toArray, List.set_cons_zero, List.set_cons_succ])
      refine anyG.take [] (i := 9) (oi := ?_) (v := ?_) ?_ (by kernel_rfl) (by kernel_rfl) (by kernel_rfl) (by kernel_rfl) (by kernel_rfl) (by kernel_rfl) ?_ (Or.inl ⟨?_, ?_⟩) (by assumption) ?_
      rotate_left 2
      · (simp only [List.getElem?_toArray, List.getElem?_cons_succ, List.getElem?_cons_zero]; rfl)
      · exact fun _ _ _ h => h
      · rfl
      · (intro w hSw; (try dsimp only at hSw); go_simp <;> with_reducible rfl)
      (try simp only [Act.put, List.setIfInBounds_toArray, List.set_cons_zero, List.set_cons_succ])
      refine anyG.done (by kernel_rfl) ?_
      clear hHeld e0 e1 e2 e3 e4
      generalize World.drew w9 = w10 at *
      by_cases hz : (hd : Int) = (m : Int)
      · have hzd : (((hd : Int)) == (m : Int)) = true := by simpa using hz
        obtain ⟨⟨c0, c1, c2, c3, c4⟩, f0, f1, f2, f3, f4⟩ := HO6.out.blk5c
        go_wp2_with fail
        have HO7 := Lib.hid (HO6.out.store 4 (.int .i64 0))
        generalize World.setCell w10 _ _ = w11 at *
        go_end0
        refine ⟨rfl, ?_⟩
        exact Own.shutOut (mb := mb) (ro := bo) (rc := cap) (n := m) HM.out HI.out HMM.out.symm (H := 0) (by unfold outH; rw [HNS.out, HHH.out]; rw [if_neg (show ¬ i < hd by omega), if_pos (show hd = n - 1 by have := HMN.out; omega)]; rfl) HSH.out (by rw [HX.out]; exact HO7.out)
      · have hzd : (((hd : Int)) == (m : Int)) = false := by simpa using hz
        go_wp2_with fail
        go_end0
        refine ⟨rfl, ?_⟩
        exact Own.shutOut (mb := mb) (ro := bo) (rc := cap) (n := m) HM.out HI.out HMM.out.symm (H := (hd : Int)) (by unfold outH; rw [HNS.out, HHH.out]; rw [if_neg (show ¬ i < hd by omega), if_neg (show ¬ hd = n - 1 by have := HMN.out; omega)]) HSH.out (by rw [HX.out]; exact HO6.out)

end Go.Proofs.Ytjmelhmjcbliaaa
