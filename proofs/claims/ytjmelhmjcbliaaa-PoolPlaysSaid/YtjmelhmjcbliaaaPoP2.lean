/-
  Package pool: a place comes, a place is taken out.
-/
import Derived.Test.YtjmelhmjcbliaaaPoP1
namespace Go.Proofs.Ytjmelhmjcbliaaa
open Go Go.RowKit
set_option linter.unusedVariables false
set_option linter.unusedSimpArgs false
set_option maxRecDepth 100000

theorem lookP_none {id : Int} : ∀ {L : List Pb}, id ∉ L.map (·.v.id) → lookP id L = .pointer none
  | [], _ => rfl
  | x :: L, h => by
    simp only [List.map_cons, List.mem_cons, not_or] at h
    rw [lookP, if_neg (fun e => h.1 e.symm), lookP_none h.2]
theorem lookP_push {id : Int} : ∀ {L : List Pb} {x : Pb}, x.v.id ∉ L.map (·.v.id) → lookP id (L ++ [x]) = if x.v.id = id then ptr x.k else lookP id L
  | [], x, _ => rfl
  | y :: L, x, h => by
    simp only [List.map_cons, List.mem_cons, not_or] at h
    show (if y.v.id = id then _ else lookP id (L ++ [x])) = _
    rw [lookP_push h.2]
    by_cases e : y.v.id = id
    · rw [if_pos e, if_neg (fun e2 => h.1 (e2.trans e.symm))]
      show _ = (if y.v.id = id then _ else _)
      rw [if_pos e]
    · rw [if_neg e]
      show _ = (if x.v.id = id then _ else (if y.v.id = id then _ else _))
      rw [if_neg e]
theorem lookP_erase {id : Int} : ∀ {L : List Pb} {i : Nat}, (L.map (·.v.id)).Nodup → i < L.length → lookP id (L.eraseIdx i) = if (L.getD i default).v.id = id then .pointer none else lookP id L
  | [], i, _, h => by simp at h
  | x :: L, 0, hn, _ => by
    simp only [List.map_cons, List.nodup_cons] at hn
    show lookP id L = if x.v.id = id then _ else (if x.v.id = id then _ else _)
    by_cases e : x.v.id = id
    · rw [if_pos e]
      subst e
      exact lookP_none hn.1
    · rw [if_neg e, if_neg e]
  | x :: L, i + 1, hn, hi => by
    simp only [List.map_cons, List.nodup_cons] at hn
    have hi2 : i < L.length := by simpa using hi
    show (if x.v.id = id then _ else lookP id (L.eraseIdx i)) = if (L.getD i default).v.id = id then _ else (if x.v.id = id then _ else _)
    rw [lookP_erase hn.2 hi2]
    by_cases e : x.v.id = id
    · rw [if_pos e, if_pos e, if_neg]
      intro e2
      apply hn.1
      rw [e, ← e2]
      exact List.mem_map.2 ⟨_, getD_mem hi2 default, rfl⟩
    · rw [if_neg e, if_neg e]
theorem map_eraseIdx {α β : Type} (f : α → β) : ∀ (l : List α) (i : Nat), (l.eraseIdx i).map f = (l.map f).eraseIdx i
  | [], i => by simp
  | x :: l, 0 => rfl
  | x :: l, i + 1 => by simp [map_eraseIdx f l i]
theorem mem_erase_nd {α : Type} {a : α} : ∀ {l : List α} {i : Nat}, l.Nodup → (hi : i < l.length) → (a ∈ l.eraseIdx i ↔ a ∈ l ∧ a ≠ l[i])
  | [], i, _, hi => by simp at hi
  | x :: l, 0, hn, hi => by
    simp only [List.nodup_cons] at hn
    simp only [List.eraseIdx_cons_zero, List.mem_cons, List.getElem_cons_zero]
    constructor
    · intro h
      exact ⟨.inr h, fun e => hn.1 (e ▸ h)⟩
    · rintro ⟨h | h, h2⟩
      · exact absurd h h2
      · exact h
  | x :: l, i + 1, hn, hi => by
    simp only [List.nodup_cons] at hn
    have hi2 : i < l.length := by simpa using hi
    simp only [List.eraseIdx_cons_succ, List.mem_cons, List.getElem_cons_succ, mem_erase_nd hn.2 hi2]
    constructor
    · rintro (h | ⟨h, h2⟩)
      · subst h
        exact ⟨.inl rfl, fun e => hn.1 (e ▸ List.getElem_mem hi2)⟩
      · exact ⟨.inr h, h2⟩
    · rintro ⟨h | h, h2⟩
      · exact .inl h
      · exact .inr ⟨h, h2⟩
theorem PoM.ids {D : DataW Value} {L : List Pb} {st : Po} (h : PoM D L st) : st.ids = L.map (·.v.id) := by
  unfold Po.ids
  rw [← h.v, List.map_map]
  rfl
/-- A place comes. -/
theorem PoM.push {D : DataW Value} {L : List Pb} {st : Po} (h : PoM D L st) {x : Pb} (h0 : 0 ≤ x.v.id) (h1 : x.v.id < 18446744073709551616) (hn : x.v.id ∉ st.ids) : PoM (D.put (kd x.v.id) (.held (ptr x.k))) (L ++ [x]) { st with L := st.L ++ [x.v] } := by
  have hids : Po.ids { st with L := st.L ++ [x.v] } = st.ids ++ [x.v.id] := by unfold Po.ids; simp
  have hno : Maps.has D (kd x.v.id) = false := by
    rw [← Bool.not_eq_true, h.has _ h0 h1]
    exact hn
  refine ⟨by rw [List.map_append, h.v]; rfl, ⟨?_, fun y hy => ?_, ?_⟩, h.tidy.put (kd_key _) _, fun id i0 i1 => ?_, fun id i0 i1 => ?_, ?_⟩
  · rw [hids, List.nodup_append]
    exact ⟨h.ok.nd, by simp, fun a ha b hb => by simp only [List.mem_singleton] at hb; subst hb; exact fun e => hn (e ▸ ha)⟩
  · rcases List.mem_append.1 hy with hy | hy
    · exact h.ok.r y hy
    · simp only [List.mem_singleton] at hy
      subst hy
      exact ⟨h0, h1⟩
  · show st.hand = 0 ∨ st.hand < (st.L ++ [x.v]).length
    rw [List.length_append]
    exact h.ok.h.imp id fun h => by omega
  · rw [hids]
    by_cases e : id = x.v.id
    · subst e
      rw [Maps.has_put_same h.tidy.isMap (kd_key _)]
      simp
    · rw [Maps.has_put_other (kd_ne e), h.has id i0 i1]
      simp [e]
  · rw [lookP_push (by rw [← h.ids]; exact hn)]
    by_cases e : x.v.id = id
    · subst e
      rw [if_pos rfl, Maps.atKey_put_same h.tidy.isMap (kd_key _)]
    · rw [if_neg e, Maps.atKey_put_other (kd_ne (fun e2 => e e2.symm))]
      exact h.at' id i0 i1
  · rw [Maps.size_put h.tidy, hno, h.size, List.length_append]
    rfl
/-- A place is taken out. -/
theorem PoM.cut {D : DataW Value} {L : List Pb} {st : Po} (h : PoM D L st) {i : Nat} (hi : i < L.length) : PoM (D.del (kd (L.getD i default).v.id)) (L.eraseIdx i) (st.out i) := by
  have hpl := h.pl i
  obtain ⟨x, hx⟩ : ∃ x, L.getD i default = x := ⟨_, rfl⟩
  rw [hx] at hpl
  have hxm : x ∈ L := by rw [← hx]; exact getD_mem hi default
  have hr : 0 ≤ x.v.id ∧ x.v.id < 18446744073709551616 := h.ok.r x.v (by rw [← h.v]; exact List.mem_map.2 ⟨x, hxm, rfl⟩)
  have hxi : x.v.id ∈ st.ids := by rw [h.ids]; exact List.mem_map.2 ⟨x, hxm, rfl⟩
  have hids : (st.out i).ids = st.ids.eraseIdx i := by
    show (st.L.eraseIdx i).map (·.id) = (st.L.map (·.id)).eraseIdx i
    exact map_eraseIdx _ _ _
  have hnd := h.ok.nd
  have hil : i < st.ids.length := by unfold Po.ids; rw [List.length_map, ← h.len]; exact hi
  have hxi2 : st.ids[i] = x.v.id := by
    have h1 : st.ids.getD i 0 = (L.map (·.v.id)).getD i 0 := by rw [h.ids]
    rw [List.getD_eq_getElem?_getD, List.getElem?_eq_getElem hil, List.getD_eq_getElem?_getD, List.getElem?_map, List.getElem?_eq_getElem hi] at h1
    have h2 : L[i] = x := by rw [← hx, List.getD_eq_getElem?_getD, List.getElem?_eq_getElem hi]; rfl
    rw [h2] at h1
    exact h1
  have hmem : ∀ id, id ∈ st.ids.eraseIdx i ↔ id ∈ st.ids ∧ id ≠ x.v.id := fun id => by
    rw [← hxi2]
    exact mem_erase_nd hnd hil
  rw [hx]
  refine ⟨?_, ⟨?_, fun y hy => ?_, ?_⟩, h.tidy.del _, fun id i0 i1 => ?_, fun id i0 i1 => ?_, ?_⟩
  · show (L.eraseIdx i).map (·.v) = st.L.eraseIdx i
    rw [← h.v]
    exact map_eraseIdx _ _ _
  · rw [hids]
    exact hnd.sublist (List.eraseIdx_sublist _ _)
  · exact h.ok.r y (List.mem_of_mem_eraseIdx hy)
  · have h1 := h.ok.h
    have h2 := h.len
    show outH st.L.length st.hand i = 0 ∨ outH st.L.length st.hand i < (st.L.eraseIdx i).length
    rw [List.length_eraseIdx_of_lt (by omega)]
    unfold outH
    split <;> split <;> omega
  · rw [hids, hmem]
    by_cases e : id = x.v.id
    · subst e
      rw [Maps.has_del_same]
      simp
    · rw [Maps.has_del_other (kd_ne e), h.has id i0 i1]
      simp [e]
  · rw [lookP_erase (by rw [← h.ids]; exact hnd) hi, hx]
    by_cases e : x.v.id = id
    · subst e
      rw [if_pos rfl, Maps.atKey_del_same]
    · rw [if_neg e, Maps.atKey_del_other (kd_ne (fun e2 => e e2.symm))]
      exact h.at' id i0 i1
  · have h1 := Maps.size_del (k := kd x.v.id) h.tidy
    rw [(h.has _ hr.1 hr.2).2 hxi, h.size] at h1
    rw [List.length_eraseIdx_of_lt hi]
    simp at h1
    omega
set_option maxHeartbeats 4000000 in
theorem pcome_any {w0 w : World} {p bb : Nat} {L Z : List Pb} {st : Po} {J : Res} [Stab J] (h : Own w0 w (Sep (PoR p bb L Z st) J)) (id : Int) (h0 : 0 ≤ id) (h1 : id < 18446744073709551616) (hn : id ∉ st.ids) (hl : L.length ≤ 1000000000) :
    Calls Try.prog 40 #[ptr p, .int .u64 id] w fun e w' => ∃ k, e = .returned (ptr k) ∧ Own w0 w' (Sep (PoR p bb (L ++ [⟨k, none, 0, ⟨id, [], false, 0, false⟩⟩]) Z { st with L := st.L ++ [⟨id, [], false, 0, false⟩] }) J) := by
  obtain ⟨mb, ro, rc, D, hm, hs, hO⟩ := h.openPo
  have HM := Lib.hid hm
  have HL := Lib.hid hl
  have HN := Lib.hid hn
  have HR := Lib.hid (⟨h0, h1⟩ : 0 ≤ id ∧ id < 18446744073709551616)
  obtain ⟨k, hk⟩ : ∃ k, w.heap.size = k := ⟨_, rfl⟩
  obtain ⟨n, hn2⟩ : ∃ n, L.length = n := ⟨_, rfl⟩
  have HNN := Lib.hid hn2
  have hA := hO.alloc (.cells #[.int .u64 id, .slice none 0 0, .bool false, .int .i64 0, .bool false] 71)
  unfold poc at hA
  rw [hk, hn2] at hA
  have HA := Lib.hid (hA.ac (by ac_rfl : _ = Sep (RowG 67 (.slice ro n rc) L) (Sep (Blk p (.cells #[backV bb, .int .i64 (st.most : Int), .slice ro n rc, .map (some mb), .int .i64 (st.hand : Int)] 66)) (Sep (Blk k (.cells #[.int .u64 id, .slice none 0 0, .bool false, .int .i64 0, .bool false] 71)) (Sep (MapR mb D) (Sep (PlsR (L ++ Z)) (Sep (Fix (BytesOk (L ++ Z))) (Sep (BkR bb st.bk) J))))))))
  clear h h0 h1 hn hl hm hs hO hA hn2
  go_enter Try.func40, Try.ntmps40
  go_upto_region 2 with fail
  generalize World.alloc w _ = W1 at *
  clear hk
  obtain ⟨⟨c0, c1, c2, c3, c4⟩, f0, f1, f2, f3, f4⟩ := HA.out.swap.blk5c
  go_wp2_with (at_builtin; refine own_appendG elPb HA.out (⟨k, none, 0, ⟨id, [], false, 0, false⟩⟩ : Pb) 1 (by have := HL.out; omega) (by have := HL.out; omega) rfl _ _ rfl (by first | rfl | simp [Act.eval]) #[ptr k] rfl (by first | rfl | simp [Act.eval]) ?_)
  intro g2 cap2 n2 w5 hn2 hown
  have HS1 := Lib.hid (hown.out.swap)
  have HN2 : Hid (n2 = (L ++ [(⟨k, none, 0, ⟨id, [], false, 0, false⟩⟩ : Pb)]).length) := Lib.hid (by have h1 := hn2.out; (try simp only [List.length_append, List.length_singleton] at h1 ⊢); omega)
  have hsh := shp_own hown.out
  rw [← HN2.out] at hsh
  have HSH := Lib.hid hsh.1
  clear hown hn2 c0 c1 c2 c3 c4 f0 f1 f2 f3 f4 HA hsh
  obtain ⟨⟨c0, c1, c2, c3, c4⟩, f0, f1, f2, f3, f4⟩ := HS1.out.blk5c
  go_upto_region 3 with fail
  have HS2 := Lib.hid (HS1.out.store 2 (.slice (some ⟨g2, 0, none⟩) n2 cap2))
  generalize World.setCell w5 _ _ = w6 at *
  clear HS1 c0 c1 c2 c3 c4 f0 f1 f2 f3 f4
  have HS3 : Hid (Own w0 w6 (Sep (MapR mb D) (Sep (Blk p (.cells #[backV bb, .int .i64 (st.most : Int), .slice (some ⟨g2, 0, none⟩) n2 cap2, .map (some mb), .int .i64 (st.hand : Int)] 66)) (Sep (RowG 67 (.slice (some ⟨g2, 0, none⟩) n2 cap2) (L ++ [(⟨k, none, 0, ⟨id, [], false, 0, false⟩⟩ : Pb)])) (Sep (Blk k (.cells #[.int .u64 id, .slice none 0 0, .bool false, .int .i64 0, .bool false] 71)) (Sep (PlsR (L ++ Z)) (Sep (Fix (BytesOk (L ++ Z))) (Sep (BkR bb st.bk) J)))))))) := Lib.hid (HS2.out.ac (by simp only [List.setIfInBounds_toArray, List.set_cons_zero, List.set_cons_succ]; ac_rfl))
  clear HS2
  obtain ⟨⟨c0, c1, c2, c3, c4⟩, f0, f1, f2, f3, f4⟩ := HS3.out.swap.blk5c
  have HKEY := Lib.hid (key_kd HR.out.1 HR.out.2)
  have HSZ := Lib.hid (HM.out.size)
  go_wp2_with (at_mapUpdate; refine wpList_mapUpdate_in _ rfl _ _ _ 63 rfl 34 67 kU64 Try.underlying63 Rv mb (Maps.size D) D rfl HS3.out.map (by rw [HSZ.out]; have := HL.out; unfold maxLen; omega) _ (ptr k) (kd id) rfl rfl HKEY.out (.held (ptr k)) [] rfl ?_; intro w7 hown hturn)
  go_ret
  refine ⟨k, rfl, ?_⟩
  obtain ⟨X, hX⟩ : ∃ X : Pb, X = ⟨k, none, 0, ⟨id, [], false, 0, false⟩⟩ := ⟨_, rfl⟩
  have hpx : PlB X = Blk k (.cells #[.int .u64 id, .slice none 0 0, .bool false, .int .i64 0, .bool false] 71) := by rw [hX]; rfl
  have h5 := HS3.out.turned hown hturn
  rw [← hX] at h5 ⊢
  rw [← hpx] at h5
  have h6 : Own w0 w7 (Sep (Fix (BytesOk (L ++ Z))) (Sep (Sep (PlB X) (PlsR (L ++ Z))) (Sep (MapR mb (D.put (kd id) (.held (ptr k)))) (Sep (Blk p (.cells #[backV bb, .int .i64 (st.most : Int), .slice (some ⟨g2, 0, none⟩) n2 cap2, .map (some mb), .int .i64 (st.hand : Int)] 66)) (Sep (RowG 67 (.slice (some ⟨g2, 0, none⟩) n2 cap2) (L ++ [X])) (Sep (BkR bb st.bk) J)))))) := h5.ac (by ac_rfl)
  have hperm : Sep (PlB X) (PlsR (L ++ Z)) = PlsR ((L ++ [X]) ++ Z) := by
    show PlsR (X :: (L ++ Z)) = _
    refine PlsR.perm ?_
    rw [List.append_assoc]
    exact (List.perm_middle (a := X) (l₁ := L) (l₂ := Z)).symm
  rw [hperm] at h6
  have h7 := h6.fixI (Q := BytesOk ((L ++ [X]) ++ Z)) fun w hw y hy => by
    rw [List.append_assoc, List.mem_append, List.mem_append] at hy
    rcases hy with hy | hy | hy
    · exact hw y (List.mem_append.2 (.inl hy))
    · simp only [List.mem_singleton] at hy
      subst hy
      rw [hX]
      exact ⟨.inl ⟨rfl, rfl⟩, by simp⟩
    · exact hw y (List.mem_append.2 (.inr hy))
  have hm2 := HM.out.push (x := X) (by rw [hX]; exact HR.out.1) (by rw [hX]; exact HR.out.2) (by rw [hX]; exact HN.out)
  have hsl : n2 = (L ++ [X]).length := by rw [HN2.out, hX]
  have e1 : X.v = ⟨id, [], false, 0, false⟩ := by rw [hX]
  have e2 : X.k = k := by rw [hX]
  have e3 : X.v.id = id := by rw [hX]
  rw [e2, e3, e1] at hm2
  refine Own.shutPo (mb := mb) (ro := some ⟨g2, 0, none⟩) (rc := cap2) (D := D.put (kd id) (.held (ptr k))) hm2 (by rw [← hsl]; exact HSH.out) ?_
  unfold poc
  rw [← hsl]
  exact h7.ac (by ac_rfl)

end Go.Proofs.Ytjmelhmjcbliaaa
