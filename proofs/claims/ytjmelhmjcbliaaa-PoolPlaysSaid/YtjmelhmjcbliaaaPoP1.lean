/-
  Package pool: one of a pool's places; save.
-/
import Derived.Test.YtjmelhmjcbliaaaPoB3
namespace Go.Proofs.Ytjmelhmjcbliaaa
open Go Go.RowKit
set_option linter.unusedVariables false
set_option linter.unusedSimpArgs false
set_option maxRecDepth 100000

theorem Own.plAt {w0 w : World} {A : List Pb} {i : Nat} {J : Res} (h : Own w0 w (Sep (PlsR A) J)) (hi : i < A.length) : Own w0 w (Sep (PlB (A.getD i default)) (Sep (PlsR (A.eraseIdx i)) J)) := by
  rw [PlsR.at hi] at h
  exact h.assoc
theorem Own.plBack {w0 w : World} {A : List Pb} {i : Nat} {x : Pb} {J : Res} (h : Own w0 w (Sep (PlB x) (Sep (PlsR (A.eraseIdx i)) J))) (hi : i < A.length) : Own w0 w (Sep (PlsR (A.set i x)) J) := by
  rw [PlsR.set hi]
  exact h.assoc'
theorem getD_left {L Z : List Pb} {i : Nat} (hi : i < L.length) : (L ++ Z).getD i default = L.getD i default := by
  simp [List.getD_eq_getElem?_getD, List.getElem?_append_left hi]
theorem set_left {L Z : List Pb} {i : Nat} (hi : i < L.length) (x : Pb) : (L ++ Z).set i x = L.set i x ++ Z := List.set_append_left i x hi
theorem Own.blk5c {w0 w : World} {b : Nat} {a0 a1 a2 a3 a4 : Value} {t : TypeId} {J : Res} (h : Own w0 w (Sep (Blk b (.cells #[a0, a1, a2, a3, a4] t)) J)) :
    (w.cell? ⟨b, 0, none⟩ = some a0 ∧ w.cell? ⟨b, 1, none⟩ = some a1 ∧ w.cell? ⟨b, 2, none⟩ = some a2 ∧ w.cell? ⟨b, 3, none⟩ = some a3 ∧ w.cell? ⟨b, 4, none⟩ = some a4) ∧
    (w.frozen? ⟨b, 0, none⟩ = false ∧ w.frozen? ⟨b, 1, none⟩ = false ∧ w.frozen? ⟨b, 2, none⟩ = false ∧ w.frozen? ⟨b, 3, none⟩ = false ∧ w.frozen? ⟨b, 4, none⟩ = false) := blk5 h.blkT
theorem jfix {P : World → Prop} {R : Res} {W : World} {F : Nat → Prop} (h : Sep (Fix P) R W F) : P W := by
  obtain ⟨A, B, hA, _⟩ := h
  exact hA.2 W (fun _ _ => rfl)
theorem cAll_pb : ∀ {A B : List Pb}, A.map (·.k) = B.map (·.k) → cAll A = cAll B
  | [], [], _ => rfl
  | [], _ :: _, h => by cases h
  | _ :: _, [], h => by cases h
  | a :: A, b :: B, h => by
    simp only [List.map_cons, List.cons.injEq] at h
    show Cel.cells a ++ cAll A = Cel.cells b ++ cAll B
    rw [cAll_pb h.2, show Cel.cells a = [ptr a.k] from rfl, show Cel.cells b = [ptr b.k] from rfl, h.1]
theorem Own.rowPb {w0 w : World} {v : Value} {A B : List Pb} {J : Res} (h : Own w0 w (Sep (RowG 67 v A) J)) (e : A.map (·.k) = B.map (·.k)) : Own w0 w (Sep (RowG 67 v B) J) := by
  have hl : A.length = B.length := by have := congrArg List.length e; simpa using this
  have h2 : RowG (α := Pb) 67 v A = RowG 67 v B := by
    show RowV _ _ _ A.length (cAll A) = RowV _ _ _ B.length (cAll B)
    rw [hl, cAll_pb e]
  rw [← h2]
  exact h
theorem lookP_set {id : Int} : ∀ {L : List Pb} {i : Nat} {x : Pb}, x.k = (L.getD i default).k → x.v.id = (L.getD i default).v.id → lookP id (L.set i x) = lookP id L
  | [], i, x, _, _ => by simp
  | y :: L, 0, x, h1, h2 => by
    have h1 : x.k = y.k := h1
    have h2 : x.v.id = y.v.id := h2
    show (if x.v.id = id then _ else _) = (if y.v.id = id then _ else _)
    rw [h1, h2]
  | y :: L, i + 1, x, h1, h2 => by
    show (if y.v.id = id then _ else _) = (if y.v.id = id then _ else _)
    rw [lookP_set (L := L) (i := i) h1 h2]
theorem PoM.len {D : DataW Value} {L : List Pb} {st : Po} (h : PoM D L st) : L.length = st.L.length := by
  have := congrArg List.length h.v
  simpa using this
theorem PoM.pl {D : DataW Value} {L : List Pb} {st : Po} (h : PoM D L st) (i : Nat) : st.pl i = (L.getD i default).v := by
  unfold Po.pl
  rw [← h.v]
  simp only [List.getD_eq_getElem?_getD, List.getElem?_map]
  cases L[i]? <;> rfl
/-- One of the places is turned, its number stays. -/
theorem PoM.set {D : DataW Value} {L : List Pb} {st st' : Po} (h : PoM D L st) {i : Nat} (hi : i < L.length) {x : Pb} (hk : x.k = (L.getD i default).k) (hid : x.v.id = (L.getD i default).v.id) (hL : st'.L = st.L.set i x.v) (hh : st'.hand = 0 ∨ st'.hand < st.L.length) : PoM D (L.set i x) st' := by
  have hids : st'.ids = st.ids := by
    unfold Po.ids
    rw [hL]
    refine map_set_same (fun p : Pl => p.id) st.L i x.v ?_
    rw [hid]
    have := h.pl i
    unfold Po.pl at this
    rw [this]
  have hix : ∀ id, st'.ix id = st.ix id := fun id => by unfold Po.ix; rw [hids]
  refine ⟨by rw [List.map_set, h.v, hL], ⟨by rw [hids]; exact h.ok.nd, fun y hy => ?_, by rw [hL, List.length_set]; exact hh⟩, h.tidy, fun id h0 h1 => by rw [hids]; exact h.has id h0 h1, fun id h0 h1 => by rw [lookP_set hk hid]; exact h.at' id h0 h1, by rw [List.length_set]; exact h.size⟩
  have h2 : y.id ∈ st'.ids := List.mem_map.2 ⟨y, hy, rfl⟩
  rw [hids] at h2
  obtain ⟨z, hz, e⟩ := List.mem_map.1 h2
  rw [← e]
  exact h.ok.r z hz
/-- What stays of places: where they lie, their numbers, their bytes. -/
def Keeps (A B : List Pb) : Prop := ∀ x ∈ A, ∃ y ∈ B, y.k = x.k ∧ y.ao = x.ao ∧ y.c = x.c ∧ y.v.b = x.v.b ∧ y.v.id = x.v.id
theorem Keeps.refl (A : List Pb) : Keeps A A := fun x hx => ⟨x, hx, rfl, rfl, rfl, rfl, rfl⟩
theorem Keeps.trans {A B C : List Pb} (h : Keeps A B) (k : Keeps B C) : Keeps A C := fun x hx => by
  obtain ⟨y, hy, e1, e2, e3, e4, e5⟩ := h x hx
  obtain ⟨z, hz, f1, f2, f3, f4, f5⟩ := k y hy
  exact ⟨z, hz, f1.trans e1, f2.trans e2, f3.trans e3, f4.trans e4, f5.trans e5⟩
theorem getD_mem {α : Type} {A : List α} {i : Nat} (h : i < A.length) (d : α) : A.getD i d ∈ A := by
  rw [List.getD_eq_getElem?_getD, List.getElem?_eq_getElem h]
  exact List.getElem_mem h
theorem Keeps.set {A : List Pb} {i : Nat} (hi : i < A.length) {x : Pb} (h1 : x.k = (A.getD i default).k) (h2 : x.ao = (A.getD i default).ao) (h3 : x.c = (A.getD i default).c) (h4 : x.v.b = (A.getD i default).v.b) (h5 : x.v.id = (A.getD i default).v.id) : Keeps A (A.set i x) := fun y hy => by
  obtain ⟨j, hj, rfl⟩ := List.getElem_of_mem hy
  by_cases e : i = j
  · subst e
    refine ⟨x, List.mem_set hj x, ?_⟩
    rw [List.getD_eq_getElem?_getD, List.getElem?_eq_getElem hj] at h1 h2 h3 h4 h5
    exact ⟨h1, h2, h3, h4, h5⟩
  · refine ⟨A[j], ?_, rfl, rfl, rfl, rfl, rfl⟩
    have h6 : (A.set i x)[j]? = some A[j] := by rw [List.getElem?_set_ne e, List.getElem?_eq_getElem hj]
    exact List.mem_of_getElem? h6
/-- .. and back: what is read of the bytes. -/
theorem BytesOk.set {A : List Pb} {w : World} (h : BytesOk A w) {i : Nat} {x : Pb} (hi : i < A.length) (h2 : x.ao = (A.getD i default).ao) (h3 : x.c = (A.getD i default).c) (h4 : x.v.b = (A.getD i default).v.b) : BytesOk (A.set i x) w := fun y hy => by
  rcases List.mem_or_eq_of_mem_set hy with h5 | rfl
  · exact h y h5
  · have := h _ (getD_mem hi default)
    rw [← h2, ← h3, ← h4] at this
    exact this
/-- What a call that turns a pool's places leaves. -/
def SavedPost (w0 w' : World) (p bb : Nat) (L Z : List Pb) (st : Po) (i : Nat) (J : Res) (e : Ending) : Prop :=
  ∃ x : Pb, e = .returned (.int .i64 (if (st.save i).2 then 0 else 3)) ∧ x.k = (L.getD i default).k ∧ x.ao = (L.getD i default).ao ∧ x.c = (L.getD i default).c ∧ x.v.b = (L.getD i default).v.b ∧ x.v.id = (L.getD i default).v.id ∧ Own w0 w' (Sep (PoR p bb (L.set i x) Z (st.save i).1) J)
theorem set_getD_self {α : Type} {L : List α} {i : Nat} (d : α) : L.set i (L.getD i d) = L := by
  by_cases h : i < L.length
  · apply List.ext_getElem?
    intro j
    rw [List.getElem?_set]
    split
    · rename_i e
      subst e
      rw [List.getD_eq_getElem?_getD, List.getElem?_eq_getElem h]
      rfl
    · rfl
  · exact List.set_eq_of_length_le (by omega)
set_option maxHeartbeats 4000000 in
theorem psave_any {w0 w : World} {p bb : Nat} {L Z : List Pb} {st : Po} {J : Res} [Stab J] (h : Own w0 w (Sep (PoR p bb L Z st) J)) (i : Nat) (hi : i < L.length) (hq : st.bk.asked.length ≤ 1000000000) (hb : st.bk.ids.length ≤ 1000000000) :
    Calls Try.prog 46 #[ptr p, ptr (L.getD i default).k] w (fun e w' => SavedPost w0 w' p bb L Z st i J e) := by
  obtain ⟨mb, ro, rc, D, hm, hs, h1⟩ := h.openPo
  have HM := Lib.hid hm
  have HSH := Lib.hid hs
  have HB := Lib.hid (⟨hq, hb⟩ : st.bk.asked.length ≤ 1000000000 ∧ st.bk.ids.length ≤ 1000000000)
  have HI := Lib.hid hi
  have hiA : i < (L ++ Z).length := by rw [List.length_append]; omega
  have h2 := (h1.ac (by ac_rfl : _ = Sep (PlsR (L ++ Z)) (Sep (Blk p (.cells (poc bb mb ro rc L st) 66)) (Sep (RowG 67 (.slice ro L.length rc) L) (Sep (MapR mb D) (Sep (Fix (BytesOk (L ++ Z))) (Sep (BkR bb st.bk) J))))))).plAt hiA
  rw [getD_left hi] at h2
  obtain ⟨x, hx⟩ : ∃ x, L.getD i default = x := ⟨_, rfl⟩
  have hpl : st.pl i = x.v := by rw [← hx]; exact hm.pl i
  rw [hx] at h2 ⊢
  have HPL := Lib.hid hpl
  have HX := Lib.hid hx
  have hby := h2.swap.swap.snd.snd.snd.snd.snd.fixed
  have hbx := hby x (List.mem_append.2 (.inl (by rw [← hx]; exact getD_mem hi _)))
  obtain ⟨k, ao, c, v⟩ := x
  obtain ⟨id, b, d, pn, u⟩ := v
  unfold PlB plc at h2
  dsimp only at h2 hbx
  obtain ⟨bn, hbn⟩ : ∃ n, b.length = n := ⟨_, rfl⟩
  rw [hbn] at h2
  have HBN := Lib.hid hbn
  have HBX := Lib.hid hbx.2
  have HO := Lib.hid h2
  clear h h1 h2 hm hs hq hb hi hiA hx hpl hby hbx hbn
  obtain ⟨⟨c0, c1, c2, c3, c4⟩, f0, f1, f2, f3, f4⟩ := HO.out.blk5c
  dsimp only
  cases d with
  | false =>
    have hsv : st.save i = (st, true) := by unfold Po.save; rw [HPL.out]; rfl
    have HSV := Lib.hid hsv
    clear hsv
    go_enter Try.func46, Try.ntmps46
    go_wp2_with fail
    go_ret
    refine ⟨⟨k, ao, c, ⟨id, b, false, pn, u⟩⟩, by rw [HSV.out]; rfl, by rw [HX.out], by rw [HX.out], by rw [HX.out], by rw [HX.out], by rw [HX.out], ?_⟩
    rw [HSV.out, ← HX.out, set_getD_self]
    have h3 := Own.plBack (i := i) (A := L ++ Z) (x := ⟨k, ao, c, ⟨id, b, false, pn, u⟩⟩) (by unfold PlB plc; dsimp only; rw [HBN.out]; exact HO.out) (by rw [List.length_append]; have := HI.out; omega)
    rw [set_left HI.out, ← HX.out, set_getD_self] at h3
    exact Own.shutPo HM.out HSH.out (h3.ac (by ac_rfl))
  | true =>
    have HOd := Lib.hid HO.out.drew
    have hR : ∀ {W : World} {B : Bk}, Own w0 W (Sep (Blk k (.cells #[.int .u64 id, .slice ao bn c, .bool true, .int .i64 (pn : Int), .bool u] 71)) (Sep (PlsR ((L ++ Z).eraseIdx i)) (Sep (Blk p (.cells (poc bb mb ro rc L st) 66)) (Sep (RowG 67 (.slice ro L.length rc) L) (Sep (MapR mb D) (Sep (Fix (BytesOk (L ++ Z))) (Sep (BkR bb B) J))))))) → W.cell? ⟨p, 0, none⟩ = some (backV bb) ∧ W.cell? ⟨k, 0, none⟩ = some (.int .u64 id) ∧ W.cell? ⟨k, 1, none⟩ = some (.slice ao bn c) := fun H => by
      have e1 := H.blk5c.1
      have e2 := H.snd.swap.blk5c.1
      exact ⟨e2.1, e1.1, e1.2.1⟩
    have HR := Lib.hid (hR HOd.out)
    have hjj : ∀ W F, (Sep (Fix (BytesOk (L ++ Z))) (Sep (Blk k (.cells #[.int .u64 id, .slice ao bn c, .bool true, .int .i64 (pn : Int), .bool u] 71)) (Sep (PlsR ((L ++ Z).eraseIdx i)) (Sep (Blk p (.cells (poc bb mb ro rc L st) 66)) (Sep (RowG 67 (.slice ro L.length rc) L) (Sep (MapR mb D) J)))))) W F → Only (fun _ => False) w0 W → SlC W (.slice ao bn c) b := fun W F hW _ => by
      have h1 := jfix hW ⟨k, ao, c, ⟨id, b, true, pn, u⟩⟩ (by rw [← HX.out]; exact List.mem_append.2 (.inl (getD_mem HI.out _)))
      have h2 := h1.1
      dsimp only at h2
      rw [HBN.out] at h2
      exact h2
    have HJJ := Lib.hid hjj
    clear hjj
    go_enter Try.func46, Try.ntmps46
    go_upto_region 3 with fail
    clear c0 c1 c2 c3 c4 f0 f1 f2 f3 f4 HO
    refine anyG.start (fun w' => w'.cell? ⟨p, 0, none⟩ = some (backV bb) ∧ w'.cell? ⟨k, 0, none⟩ = some (.int .u64 id) ∧ w'.cell? ⟨k, 1, none⟩ = some (.slice ao bn c)) [] (by kernel_rfl) ?_ (fun hHeld => ?_)
    · exact HR.out
    refine anyG.take [] (i := 0) (oi := ?_) (v := ?_) ?_ (by kernel_rfl) (by kernel_rfl) (by kernel_rfl) (by kernel_rfl) (by kernel_rfl) (by kernel_rfl) ?_ (Or.inl ⟨?_, ?_⟩) (by assumption) ?_
    rotate_left 2
    · (simp only [List.getElem?_toArray, List.getElem?_cons_zero]; rfl)
    · exact fun _ _ _ h => h
    · rfl
    · (intro w hSw; (try dsimp only at hSw); go_simp <;> with_reducible rfl)
    (try simp only [Act.put, List.setIfInBounds_toArray, List.set_cons_zero, List.set_cons_succ])
    refine anyG.take [] (i := 1) (oi := ?_) (v := ?_) ?_ (by kernel_rfl) (by kernel_rfl) (by kernel_rfl) (by kernel_rfl) (by kernel_rfl) (by kernel_rfl) ?_ (Or.inl ⟨?_, ?_⟩) (by assumption) ?_
    rotate_left 2
    · (simp only [List.getElem?_toArray, List.getElem?_cons_succ, List.getElem?_cons_zero]; rfl)
    · exact fun _ _ _ h => h
    · rfl
    · (intro w hSw; (try dsimp only at hSw); go_simp <;> with_reducible rfl)
    (try simp only [Act.put, List.setIfInBounds_toArray, List.set_cons_zero, List.set_cons_succ])
    refine anyG.take [] (i := 2) (oi := ?_) (v := ?_) ?_ (by kernel_rfl) (by kernel_rfl) (by kernel_rfl) (by kernel_rfl) (by kernel_rfl) (by kernel_rfl) ?_ (Or.inl ⟨?_, ?_⟩) (by assumption) ?_
    rotate_left 2
    · (simp only [List.getElem?_toArray, List.getElem?_cons_succ, List.getElem?_cons_zero]; rfl)
    · exact fun _ _ _ h => h
    · rfl
    · (intro w hSw; (try dsimp only at hSw); go_simp <;> with_reducible rfl)
    (try simp only [Act.put, List.setIfInBounds_toArray, List.set_cons_zero, List.set_cons_succ])
    refine anyG.take [] (i := 3) (oi := ?_) (v := ?_) ?_ (by kernel_rfl) (by kernel_rfl) (by kernel_rfl) (by kernel_rfl) (by kernel_rfl) (by kernel_rfl) ?_ (Or.inl ⟨?_, ?_⟩) (by assumption) ?_
    rotate_left 2
    · (simp only [List.getElem?_toArray, List.getElem?_cons_succ, List.getElem?_cons_zero]; rfl)
    · exact fun _ _ _ h => h
    · rfl
    · (intro w hSw; (try dsimp only at hSw); go_simp <;> with_reducible rfl)
    (try simp only [Act.put, List.setIfInBounds_toArray, List.set_cons_zero, List.set_cons_succ])
    refine anyG.take [] (i := 4) (oi := ?_) (v := ?_) ?_ (by kernel_rfl) (by kernel_rfl) (by kernel_rfl) (by kernel_rfl) (by kernel_rfl) (by kernel_rfl) ?_ (Or.inl ⟨?_, ?_⟩) (by assumption) ?_
    rotate_left 2
    · (simp only [List.getElem?_toArray, List.getElem?_cons_succ, List.getElem?_cons_zero]; rfl)
    · exact fun _ _ _ h => h
    · rfl
    · (intro w hSw; (try dsimp only at hSw); go_simp <;> with_reducible rfl)
    (try simp only [Act.put, List.setIfInBounds_toArray, List.set_cons_zero, List.set_cons_succ])
    refine anyG.take [] (i := 5) (oi := ?_) (v := ?_) ?_ (by kernel_rfl) (by kernel_rfl) (by kernel_rfl) (by kernel_rfl) (by kernel_rfl) (by kernel_rfl) ?_ (Or.inl ⟨?_, ?_⟩) (by assumption) ?_
    rotate_left 2
    · (simp only [List.getElem?_toArray, List.getElem?_cons_succ, List.getElem?_cons_zero]; rfl)
    · exact fun _ _ _ h => h
    · rfl
    · (intro w hSw; (try dsimp only at hSw); go_simp <;> with_reducible rfl)
    (try simp only [Act.put, List.setIfInBounds_toArray, List.set_cons_zero, List.set_cons_succ])
    refine anyG.take [] (i := 6) (oi := ?_) (v := ?_) ?_ (by kernel_rfl) (by kernel_rfl) (by kernel_rfl) (by kernel_rfl) (by kernel_rfl) (by kernel_rfl) ?_ (Or.inl ⟨?_, ?_⟩) (by assumption) ?_
    rotate_left 2
    · (simp only [List.getElem?_toArray, List.getElem?_cons_succ, List.getElem?_cons_zero]; rfl)
    · exact fun _ _ _ h => h
    · rfl
    · (intro w hSw; (try dsimp only at hSw); go_simp <;> with_reducible rfl)
    (try simp only [Act.put, List.setIfInBounds_toArray, List.set_cons_zero, List.set_cons_succ])
    refine anyG.take [] (i := 7) (oi := ?_) (v := ?_) ?_ (by kernel_rfl) (by kernel_rfl) (by kernel_rfl) (by kernel_rfl) (by kernel_rfl) (by kernel_rfl) ?_ (Or.inl ⟨?_, ?_⟩) (by assumption) ?_
    rotate_left 2
    · (simp only [List.getElem?_toArray, List.getElem?_cons_succ, List.getElem?_cons_zero]; rfl)
    · exact fun _ _ _ h => h
    · rfl
    · (intro w hSw; (try dsimp only at hSw); go_simp <;> with_reducible rfl)
    (try simp only [Act.put, List.setIfInBounds_toArray, List.set_cons_zero, List.set_cons_succ])
    refine anyG.take [] (i := 8) (oi := ?_) (v := ?_) ?_ (by kernel_rfl) (by kernel_rfl) (by kernel_rfl) (by kernel_rfl) (by kernel_rfl) (by kernel_rfl) ?_ (Or.inl ⟨?_, ?_⟩) (by assumption) ?_
    rotate_left 2
    · (simp only [List.getElem?_toArray, List.getElem?_cons_succ, List.getElem?_cons_zero]; rfl)
    · exact fun _ _ _ h => h
    · rfl
    · (intro w hSw; (try dsimp only at hSw); go_simp <;> with_reducible rfl)
    (try simp only [Act.put, List.setIfInBounds_toArray, List.set_cons_zero, List.set_cons_succ])
    refine anyG.take [] (i := 9) (oi := ?_) (v := ?_) ?_ (by kernel_rfl) (by kernel_rfl) (by kernel_rfl) (by kernel_rfl) (by kernel_rfl) (by kernel_rfl) ?_ (Or.inl ⟨?_, ?_⟩) (by assumption) ?_
    rotate_left 2
    · (simp only [List.getElem?_toArray, List.getElem?_cons_succ, List.getElem?_cons_zero]; rfl)
    · exact fun _ _ _ h => h
    · rfl
    · (intro w hSw; (try dsimp only at hSw); go_simp <;> with_reducible rfl)
    (try simp only [Act.put, List.setIfInBounds_toArray, List.set_cons_zero, List.set_cons_succ])
    refine anyG.take [] (i := 10) (oi := ?_) (v := ?_) ?_ (by kernel_rfl) (by kernel_rfl) (by kernel_rfl) (by kernel_rfl) (by kernel_rfl) (by kernel_rfl) ?_ (Or.inl ⟨?_, ?_⟩) (by assumption) ?_
    rotate_left 2
    · (simp only [List.getElem?_toArray, List.getElem?_cons_succ, List.getElem?_cons_zero]; rfl)
    · exact fun _ _ _ h => h
    · rfl
    · (intro w hSw; (try dsimp only at hSw); go_simp <;> with_reducible rfl)
    (try simp only [Act.put, List.setIfInBounds_toArray, List.set_cons_zero, List.set_cons_succ])
    refine anyG.take [] (i := 11) (oi := ?_) (v := ?_) ?_ (by kernel_rfl) (by kernel_rfl) (by kernel_rfl) (by kernel_rfl) (by kernel_rfl) (by kernel_rfl) ?_ (Or.inl ⟨?_, ?_⟩) (by assumption) ?_
    rotate_left 2
    · (simp only [List.getElem?_toArray, List.getElem?_cons_succ, List.getElem?_cons_zero]; rfl)
    · exact fun _ _ _ h => h
    · rfl
    · (intro w hSw; (try dsimp only at hSw); go_simp <;> with_reducible rfl)
    (try simp only [Act.put, List.setIfInBounds_toArray, List.set_cons_zero, List.set_cons_succ])
    refine anyG.take [] (i := 12) (oi := ?_) (v := ?_) ?_ (by kernel_rfl) (by kernel_rfl) (by kernel_rfl) (by kernel_rfl) (by kernel_rfl) (by kernel_rfl) ?_ (Or.inl ⟨?_, ?_⟩) (by assumption) ?_
    rotate_left 2
    · (simp only [List.getElem?_toArray, List.getElem?_cons_succ, List.getElem?_cons_zero]; rfl)
    · exact fun _ _ _ h => h
    · rfl
    · (intro w hSw; (try dsimp only at hSw); go_simp <;> with_reducible rfl)
    (try simp only [Act.put, List.setIfInBounds_toArray, List.set_cons_zero, List.set_cons_succ])
    refine anyG.take [] (i := 13) (oi := ?_) (v := ?_) ?_ (by kernel_rfl) (by kernel_rfl) (by kernel_rfl) (by kernel_rfl) (by kernel_rfl) (by kernel_rfl) ?_ (Or.inl ⟨?_, ?_⟩) (by assumption) ?_
    rotate_left 2
    · (simp only [List.getElem?_toArray, List.getElem?_cons_succ, List.getElem?_cons_zero]; rfl)
    · exact fun _ _ _ h => h
    · rfl
    · (intro w hSw; (try dsimp only at hSw); go_simp <;> with_reducible rfl)
    (try simp only [Act.put, List.setIfInBounds_toArray, List.set_cons_zero, List.set_cons_succ])
    refine anyG.ready (rs := [14]) (by kernel_rfl) (by simp) (AllG.early (o := ?o14_1) ?h14_1 (fun K hK => ?s14_1) AllG.nil)
    case h14_1 => (simp only [List.getElem?_toArray, List.getElem?_cons_succ, List.getElem?_cons_zero]; rfl)
    case' s14_1 =>
      (go_simp; go_invoke; go_simp; refine (bsave_any (HOd.out.ac (by ac_rfl : _ = Sep (BkR bb st.bk) (Sep (Fix (BytesOk (L ++ Z))) (Sep (Blk k (.cells #[.int .u64 id, .slice ao bn c, .bool true, .int .i64 (pn : Int), .bool u] 71)) (Sep (PlsR ((L ++ Z).eraseIdx i)) (Sep (Blk p (.cells (poc bb mb ro rc L st) 66)) (Sep (RowG 67 (.slice ro L.length rc) L) (Sep (MapR mb D) J)))))))) id _ b HB.out.1 HB.out.2 HJJ.out HBX.out).mono ?_; rintro r wb ⟨rfl, hown⟩; have HO2 := Lib.hid (hown.ac (by ac_rfl : _ = Sep (Blk k (.cells #[.int .u64 id, .slice ao bn c, .bool true, .int .i64 (pn : Int), .bool u] 71)) (Sep (PlsR ((L ++ Z).eraseIdx i)) (Sep (Blk p (.cells (poc bb mb ro rc L st) 66)) (Sep (RowG 67 (.slice ro L.length rc) L) (Sep (MapR mb D) (Sep (Fix (BytesOk (L ++ Z))) (Sep (BkR bb (st.bk.save id b).1) J)))))))); clear hown HOd)
      refine hK.out _ _ ?_ (fun hHeld => ?_)
      · exact hR HO2.out
      clear hK K
      (try simp only [Act.put, List.setIfInBounds_toArray, List.set_cons_zero, List.set_cons_succ])
      refine anyG.take [] (i := 15) (oi := ?_) (v := ?_) ?_ (by kernel_rfl) (by kernel_rfl) (by kernel_rfl) (by kernel_rfl) (by kernel_rfl) (by kernel_rfl) ?_ (Or.inl ⟨?_, ?_⟩) (by assumption) ?_
      rotate_left 2
      · (simp only [List.getElem?_toArray, List.getElem?_cons_succ, List.getElem?_cons_zero]; rfl)
      · exact fun _ _ _ h => h
      · rfl
      · (intro w hSw; (try dsimp only at hSw); go_simp <;> with_reducible rfl)
      (try simp only [Act.put, List.setIfInBounds_toArray, List.set_cons_zero, List.set_cons_succ])
      refine anyG.done (by kernel_rfl) ?_
      have HBYT : Hid (BytesOk (L ++ Z) wb) := Lib.hid HO2.out.snd.snd.snd.snd.snd.fixed
      cases hsv : (st.bk.save id b).2 with
      | false =>
        have hst : st.save i = ({ st with bk := (st.bk.save id b).1 }, false) := by unfold Po.save; rw [HPL.out]; simp only [hsv]; rfl
        have HST := Lib.hid hst
        clear hst hsv hR
        obtain ⟨B, hB⟩ : ∃ B, (st.bk.save id b).1 = B := ⟨_, rfl⟩
        rw [hB] at HO2 HST
        clear hB
        go_wp2_with fail
        go_ret
        refine ⟨⟨k, ao, c, ⟨id, b, true, pn, u⟩⟩, by rw [HST.out]; rfl, by rw [HX.out], by rw [HX.out], by rw [HX.out], by rw [HX.out], by rw [HX.out], ?_⟩
        rw [HST.out, ← HX.out, set_getD_self]
        have h3 := Own.plBack (i := i) (A := L ++ Z) (x := ⟨k, ao, c, ⟨id, b, true, pn, u⟩⟩) (by unfold PlB plc; dsimp only; rw [HBN.out]; exact HO2.out) (by rw [List.length_append]; have := HI.out; omega)
        rw [set_left HI.out, ← HX.out, set_getD_self] at h3
        have hm2 := HM.out.set (st' := { st with bk := B }) HI.out (x := L.getD i default) rfl rfl (by rw [← HM.out.pl i]; exact (set_getD_self (L := st.L) (i := i) default).symm) HM.out.ok.h
        rw [set_getD_self] at hm2
        exact Own.shutPo hm2 HSH.out (h3.ac (by ac_rfl))
      | true =>
        have hst : st.save i = ({ st with bk := (st.bk.save id b).1, L := st.L.set i ⟨id, b, false, pn, u⟩ }, true) := by unfold Po.save; rw [HPL.out]; simp only [hsv]; rfl
        have HST := Lib.hid hst
        clear hst hsv hR
        obtain ⟨B, hB⟩ : ∃ B, (st.bk.save id b).1 = B := ⟨_, rfl⟩
        rw [hB] at HO2 HST
        clear hB
        obtain ⟨⟨c0, c1, c2, c3, c4⟩, f0, f1, f2, f3, f4⟩ := HO2.out.blk5c
        go_wp2_with fail
        have HO3 := Lib.hid (HO2.out.store 2 (.bool false))
        generalize World.setCell wb _ _ = wd at *
        clear c0 c1 c2 c3 c4 f0 f1 f2 f3 f4 HO2
        go_ret
        refine ⟨⟨k, ao, c, ⟨id, b, false, pn, u⟩⟩, by rw [HST.out]; rfl, by rw [HX.out], by rw [HX.out], by rw [HX.out], by rw [HX.out], by rw [HX.out], ?_⟩
        rw [HST.out]
        have h3 := Own.plBack (i := i) (A := L ++ Z) (x := ⟨k, ao, c, ⟨id, b, false, pn, u⟩⟩) (by unfold PlB plc; dsimp only; rw [HBN.out]; exact HO3.out) (by rw [List.length_append]; have := HI.out; omega)
        rw [set_left HI.out] at h3
        have hm2 := HM.out.set (st' := { st with bk := B, L := st.L.set i ⟨id, b, false, pn, u⟩ }) HI.out (x := ⟨k, ao, c, ⟨id, b, false, pn, u⟩⟩) (by rw [HX.out]) (by rw [HX.out]) rfl HM.out.ok.h
        have h4 := h3.swap.swap.swap
        have h5 : Own w0 wd (Sep (RowG 67 (.slice ro L.length rc) L) (Sep (Fix (BytesOk (L ++ Z))) (Sep (Blk p (.cells (poc bb mb ro rc L st) 66)) (Sep (PlsR (L.set i ⟨k, ao, c, ⟨id, b, false, pn, u⟩⟩ ++ Z)) (Sep (MapR mb D) (Sep (BkR bb B) J)))))) := h3.ac (by ac_rfl)
        have h6 := (h5.rowPb (B := L.set i ⟨k, ao, c, ⟨id, b, false, pn, u⟩⟩) (by rw [map_set_same (fun x : Pb => x.k)]; rw [HX.out])).swap
        have h7 := h6.fixI (Q := BytesOk (L.set i ⟨k, ao, c, ⟨id, b, false, pn, u⟩⟩ ++ Z)) fun w hw => by
          rw [← set_left HI.out]
          exact hw.set (by rw [List.length_append]; have := HI.out; omega) (by rw [getD_left HI.out, HX.out]) (by rw [getD_left HI.out, HX.out]) (by rw [getD_left HI.out, HX.out])
        have hsl : (L.set i ⟨k, ao, c, ⟨id, b, false, pn, u⟩⟩).length = L.length := List.length_set
        refine Own.shutPo (mb := mb) (ro := ro) (rc := rc) (D := D) hm2 (by rw [hsl]; exact HSH.out) ?_
        unfold poc
        rw [hsl]
        exact h7.ac (by ac_rfl)

end Go.Proofs.Ytjmelhmjcbliaaa
