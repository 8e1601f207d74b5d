/-
  Package pool's calls over a back that takes all: for the statement PoolHolds.
-/
import Derived.Test.YtjmelhmjcbliaaaPoHo
import Derived.Test.YtjmelhmjcbliaaaPoD
import Derived.Test.YtjmelhmjcbliaaaPoL3
namespace Go.Proofs.Ytjmelhmjcbliaaa
open Go Go.RowKit
set_option linter.unusedVariables false
set_option linter.unusedSimpArgs false
set_option maxRecDepth 100000

theorem roomP_len : ∀ (k : Nat) (p : Po), (roomP k p).bk.asked.length ≤ p.bk.asked.length + k
  | 0, p => Nat.le_refl _
  | k + 1, p => by
    have hg := (Po.goes_len p).2.1
    rw [roomP]
    split
    · split
      · have := roomP_len k p.goes.1
        omega
      · omega
    · omega
theorem HoI.len {m : Nat} {nv : Int → List UInt8} {st : Po} (h : HoI m nv st) : st.L.length ≤ 6 := by
  have h1 : st.ids ⊆ [1, 2, 3, 4, 5, 6] := fun x hx => by
    obtain ⟨y, hy, rfl⟩ := List.mem_map.1 hx
    have := h.r y hy
    simp only [List.mem_cons, List.not_mem_nil, or_false]
    omega
  have h2 : ∀ (a b : List Int), a.Nodup → a ⊆ b → a.length ≤ b.length := by
    intro a
    induction a with
    | nil => intro b _ _; exact Nat.zero_le _
    | cons x a ih =>
      intro b hn hs
      simp only [List.nodup_cons] at hn
      have hx : x ∈ b := hs (List.mem_cons_self)
      have := ih (b.erase x) hn.2 (fun y hy => (List.mem_erase_of_ne (fun e => hn.1 (by rw [← e]; exact hy))).2 (hs (List.mem_cons_of_mem _ hy)))
      rw [List.length_erase_of_mem hx] at this
      have h3 : 0 < b.length := List.length_pos_of_mem hx
      simp only [List.length_cons]
      omega
  have := h2 _ _ h.nd h1
  unfold Po.ids at this
  rw [List.length_map] at this
  simpa using this
theorem HoI.PoB {m K : Nat} {nv : Int → List UInt8} {st : Po} (h : HoI m nv st) (hq : st.bk.asked.length ≤ K) (hK : K ≤ 1000000) : Go.Proofs.Ytjmelhmjcbliaaa.PoB st := by
  have h1 := h.len
  have h3 : st.bk.ids.length = 6 := by rw [h.s.i]; rfl
  exact ⟨by omega, by omega⟩
theorem pins_le {st : Po} : ∀ x ∈ st.L, x.p ≤ st.sum := by
  unfold Po.sum
  intro x hx
  have : ∀ (L : List Pl), x ∈ L → x.p ≤ (L.map (·.p)).sum := by
    intro L
    induction L with
    | nil => intro h; cases h
    | cons y L ih =>
      intro h
      rw [List.map_cons, List.sum_cons]
      rcases List.mem_cons.1 h with rfl | h
      · omega
      · have := ih h; omega
  exact this _ hx
theorem get_asked (st : Po) (id : Int) : (st.get id).1.bk.asked.length ≤ st.bk.asked.length + st.L.length + 2 := by
  have h1 := Po.find_len st id
  cases h : (st.find id).2 with
  | none => rw [get_none h]; dsimp only; omega
  | some i =>
    rw [get_some h]
    have h2 := roomP_len ((st.find id).1.turn i { (st.find id).1.pl i with u := true }).L.length ((st.find id).1.turn i { (st.find id).1.pl i with u := true })
    have h3 : ((st.find id).1.turn i { (st.find id).1.pl i with u := true }).L.length = (st.find id).1.L.length := List.length_set
    have h4 : ((st.find id).1.turn i { (st.find id).1.pl i with u := true }).bk = (st.find id).1.bk := rfl
    rw [h4] at h2
    show (Po.room _).bk.asked.length ≤ _
    unfold Po.room
    omega
theorem pin_asked (st : Po) (id : Int) : (st.pin id).1.bk.asked.length ≤ st.bk.asked.length + st.L.length + 2 := by
  have h1 := Po.find_len st id
  cases h : (st.find id).2 with
  | none => rw [pin_none h]; dsimp only; omega
  | some i =>
    rw [pin_some h]
    have h2 := roomP_len ((st.find id).1.turn i { (st.find id).1.pl i with u := true, p := ((st.find id).1.pl i).p + 1 }).L.length ((st.find id).1.turn i { (st.find id).1.pl i with u := true, p := ((st.find id).1.pl i).p + 1 })
    have h3 : ((st.find id).1.turn i { (st.find id).1.pl i with u := true, p := ((st.find id).1.pl i).p + 1 }).L.length = (st.find id).1.L.length := List.length_set
    have h4 : ((st.find id).1.turn i { (st.find id).1.pl i with u := true, p := ((st.find id).1.pl i).p + 1 }).bk = (st.find id).1.bk := rfl
    rw [h4] at h2
    show (Po.room _).bk.asked.length ≤ _
    unfold Po.room
    omega
theorem put_asked (st : Po) (id : Int) (b : List UInt8) : (st.put id b).bk.asked.length ≤ st.bk.asked.length + st.L.length + 2 := by
  cases h : st.ix id with
  | none =>
    rw [put_none h]
    have h2 := roomP_len (Po.mk (st.L ++ [⟨id, b, true, 0, true⟩]) st.hand st.bk st.most).L.length (Po.mk (st.L ++ [⟨id, b, true, 0, true⟩]) st.hand st.bk st.most)
    have h3 : (Po.mk (st.L ++ [⟨id, b, true, 0, true⟩]) st.hand st.bk st.most).L.length = st.L.length + 1 := by simp
    show (Po.room _).bk.asked.length ≤ _
    unfold Po.room
    have h4 : (Po.mk (st.L ++ [⟨id, b, true, 0, true⟩]) st.hand st.bk st.most).bk = st.bk := rfl
    rw [h4] at h2
    omega
  | some i =>
    rw [put_some h]
    have h2 := roomP_len (st.turn i { st.pl i with b := b, u := true, d := true }).L.length (st.turn i { st.pl i with b := b, u := true, d := true })
    have h3 : (st.turn i { st.pl i with b := b, u := true, d := true }).L.length = st.L.length := List.length_set
    have h4 : (st.turn i { st.pl i with b := b, u := true, d := true }).bk = st.bk := rfl
    rw [h4] at h2
    show (Po.room _).bk.asked.length ≤ _
    unfold Po.room
    omega
theorem unpin_asked (st : Po) (id : Int) : (st.unpin id).1.bk.asked.length ≤ st.bk.asked.length + st.L.length + 2 := by
  cases h : st.ix id with
  | none => rw [unpin_none h]; dsimp only; omega
  | some i =>
    by_cases hz : (st.pl i).p = 0
    · rw [unpin_zero h hz]; dsimp only; omega
    · rw [unpin_some h hz]
      have h2 := roomP_len (st.turn i { st.pl i with p := (st.pl i).p - 1 }).L.length (st.turn i { st.pl i with p := (st.pl i).p - 1 })
      have h3 : (st.turn i { st.pl i with p := (st.pl i).p - 1 }).L.length = st.L.length := List.length_set
      have h4 : (st.turn i { st.pl i with p := (st.pl i).p - 1 }).bk = st.bk := rfl
      rw [h4] at h2
      show (Po.room _).bk.asked.length ≤ _
      unfold Po.room
      omega
theorem evict_asked (st : Po) : st.evict.1.bk.asked.length ≤ st.bk.asked.length + 1 := by
  unfold Po.evict
  split
  · exact Nat.le_succ _
  · exact (Po.goes_len st).2.1
theorem clean_asked (st : Po) (id : Int) : (st.clean id).1.bk.asked.length ≤ st.bk.asked.length + 1 := by
  cases h : st.ix id with
  | none => rw [clean_none h]; exact Nat.le_succ _
  | some i => rw [clean_some h]; exact (Po.save_len st i).2.2.1
section
variable {w0 w : World} {p bb : Nat} {L Z : List Pb} {st : Po} {J : Res} [Stab J] {m K : Nat} {nv : Int → List UInt8}
theorem hold_get (h : Own w0 w (Sep (PoR p bb L Z st) J)) (hs : HoI m nv st) (hq : st.bk.asked.length ≤ K) (hK : K ≤ 100000) (a : Nat) (h1 : 1 ≤ a) (h6 : a ≤ 6) :
    Calls Try.prog 10 #[ptr p, .int .u64 (a : Int)] w fun e w' => ∃ v, e = .returned (.tuple #[v, .int .i64 0]) ∧ ∃ L' Z' st', HoI m nv st' ∧ st'.sum = st.sum ∧ st'.L.length ≤ m + st'.sum ∧ st'.bk.asked.length ≤ K + 10 ∧ Own w0 w' (Sep (RowV 5 1 v (nv a).length (u8s (nv a))) (Sep (PoR p bb L' Z' st') J)) := by
  refine (pget_any h (a : Int) (by omega) (by omega) (hs.PoB hq (by omega))).mono ?_
  rintro e w' ⟨L', Z', hor⟩
  obtain ⟨g1, g2, g3, g4⟩ := hs.get (id := (a : Int)) (by omega) (by omega)
  rcases hor with ⟨b, v, hb, _, rfl, ho⟩ | ⟨hn, _, _⟩
  · rw [g1] at hb
    simp only [Option.some.injEq] at hb
    subst hb
    have ha := get_asked st (a : Int)
    have hl := hs.len
    exact ⟨v, rfl, L', Z', _, g2, g3, by rw [g3]; exact g4, by omega, ho⟩
  · rw [g1] at hn
    cases hn
theorem hold_put (h : Own w0 w (Sep (PoR p bb L Z st) J)) (hs : HoI m nv st) (hq : st.bk.asked.length ≤ K) (hK : K ≤ 100000) (a : Nat) (h1 : 1 ≤ a) (h6 : a ≤ 6) (v : Value) (b : List UInt8) (hv : SlC w0 v b) (hvl : b.length ≤ 140737488351232) :
    Calls Try.prog 14 #[ptr p, .int .u64 (a : Int), v] w fun e w' => e = .returned (.tuple #[]) ∧ ∃ L' Z' st', HoI m (fun j => if j = (a : Int) then b else nv j) st' ∧ st'.sum = st.sum ∧ st'.L.length ≤ m + st'.sum ∧ st'.bk.asked.length ≤ K + 10 ∧ Own w0 w' (Sep (PoR p bb L' Z' st') J) := by
  refine (pput_any h (a : Int) (by omega) (by omega) v b hv hvl (hs.PoB hq (by omega))).mono ?_
  rintro e w' ⟨L', Z', rfl, ho⟩
  obtain ⟨g2, g3, g4⟩ := hs.put (id := (a : Int)) (by omega) (by omega) b
  have ha := put_asked st (a : Int) b
  have hl := hs.len
  exact ⟨rfl, L', Z', _, g2, g3, by rw [g3]; exact g4, by omega, ho⟩
theorem hold_pin (h : Own w0 w (Sep (PoR p bb L Z st) J)) (hs : HoI m nv st) (hq : st.bk.asked.length ≤ K) (hK : K ≤ 100000) (hS : st.sum ≤ 1000) (a : Nat) (h1 : 1 ≤ a) (h6 : a ≤ 6) :
    Calls Try.prog 19 #[ptr p, .int .u64 (a : Int)] w fun e w' => e = .returned (.int .i64 0) ∧ ∃ L' Z' st', HoI m nv st' ∧ st'.sum = st.sum + 1 ∧ st'.L.length ≤ m + st'.sum ∧ st'.bk.asked.length ≤ K + 10 ∧ Own w0 w' (Sep (PoR p bb L' Z' st') J) := by
  refine (ppin_any h (a : Int) (by omega) (by omega) (hs.PoB hq (by omega)) (fun x hx => by have := pins_le x hx; omega)).mono ?_
  rintro e w' ⟨L', Z', rfl, ho⟩
  obtain ⟨g1, g2, g3, g4⟩ := hs.pin (id := (a : Int)) (by omega) (by omega)
  have ha := pin_asked st (a : Int)
  have hl := hs.len
  exact ⟨by rw [g1]; rfl, L', Z', _, g2, g3, by rw [g3]; exact g4, by omega, ho⟩
theorem hold_unpin (h : Own w0 w (Sep (PoR p bb L Z st) J)) (hs : HoI m nv st) (hl0 : st.L.length ≤ m + st.sum) (hq : st.bk.asked.length ≤ K) (hK : K ≤ 100000) (hS : st.sum ≤ 1000) (a : Nat) (h6 : a ≤ 6) :
    Calls Try.prog 20 #[ptr p, .int .u64 (a : Int)] w fun e w' => ∃ L' Z' st', ((e = .returned (.int .i64 0) ∧ st'.sum + 1 = st.sum) ∨ (e = .returned (.int .i64 5) ∧ st'.sum = st.sum)) ∧ HoI m nv st' ∧ st'.L.length ≤ m + st'.sum ∧ st'.bk.asked.length ≤ K + 10 ∧ Own w0 w' (Sep (PoR p bb L' Z' st') J) := by
  refine (punpin_any h (a : Int) (by omega) (by omega) (hs.PoB hq (by omega)) (fun x hx => by have := pins_le x hx; omega)).mono ?_
  rintro e w' ⟨L', Z', rfl, ho⟩
  obtain ⟨g1, g2, g3, g4⟩ := hs.unpin hl0 (a : Int)
  have ha := unpin_asked st (a : Int)
  have hl := hs.len
  refine ⟨L', Z', _, ?_, g1, g4, by omega, ho⟩
  cases hr : (st.unpin a).2 with
  | true => exact .inl ⟨rfl, g2 hr⟩
  | false => exact .inr ⟨rfl, by rw [g3 hr]⟩
theorem hold_evict (h : Own w0 w (Sep (PoR p bb L Z st) J)) (hs : HoI m nv st) (hq : st.bk.asked.length ≤ K) (hK : K ≤ 100000) :
    Calls Try.prog 22 #[ptr p] w fun e w' => ∃ a b, e = .returned (.tuple #[.int .u64 a, .int .i64 b]) ∧ ∃ L' Z' st', HoI m nv st' ∧ st'.sum = st.sum ∧ st'.L.length ≤ st.L.length ∧ st'.bk.asked.length ≤ K + 1 ∧ Own w0 w' (Sep (PoR p bb L' Z' st') J) := by
  refine (pevict_any h (hs.PoB hq (by omega))).mono ?_
  rintro e w' ⟨L', Z', rfl, ho⟩
  obtain ⟨g1, g2, g3⟩ := hs.evict
  have ha := evict_asked st
  exact ⟨_, _, rfl, L', Z', _, g1, g2, g3, by omega, ho⟩
theorem hold_clean (h : Own w0 w (Sep (PoR p bb L Z st) J)) (hs : HoI m nv st) (hq : st.bk.asked.length ≤ K) (hK : K ≤ 100000) (id : Int) (hid : id ∈ st.ids) :
    Calls Try.prog 24 #[ptr p, .int .u64 id] w fun e w' => e = .returned (.int .i64 0) ∧ ∃ L' st', HoI m nv st' ∧ st'.ids = st.ids ∧ (∀ j, j ∈ st'.dirty → j ∈ st.dirty ∧ j ≠ id) ∧ st'.bk.asked.length ≤ K + 1 ∧ Own w0 w' (Sep (PoR p bb L' Z st') J) := by
  have hr : 1 ≤ id ∧ id ≤ 6 := by
    obtain ⟨x, hx, rfl⟩ := List.mem_map.1 hid
    exact hs.r x hx
  refine (pclean_any h id (by omega) (by omega) (hs.PoB hq (by omega))).mono ?_
  rintro e w' ⟨L', rfl, ho⟩
  obtain ⟨g1, g2, g3, g4⟩ := hs.clean hid
  have ha := clean_asked st id
  exact ⟨by rw [g1], L', _, g2, g4, g3, by omega, ho⟩
/-- The pool's own back is asked by the law. -/
theorem hold_load (h : Own w0 w (Sep (PoR p bb L Z st) J)) (hs : HoI m nv st) (hq : st.bk.asked.length ≤ K) (hK : K ≤ 100000) (a : Nat) (h1 : 1 ≤ a) (h6 : a ≤ 6) (hv : st.bk.val a = some (nv a)) :
    Calls Try.prog 31 #[ptr bb, .int .u64 (a : Int)] w fun e w' => ∃ ao c st', e = .returned (.tuple #[.slice ao (nv a).length c, .int .i64 0]) ∧ HoI m nv st' ∧ st'.L = st.L ∧ (∀ j, st'.bk.val j = st.bk.val j) ∧ st'.bk.asked.length ≤ K + 1 ∧ Own w0 w' (Sep (Fix fun w => SlC w (.slice ao (nv a).length c) (nv a)) (Sep (PoR p bb L Z st') J)) := by
  obtain ⟨mb, ro, rc, D, hm, hsh, h2⟩ := h.openPo
  refine (bload_any (h2.ac (by ac_rfl : _ = Sep (BkR bb st.bk) (Sep (Blk p (.cells (poc bb mb ro rc L st) 66)) (Sep (RowG 67 (.slice ro L.length rc) L) (Sep (MapR mb D) (Sep (PlsR (L ++ Z)) (Sep (Fix (BytesOk (L ++ Z))) J))))))) (a : Int) (by omega) (by rw [hs.s.i]; decide)).mono ?_
  rintro e w' (⟨x, ao, c, hx, _, rfl, ho⟩ | ⟨hn, _, _⟩)
  · have hx2 : some x = some (nv a) := hx.symm.trans hv
    simp only [Option.some.injEq] at hx2
    subst hx2
    refine ⟨ao, c, { st with bk := (st.bk.load a).1 }, rfl, ⟨hs.s.load _, hs.nd, hs.r, hs.b, fun x hx hd => ?_, fun j j1 j6 hj => ?_, hs.m⟩, rfl, fun j => val_load _ _ _, ?_, ?_⟩
    · exact (val_load _ _ _).trans (hs.c x hx hd)
    · exact (val_load _ _ _).trans (hs.o j j1 j6 hj)
    · have := (Bk.load_len st.bk (a : Int)).1
      show (st.bk.load a).1.asked.length ≤ _
      omega
    · refine Own.swap (Own.shutPo (mb := mb) (ro := ro) (rc := rc) (D := D) (st := { st with bk := (st.bk.load a).1 }) (hm.bk _) hsh ?_)
      exact ho.ac (by ac_rfl)
  · have : (none : Option (List UInt8)) = some (nv a) := hn.symm.trans hv
    cases this
end
section
variable {w0 w : World} {nbb : Nat} {nb : Bk} {J : Res} [Stab J] {K : Nat}
/-- What Get must answer is asked. -/
theorem now_load (h : Own w0 w (Sep (BkR nbb nb) J)) (hs : Six nb) (hq : nb.asked.length ≤ K) (hK : K ≤ 100000) (a : Nat) (h1 : 1 ≤ a) (h6 : a ≤ 6) {x : List UInt8} (hv : nb.val a = some x) :
    Calls Try.prog 31 #[ptr nbb, .int .u64 (a : Int)] w fun e w' => ∃ ao c nb', e = .returned (.tuple #[.slice ao x.length c, .int .i64 0]) ∧ Six nb' ∧ (∀ j, nb'.val j = nb.val j) ∧ nb'.asked.length ≤ K + 1 ∧ Own w0 w' (Sep (Fix fun w => SlC w (.slice ao x.length c) x) (Sep (BkR nbb nb') J)) := by
  refine (bload_any h (a : Int) (by omega) (by rw [hs.i]; decide)).mono ?_
  rintro e w' (⟨y, ao, c, hx, _, rfl, ho⟩ | ⟨hn, _, _⟩)
  · have hx2 : some y = some x := hx.symm.trans hv
    simp only [Option.some.injEq] at hx2
    subst hx2
    have := (Bk.load_len nb (a : Int)).1
    exact ⟨ao, c, _, rfl, hs.load _, fun j => val_load _ _ _, by omega, ho⟩
  · have : (none : Option (List UInt8)) = some x := hn.symm.trans hv
    cases this
theorem now_save (h : Own w0 w (Sep (BkR nbb nb) J)) (hs : Six nb) (hq : nb.asked.length ≤ K) (hK : K ≤ 100000) (a : Nat) (h1 : 1 ≤ a) (h6 : a ≤ 6) (v : Value) (x : List UInt8) (hv : SlC w0 v x) (hvl : x.length ≤ 140737488351232) :
    Calls Try.prog 32 #[ptr nbb, .int .u64 (a : Int), v] w fun e w' => ∃ nb', e = .returned (.int .i64 0) ∧ Six nb' ∧ (∀ j, 1 ≤ j → j ≤ 6 → nb'.val j = if j = (a : Int) then some x else nb.val j) ∧ nb'.asked.length ≤ K + 1 ∧ Own w0 w' (Sep (BkR nbb nb') J) := by
  refine (bsave_any h (a : Int) v x (by omega) (by rw [hs.i]; decide) (fun W F _ ho => hv.keep ho) hvl).mono ?_
  rintro e w' ⟨rfl, ho⟩
  obtain ⟨s1, s2, s3, s4⟩ := six_save hs (id := (a : Int)) (by omega) (by omega) x
  exact ⟨_, by rw [s1]; rfl, s2, s3, by rw [s4, List.length_append, List.length_singleton]; omega, ho⟩
end

end Go.Proofs.Ytjmelhmjcbliaaa
