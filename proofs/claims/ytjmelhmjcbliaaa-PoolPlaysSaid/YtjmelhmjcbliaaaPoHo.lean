/-
  A pool whose back takes all Saves: what its places hold, what lies in its back; how many places there are. Plain lists.
-/
import Derived.Test.YtjmelhmjcbliaaaPoPi
import Derived.Test.YtjmelhmjcbliaaaPoPut
namespace Go.Proofs.Ytjmelhmjcbliaaa
open Go Go.RowKit
set_option linter.unusedVariables false
set_option linter.unusedSimpArgs false
set_option maxRecDepth 100000
set_option linter.unusedSimpArgs false

/-! ### A back that takes all -/
structure Six (b : Bk) : Prop where
  i : b.ids = (bk0 6).ids
  n : b.bs.length = 6
  f : b.full = -1
def Bk.val (b : Bk) (id : Int) : Option (List UInt8) := (b.load id).2
theorem six_ix {b : Bk} (h : Six b) {id : Int} (h1 : 1 ≤ id) (h6 : id ≤ 6) : b.at id = some (id.toNat - 1) := by
  unfold Bk.at
  rw [h.i]
  have : id = 1 ∨ id = 2 ∨ id = 3 ∨ id = 4 ∨ id = 5 ∨ id = 6 := by omega
  rcases this with rfl | rfl | rfl | rfl | rfl | rfl <;> decide
theorem six_val {b : Bk} (h : Six b) {id : Int} (h1 : 1 ≤ id) (h6 : id ≤ 6) : b.val id = some (b.bs.getD (id.toNat - 1) []) := by
  unfold Bk.val Bk.load
  rw [six_ix h h1 h6]
  rfl
theorem Six.load {b : Bk} (h : Six b) (id : Int) : Six (b.load id).1 := ⟨h.i, h.n, h.f⟩
theorem val_load (b : Bk) (id j : Int) : (b.load id).1.val j = b.val j := rfl
theorem six_save {b : Bk} (h : Six b) {id : Int} (h1 : 1 ≤ id) (h6 : id ≤ 6) (x : List UInt8) : (b.save id x).2 = true ∧ Six (b.save id x).1 ∧ (∀ j, 1 ≤ j → j ≤ 6 → (b.save id x).1.val j = if j = id then some x else b.val j) ∧ (b.save id x).1.asked = b.asked ++ [wu (2 * id + 1)] := by
  have hf : ¬ b.full = 0 := by rw [h.f]; decide
  have hl : (b.ask (2 * id + 1)).less = b.ask (2 * id + 1) := by
    unfold Bk.less
    rw [if_neg (by show ¬ 0 < b.full; rw [h.f]; decide)]
  have hs : b.save id x = ({ b.ask (2 * id + 1) with bs := b.bs.set (id.toNat - 1) x }, true) := by
    rw [Bk.save_yes hf, hl]
    unfold Bk.take
    have : (b.ask (2 * id + 1)).at id = some (id.toNat - 1) := six_ix (b := b) h h1 h6
    rw [this]
    rfl
  rw [hs]
  have h2 : Six { b.ask (2 * id + 1) with bs := b.bs.set (id.toNat - 1) x } := ⟨h.i, by show (b.bs.set _ _).length = 6; rw [List.length_set]; exact h.n, h.f⟩
  refine ⟨rfl, h2, fun j j1 j6 => ?_, rfl⟩
  rw [six_val h2 j1 j6, six_val h j1 j6]
  show some ((b.bs.set (id.toNat - 1) x).getD (j.toNat - 1) []) = _
  by_cases e : j = id
  · subst e
    rw [if_pos rfl, getD_set_same (by rw [h.n]; omega)]
  · rw [if_neg e]
    have : id.toNat - 1 ≠ j.toNat - 1 := by omega
    simp [List.getD_eq_getElem?_getD, List.getElem?_set, this]
theorem bk0_six : Six (bk0 6) := ⟨rfl, by decide, rfl⟩
/-! ### What a pool holds -/
structure HoI (m : Nat) (nv : Int → List UInt8) (st : Po) : Prop where
  s : Six st.bk
  nd : st.ids.Nodup
  r : ∀ x ∈ st.L, 1 ≤ x.id ∧ x.id ≤ 6
  b : ∀ x ∈ st.L, x.b = nv x.id
  c : ∀ x ∈ st.L, x.d = false → st.bk.val x.id = some (nv x.id)
  o : ∀ j, 1 ≤ j → j ≤ 6 → j ∉ st.ids → st.bk.val j = some (nv j)
  m : st.most = m
def Po.sum (st : Po) : Nat := (st.L.map (·.p)).sum
theorem HoI.next {m : Nat} {nv : Int → List UInt8} {st : Po} (h : HoI m nv st) (hd : Nat) : HoI m nv { st with L := (nextP (2 * st.L.length) st.L st.hand).1, hand := hd } := by
  have hids : ((nextP (2 * st.L.length) st.L st.hand).1.map (·.id)) = st.ids := nextP_map (fun x : Pl => x.id) (fun x => rfl) _ _ _
  refine ⟨h.s, ?_, fun x hx => ?_, fun x hx => ?_, fun x hx hxd => ?_, fun j j1 j6 hj => ?_, h.m⟩
  · show ((nextP _ _ _).1.map (·.id)).Nodup
    rw [hids]
    exact h.nd
  · obtain ⟨y, hy, e, _⟩ := nextP_mem hx
    rw [← e]
    exact h.r y hy
  · obtain ⟨y, hy, e, _, _, e2⟩ := nextP_mem hx
    rw [← e, ← e2]
    exact h.b y hy
  · obtain ⟨y, hy, e, _, e3, _⟩ := nextP_mem hx
    rw [← e]
    exact h.c y hy (by rw [e3]; exact hxd)
  · refine h.o j j1 j6 fun hm => hj ?_
    show j ∈ (nextP _ _ _).1.map (·.id)
    rw [hids]
    exact hm
theorem sum_next (st : Po) (hd : Nat) : Po.sum { st with L := (nextP (2 * st.L.length) st.L st.hand).1, hand := hd } = st.sum := by
  unfold Po.sum
  show ((nextP _ _ _).1.map (·.p)).sum = _
  rw [nextP_map (fun x : Pl => x.p) (fun x => rfl)]
theorem nd_inj {st : Po} (hn : st.ids.Nodup) {i : Nat} (hi : i < st.L.length) {x : Pl} (hx : x ∈ st.L) (e : x.id = (st.pl i).id) : x = st.pl i := by
  obtain ⟨j, hj, rfl⟩ := List.getElem_of_mem hx
  have e2 : st.pl i = st.L[i] := by unfold Po.pl; rw [List.getD_eq_getElem?_getD, List.getElem?_eq_getElem hi]; rfl
  rw [e2] at e ⊢
  have h1 : st.ids[j]'(by unfold Po.ids; rw [List.length_map]; exact hj) = st.ids[i]'(by unfold Po.ids; rw [List.length_map]; exact hi) := by
    unfold Po.ids
    rw [List.getElem_map, List.getElem_map]
    exact e
  have h2 := (List.getElem_inj hn).1 h1
  subst h2
  rfl
/-- A place is saved. -/
theorem HoI.save {m : Nat} {nv : Int → List UInt8} {st : Po} (h : HoI m nv st) {i : Nat} (hi : i < st.L.length) : (st.save i).2 = true ∧ HoI m nv (st.save i).1 ∧ ((st.save i).1.pl i).d = false ∧ ((st.save i).1.pl i).id = (st.pl i).id ∧ ((st.save i).1.pl i).p = (st.pl i).p ∧ (st.save i).1.sum = st.sum ∧ (∀ x ∈ (st.save i).1.L, x.d = true → x ∈ st.L) := by
  obtain ⟨r1, r6⟩ := h.r _ (pl_mem hi)
  cases hd : (st.pl i).d with
  | false =>
    have e : st.save i = (st, true) := by unfold Po.save; rw [hd]; rfl
    rw [e]
    exact ⟨rfl, h, hd, rfl, rfl, rfl, fun x hx _ => hx⟩
  | true =>
    obtain ⟨s1, s2, s3, s4⟩ := six_save h.s r1 r6 (st.pl i).b
    have e : st.save i = ({ st with bk := (st.bk.save (st.pl i).id (st.pl i).b).1, L := st.L.set i { st.pl i with d := false } }, true) := by unfold Po.save; rw [hd, s1]; rfl
    rw [e]
    have hids : Po.ids { st with bk := (st.bk.save (st.pl i).id (st.pl i).b).1, L := st.L.set i { st.pl i with d := false } } = st.ids := map_set_same (fun x : Pl => x.id) st.L i { st.pl i with d := false } rfl
    have hpl : Po.pl { st with bk := (st.bk.save (st.pl i).id (st.pl i).b).1, L := st.L.set i { st.pl i with d := false } } i = { st.pl i with d := false } := getD_set_same hi _ _
    refine ⟨rfl, ⟨s2, by rw [hids]; exact h.nd, fun x hx => ?_, fun x hx => ?_, fun x hx hxd => ?_, fun j j1 j6 hj => ?_, h.m⟩, by rw [hpl], by rw [hpl], by rw [hpl], ?_, fun x hx hxd => ?_⟩
    · rcases List.mem_or_eq_of_mem_set hx with h1 | rfl
      · exact h.r x h1
      · exact ⟨r1, r6⟩
    · rcases List.mem_or_eq_of_mem_set hx with h1 | rfl
      · exact h.b x h1
      · exact h.b (st.pl i) (pl_mem hi)
    · have hxr : 1 ≤ x.id ∧ x.id ≤ 6 := by
        rcases List.mem_or_eq_of_mem_set hx with h1 | rfl
        · exact h.r x h1
        · exact ⟨r1, r6⟩
      show (st.bk.save (st.pl i).id (st.pl i).b).1.val x.id = _
      rw [s3 _ hxr.1 hxr.2]
      split
      · rename_i e2
        rw [e2]
        rw [h.b (st.pl i) (pl_mem hi)]
      · rename_i e2
        rcases List.mem_or_eq_of_mem_set hx with h1 | rfl
        · exact h.c x h1 hxd
        · exact absurd rfl e2
    · rw [hids] at hj
      show (st.bk.save (st.pl i).id (st.pl i).b).1.val j = _
      rw [s3 j j1 j6, if_neg]
      · exact h.o j j1 j6 hj
      · intro e2
        apply hj
        rw [e2]
        exact List.mem_map.2 ⟨_, pl_mem hi, rfl⟩
    · unfold Po.sum
      show ((st.L.set i { st.pl i with d := false }).map (·.p)).sum = _
      rw [map_set_same (fun x : Pl => x.p) st.L i { st.pl i with d := false } rfl]
    · rcases List.mem_or_eq_of_mem_set hx with h1 | rfl
      · exact h1
      · cases hxd
/-- A place that isn't dirty is taken out. -/
theorem HoI.out {m : Nat} {nv : Int → List UInt8} {st : Po} (h : HoI m nv st) {i : Nat} (hi : i < st.L.length) (hd : (st.pl i).d = false) : HoI m nv (st.out i) := by
  have hids : (st.out i).ids = st.ids.eraseIdx i := map_eraseIdx _ _ _
  have hil : i < st.ids.length := by unfold Po.ids; rw [List.length_map]; exact hi
  refine ⟨h.s, by rw [hids]; exact List.Nodup.sublist (List.eraseIdx_sublist _ _) h.nd, fun x hx => h.r x (List.mem_of_mem_eraseIdx hx), fun x hx => h.b x (List.mem_of_mem_eraseIdx hx), fun x hx => h.c x (List.mem_of_mem_eraseIdx hx), fun j j1 j6 hj => ?_, h.m⟩
  rw [hids, mem_erase_nd h.nd hil] at hj
  by_cases e : j = st.ids[i]
  · have e2 : st.ids[i] = (st.pl i).id := by
      unfold Po.ids Po.pl
      simp [List.getD_eq_getElem?_getD, hi]
      exact List.getElem_map _
    rw [e, e2]
    exact h.c _ (pl_mem hi) hd
  · exact h.o j j1 j6 fun hm => hj ⟨hm, e⟩
theorem sum_erase : ∀ (L : List Pl) (i : Nat), i < L.length → ((L.eraseIdx i).map (·.p)).sum + (L.getD i default).p = (L.map (·.p)).sum
  | [], i, h => by simp at h
  | x :: L, 0, _ => by
    show (L.map (·.p)).sum + x.p = ((x :: L).map (·.p)).sum
    rw [List.map_cons, List.sum_cons]
    omega
  | x :: L, i + 1, h => by
    have := sum_erase L i (by simpa using h)
    show ((x :: L.eraseIdx i).map (·.p)).sum + (L.getD i default).p = ((x :: L).map (·.p)).sum
    rw [List.map_cons, List.sum_cons, List.map_cons, List.sum_cons]
    omega
/-- One goes. -/
theorem HoI.goes {m : Nat} {nv : Int → List UInt8} {st : Po} (h : HoI m nv st) : HoI m nv st.goes.1 ∧ st.goes.1.sum = st.sum ∧ (st.goes.2.2 ≠ 0 → ∀ x ∈ st.goes.1.L, 0 < x.p) := by
  cases hx : (nextP (2 * st.L.length) st.L st.hand).2 with
  | none =>
    rw [goes_none hx]
    refine ⟨h.next st.hand, sum_next st st.hand, fun _ x hx1 => ?_⟩
    obtain ⟨y, hy, _, e, _⟩ := nextP_mem hx1
    rw [← e]
    exact nextP_none hx y hy
  | some i =>
    have h0 : st.L.length ≠ 0 := fun e => by rw [e] at hx; cases hx
    have hs := nextP_some _ _ _ _ hx h0
    have h1 := h.next i
    have hi : i < (Po.mk (nextP (2 * st.L.length) st.L st.hand).1 i st.bk st.most).L.length := by show i < (nextP _ _ _).1.length; rw [nextP_len]; exact hs.1
    obtain ⟨v1, v2, v3, v4, v5, v6, _⟩ := h1.save hi
    have hlen : i < (Po.save { st with L := (nextP (2 * st.L.length) st.L st.hand).1, hand := i } i).1.L.length := by rw [(Po.save_len _ _).1]; exact hi
    rw [goes_yes hx v1]
    refine ⟨v2.out hlen v3, ?_, fun hne => absurd rfl hne⟩
    have h3 := sum_erase _ i hlen
    have h4 : ((Po.save { st with L := (nextP (2 * st.L.length) st.L st.hand).1, hand := i } i).1.L.getD i default).p = 0 := by
      show (Po.pl _ i).p = 0
      rw [v5]
      exact hs.2.1
    rw [h4, Nat.add_zero] at h3
    have h5 : ((List.eraseIdx (Po.save { st with L := (nextP (2 * st.L.length) st.L st.hand).1, hand := i } i).1.L i).map fun x : Pl => x.p).sum = st.sum := by
      rw [h3, ← sum_next st i]
      exact v6
    exact h5
theorem HoI.roomP {m : Nat} {nv : Int → List UInt8} : ∀ (k : Nat) (st : Po), HoI m nv st → st.L.length ≤ k + m → HoI m nv (roomP k st) ∧ (roomP k st).sum = st.sum ∧ ((roomP k st).L.length ≤ m ∨ ∀ x ∈ (roomP k st).L, 0 < x.p)
  | 0, st, h, hk => ⟨h, rfl, .inl (by show st.L.length ≤ m; omega)⟩
  | k + 1, st, h, hk => by
    rw [Go.Proofs.Ytjmelhmjcbliaaa.roomP]
    split
    · rename_i hmo
      obtain ⟨g1, g2, g3⟩ := h.goes
      split
      · rename_i hz
        have hl := (Po.goes_len st).2.2.2.2.1 hz
        obtain ⟨r1, r2, r3⟩ := HoI.roomP k st.goes.1 g1 (by omega)
        exact ⟨r1, r2.trans g2, r3⟩
      · rename_i hz
        exact ⟨g1, g2, .inr (g3 hz)⟩
    · rename_i hmo
      exact ⟨h, rfl, .inl (by rw [h.m] at hmo; omega)⟩
theorem len_sum : ∀ {L : List Pl}, (∀ x ∈ L, 0 < x.p) → L.length ≤ (L.map (·.p)).sum
  | [], _ => Nat.zero_le _
  | x :: L, h => by
    have h1 := len_sum (L := L) (fun y hy => h y (List.mem_cons_of_mem _ hy))
    have h2 := h x (List.mem_cons_self)
    rw [List.map_cons, List.sum_cons, List.length_cons]
    omega
/-- Room is made: what there is is as it was, and there are at most the most and the pinned ones. -/
theorem HoI.room {m : Nat} {nv : Int → List UInt8} {st : Po} (h : HoI m nv st) : HoI m nv st.room ∧ st.room.sum = st.sum ∧ st.room.L.length ≤ m + st.sum := by
  obtain ⟨r1, r2, r3⟩ := HoI.roomP st.L.length st h (by omega)
  refine ⟨r1, r2, ?_⟩
  rcases r3 with h1 | h1
  · exact Nat.le_trans h1 (Nat.le_add_right _ _)
  · have := len_sum h1
    have h2 : ((Go.Proofs.Ytjmelhmjcbliaaa.roomP st.L.length st).L.map (·.p)).sum = st.sum := r2
    unfold Po.room
    omega
theorem sum_set : ∀ (L : List Pl) (i : Nat) (x : Pl), i < L.length → ((L.set i x).map (·.p)).sum + (L.getD i default).p = (L.map (·.p)).sum + x.p
  | [], i, x, h => by simp at h
  | y :: L, 0, x, _ => by
    show ((x :: L).map (·.p)).sum + y.p = ((y :: L).map (·.p)).sum + x.p
    rw [List.map_cons, List.sum_cons, List.map_cons, List.sum_cons]
    omega
  | y :: L, i + 1, x, h => by
    have := sum_set L i x (by simpa using h)
    show ((y :: L.set i x).map (·.p)).sum + (L.getD i default).p = ((y :: L).map (·.p)).sum + x.p
    rw [List.map_cons, List.sum_cons, List.map_cons, List.sum_cons]
    omega
/-- A place's pins and use are turned. -/
theorem HoI.turn {m : Nat} {nv : Int → List UInt8} {st : Po} (h : HoI m nv st) {i : Nat} (hi : i < st.L.length) (n : Nat) (u : Bool) : HoI m nv (st.turn i { st.pl i with u := u, p := n }) ∧ (st.turn i { st.pl i with u := u, p := n }).sum + (st.pl i).p = st.sum + n := by
  have hids : (st.turn i { st.pl i with u := u, p := n }).ids = st.ids := map_set_same (fun x : Pl => x.id) st.L i { st.pl i with u := u, p := n } rfl
  refine ⟨⟨h.s, by rw [hids]; exact h.nd, fun x hx => ?_, fun x hx => ?_, fun x hx hxd => ?_, fun j j1 j6 hj => h.o j j1 j6 (by rw [← hids]; exact hj), h.m⟩, sum_set st.L i _ hi⟩
  · rcases List.mem_or_eq_of_mem_set hx with h1 | rfl
    · exact h.r x h1
    · exact h.r (st.pl i) (pl_mem hi)
  · rcases List.mem_or_eq_of_mem_set hx with h1 | rfl
    · exact h.b x h1
    · exact h.b (st.pl i) (pl_mem hi)
  · rcases List.mem_or_eq_of_mem_set hx with h1 | rfl
    · exact h.c x h1 hxd
    · exact h.c (st.pl i) (pl_mem hi) hxd
theorem HoI.find {m : Nat} {nv : Int → List UInt8} {st : Po} (h : HoI m nv st) {id : Int} (h1 : 1 ≤ id) (h6 : id ≤ 6) : ∃ i, (st.find id).2 = some i ∧ i < (st.find id).1.L.length ∧ ((st.find id).1.pl i).id = id ∧ HoI m nv (st.find id).1 ∧ (st.find id).1.sum = st.sum := by
  cases hx : st.ix id with
  | some i =>
    obtain ⟨h2, h3⟩ := Po.ix_pl hx
    rw [find_some hx]
    exact ⟨i, rfl, h2, h3, h, rfl⟩
  | none =>
    have hni := ixOf_none hx
    have hv := h.o id h1 h6 hni
    have hb' : (st.bk.load id).2 = some (nv id) := hv
    rw [find_come hx hb']
    have hids : Po.ids { st with bk := (st.bk.load id).1, L := st.L ++ [⟨id, nv id, false, 0, false⟩] } = st.ids ++ [id] := by unfold Po.ids; simp
    refine ⟨st.L.length, rfl, by simp, by unfold Po.pl; rw [getD_end], ⟨h.s.load id, ?_, fun x hx => ?_, fun x hx => ?_, fun x hx hxd => ?_, fun j j1 j6 hj => ?_, h.m⟩, ?_⟩
    · rw [hids, List.nodup_append]
      exact ⟨h.nd, by simp, fun a ha b hb => by simp only [List.mem_singleton] at hb; subst hb; exact fun e => hni (e ▸ ha)⟩
    · rcases List.mem_append.1 hx with hx | hx
      · exact h.r x hx
      · simp only [List.mem_singleton] at hx
        subst hx
        exact ⟨h1, h6⟩
    · rcases List.mem_append.1 hx with hx | hx
      · exact h.b x hx
      · simp only [List.mem_singleton] at hx
        subst hx
        rfl
    · show (st.bk.load id).1.val x.id = _
      rw [val_load]
      rcases List.mem_append.1 hx with hx | hx
      · exact h.c x hx hxd
      · simp only [List.mem_singleton] at hx
        subst hx
        exact hv
    · rw [hids] at hj
      show (st.bk.load id).1.val j = _
      rw [val_load]
      exact h.o j j1 j6 fun hm => hj (List.mem_append.2 (.inl hm))
    · unfold Po.sum
      simp
/-- Get answers what was put last. -/
theorem HoI.get {m : Nat} {nv : Int → List UInt8} {st : Po} (h : HoI m nv st) {id : Int} (h1 : 1 ≤ id) (h6 : id ≤ 6) : (st.get id).2 = some (nv id) ∧ HoI m nv (st.get id).1 ∧ (st.get id).1.sum = st.sum ∧ (st.get id).1.L.length ≤ m + st.sum := by
  obtain ⟨i, hi, hl, hid, hI, hs⟩ := h.find h1 h6
  rw [get_some hi]
  obtain ⟨t1, t2⟩ := hI.turn hl ((st.find id).1.pl i).p true
  obtain ⟨r1, r2, r3⟩ := t1.room
  have e : ((st.find id).1.turn i { (st.find id).1.pl i with u := true, p := ((st.find id).1.pl i).p }).sum = st.sum := by omega
  rw [e] at r2 r3
  refine ⟨?_, r1, r2, r3⟩
  show some ((st.find id).1.pl i).b = _
  rw [hI.b _ (pl_mem hl), hid]
theorem HoI.pin {m : Nat} {nv : Int → List UInt8} {st : Po} (h : HoI m nv st) {id : Int} (h1 : 1 ≤ id) (h6 : id ≤ 6) : (st.pin id).2 = true ∧ HoI m nv (st.pin id).1 ∧ (st.pin id).1.sum = st.sum + 1 ∧ (st.pin id).1.L.length ≤ m + (st.sum + 1) := by
  obtain ⟨i, hi, hl, hid, hI, hs⟩ := h.find h1 h6
  rw [pin_some hi]
  obtain ⟨t1, t2⟩ := hI.turn hl (((st.find id).1.pl i).p + 1) true
  obtain ⟨r1, r2, r3⟩ := t1.room
  have e : ((st.find id).1.turn i { (st.find id).1.pl i with u := true, p := ((st.find id).1.pl i).p + 1 }).sum = st.sum + 1 := by omega
  rw [e] at r2 r3
  exact ⟨rfl, r1, r2, r3⟩
theorem HoI.unpin {m : Nat} {nv : Int → List UInt8} {st : Po} (h : HoI m nv st) (hl0 : st.L.length ≤ m + st.sum) (id : Int) : HoI m nv (st.unpin id).1 ∧ ((st.unpin id).2 = true → (st.unpin id).1.sum + 1 = st.sum) ∧ ((st.unpin id).2 = false → (st.unpin id).1 = st) ∧ (st.unpin id).1.L.length ≤ m + (st.unpin id).1.sum := by
  cases hx : st.ix id with
  | none =>
    rw [unpin_none hx]
    exact ⟨h, fun h => (by cases h), fun _ => rfl, hl0⟩
  | some i =>
    obtain ⟨h2, h3⟩ := Po.ix_pl hx
    by_cases hz : (st.pl i).p = 0
    · rw [unpin_zero hx hz]
      exact ⟨h, fun h => (by cases h), fun _ => rfl, hl0⟩
    · rw [unpin_some hx hz]
      obtain ⟨t1, t2⟩ := h.turn h2 ((st.pl i).p - 1) (st.pl i).u
      obtain ⟨r1, r2, r3⟩ := t1.room
      refine ⟨r1, fun _ => ?_, fun h => (by cases h), ?_⟩
      · show (Po.room (st.turn i { st.pl i with u := (st.pl i).u, p := (st.pl i).p - 1 })).sum + 1 = st.sum
        rw [r2]
        omega
      · show (Po.room (st.turn i { st.pl i with u := (st.pl i).u, p := (st.pl i).p - 1 })).L.length ≤ m + (Po.room (st.turn i { st.pl i with u := (st.pl i).u, p := (st.pl i).p - 1 })).sum
        rw [r2]
        exact r3
theorem HoI.put {m : Nat} {nv : Int → List UInt8} {st : Po} (h : HoI m nv st) {id : Int} (h1 : 1 ≤ id) (h6 : id ≤ 6) (b : List UInt8) : HoI m (fun j => if j = id then b else nv j) (st.put id b) ∧ (st.put id b).sum = st.sum ∧ (st.put id b).L.length ≤ m + st.sum := by
  cases hx : st.ix id with
  | some i =>
    obtain ⟨hl, hid⟩ := Po.ix_pl hx
    rw [put_some hx]
    have hids : (st.turn i { st.pl i with b := b, u := true, d := true }).ids = st.ids := map_set_same (fun x : Pl => x.id) st.L i { st.pl i with b := b, u := true, d := true } rfl
    have hmid : id ∈ st.ids := by rw [← hid]; exact List.mem_map.2 ⟨_, pl_mem hl, rfl⟩
    have hother : ∀ x ∈ (st.turn i { st.pl i with b := b, u := true, d := true }).L, x = { st.pl i with b := b, u := true, d := true } ∨ (x ∈ st.L ∧ x.id ≠ id) := fun x hx => by
      obtain ⟨j, hj, rfl⟩ := List.getElem_of_mem hx
      have hj' : j < st.L.length := by have h5 : (st.L.set i { st.pl i with b := b, u := true, d := true }).length = st.L.length := List.length_set; exact h5 ▸ hj
      by_cases e : i = j
      · left
        subst e
        exact List.getElem_set_self _
      · right
        have e1 : (st.turn i { st.pl i with b := b, u := true, d := true }).L[j] = st.L[j] := List.getElem_set_ne e _
        rw [e1]
        refine ⟨List.getElem_mem hj', fun e2 => e ?_⟩
        have h3 := nd_inj h.nd hl (List.getElem_mem hj') (by rw [e2, hid])
        have h4 : st.ids[j]'(by unfold Po.ids; rw [List.length_map]; exact hj') = st.ids[i]'(by unfold Po.ids; rw [List.length_map]; exact hl) := by
          unfold Po.ids
          rw [List.getElem_map, List.getElem_map, h3]
          unfold Po.pl
          rw [List.getD_eq_getElem?_getD, List.getElem?_eq_getElem hl]
          rfl
        exact ((List.getElem_inj h.nd).1 h4).symm
    have hI : HoI m (fun j => if j = id then b else nv j) (st.turn i { st.pl i with b := b, u := true, d := true }) := by
      refine ⟨h.s, by rw [hids]; exact h.nd, fun x hx => ?_, fun x hx => ?_, fun x hx hxd => ?_, fun j j1 j6 hj => ?_, h.m⟩
      · rcases hother x hx with rfl | ⟨h5, _⟩
        · exact h.r (st.pl i) (pl_mem hl)
        · exact h.r x h5
      · rcases hother x hx with rfl | ⟨h5, h7⟩
        · exact (if_pos hid).symm
        · rw [h.b x h5, if_neg h7]
      · rcases hother x hx with rfl | ⟨h5, h7⟩
        · cases hxd
        · show st.bk.val x.id = _
          rw [h.c x h5 hxd, if_neg h7]
      · rw [hids] at hj
        show st.bk.val j = _
        rw [h.o j j1 j6 hj, if_neg (fun e => hj (by rw [e]; exact hmid))]
    obtain ⟨r1, r2, r3⟩ := hI.room
    have e : (st.turn i { st.pl i with b := b, u := true, d := true }).sum = st.sum := by
      have := sum_set st.L i { st.pl i with b := b, u := true, d := true } hl
      have h8 : ((st.L.set i { st.pl i with b := b, u := true, d := true }).map (·.p)).sum + (st.pl i).p = (st.L.map (·.p)).sum + (st.pl i).p := this
      show ((st.L.set i { st.pl i with b := b, u := true, d := true }).map (·.p)).sum = (st.L.map (·.p)).sum
      omega
    rw [e] at r2 r3
    exact ⟨r1, r2, r3⟩
  | none =>
    have hni := ixOf_none hx
    rw [put_none hx]
    have hids : Po.ids { st with L := st.L ++ [⟨id, b, true, 0, true⟩] } = st.ids ++ [id] := by unfold Po.ids; simp
    have hne : ∀ x ∈ st.L, x.id ≠ id := fun x hx e => hni (e ▸ List.mem_map.2 ⟨x, hx, rfl⟩)
    have hI : HoI m (fun j => if j = id then b else nv j) { st with L := st.L ++ [⟨id, b, true, 0, true⟩] } := by
      refine ⟨h.s, ?_, fun x hx => ?_, fun x hx => ?_, fun x hx hxd => ?_, fun j j1 j6 hj => ?_, h.m⟩
      · rw [hids, List.nodup_append]
        exact ⟨h.nd, by simp, fun a ha b hb => by simp only [List.mem_singleton] at hb; subst hb; exact fun e => hni (e ▸ ha)⟩
      · rcases List.mem_append.1 hx with hx | hx
        · exact h.r x hx
        · simp only [List.mem_singleton] at hx
          subst hx
          exact ⟨h1, h6⟩
      · rcases List.mem_append.1 hx with hx | hx
        · rw [h.b x hx, if_neg (hne x hx)]
        · simp only [List.mem_singleton] at hx
          subst hx
          exact (if_pos rfl).symm
      · rcases List.mem_append.1 hx with hx | hx
        · show st.bk.val x.id = _
          rw [h.c x hx hxd, if_neg (hne x hx)]
        · simp only [List.mem_singleton] at hx
          subst hx
          cases hxd
      · rw [hids] at hj
        show st.bk.val j = _
        rw [h.o j j1 j6 fun hm => hj (List.mem_append.2 (.inl hm)), if_neg (fun e => hj (List.mem_append.2 (.inr (by rw [e]; simp))))]
    obtain ⟨r1, r2, r3⟩ := hI.room
    have e : Po.sum { st with L := st.L ++ [⟨id, b, true, 0, true⟩] } = st.sum := by unfold Po.sum; simp
    rw [e] at r2 r3
    exact ⟨r1, r2, r3⟩
theorem HoI.evict {m : Nat} {nv : Int → List UInt8} {st : Po} (h : HoI m nv st) : HoI m nv st.evict.1 ∧ st.evict.1.sum = st.sum ∧ st.evict.1.L.length ≤ st.L.length := by
  unfold Po.evict
  split
  · exact ⟨h, rfl, Nat.le_refl _⟩
  · obtain ⟨g1, g2, _⟩ := h.goes
    exact ⟨g1, g2, (Po.goes_len st).2.2.2.1⟩
theorem clean_some' {st : Po} {id : Int} {i : Nat} (h : st.ix id = some i) : st.clean id = ((st.save i).1, if (st.save i).2 then 0 else 3) := by unfold Po.clean; rw [h]
theorem HoI.clean {m : Nat} {nv : Int → List UInt8} {st : Po} (h : HoI m nv st) {id : Int} (hid : id ∈ st.ids) : (st.clean id).2 = 0 ∧ HoI m nv (st.clean id).1 ∧ (∀ j, j ∈ (st.clean id).1.dirty → j ∈ st.dirty ∧ j ≠ id) ∧ (st.clean id).1.ids = st.ids := by
  obtain ⟨i, hi⟩ := ixOf_mem hid
  have hx : st.ix id = some i := hi
  obtain ⟨hl, hpi⟩ := Po.ix_pl hx
  obtain ⟨v1, v2, v3, v4, v5, v6, v7⟩ := h.save hl
  rw [clean_some' hx]
  have hids : (st.save i).1.ids = st.ids := by
    unfold Po.save
    split
    · split
      · exact map_set_same (fun x : Pl => x.id) st.L i { st.pl i with d := false } rfl
      · rfl
    · rfl
  refine ⟨by rw [v1]; rfl, v2, fun j hj => ?_, hids⟩
  unfold Po.dirty at hj ⊢
  obtain ⟨x, hx1, rfl⟩ := List.mem_map.1 hj
  obtain ⟨hx2, hx3⟩ := List.mem_filter.1 hx1
  have hxL := v7 x hx2 (by simpa using hx3)
  refine ⟨List.mem_map.2 ⟨x, List.mem_filter.2 ⟨hxL, hx3⟩, rfl⟩, fun e => ?_⟩
  have hl2 : i < (st.save i).1.L.length := by rw [(Po.save_len _ _).1]; exact hl
  have h9 := nd_inj v2.nd hl2 hx2 (by rw [v4, hpi]; exact e)
  rw [h9] at hx3
  rw [v3] at hx3
  cases hx3

end Go.Proofs.Ytjmelhmjcbliaaa
