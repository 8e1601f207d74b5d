/-
  What the calls of a pool ask of its back: a Load of what has no place, Saves of what is dirty. Plain lists.
-/
import Derived.Test.YtjmelhmjcbliaaaPoL4
namespace Go.Proofs.Ytjmelhmjcbliaaa
open Go Go.RowKit
set_option linter.unusedVariables false
set_option linter.unusedSimpArgs false
set_option maxRecDepth 100000
set_option linter.unusedSimpArgs false

theorem Bk.save_asked (b : Bk) (id : Int) (x : List UInt8) : (b.save id x).1.asked = b.asked ++ [wu (2 * id + 1)] := by
  unfold Bk.save
  split
  · rfl
  · unfold Bk.take
    split <;> (unfold Bk.less; split <;> rfl)
/-- One pool made of another by Saves of what was dirty. -/
structure Sv (p q : Po) : Prop where
  a : ∃ l, q.bk.asked = p.bk.asked ++ l ∧ ∀ x ∈ l, ∃ j ∈ p.dirty, x = wu (2 * j + 1)
  d : ∀ j ∈ q.dirty, j ∈ p.dirty
theorem Sv.refl (p : Po) : Sv p p := ⟨⟨[], by simp, fun x hx => by cases hx⟩, fun _ h => h⟩
theorem Sv.trans {p q r : Po} (h1 : Sv p q) (h2 : Sv q r) : Sv p r := by
  obtain ⟨l1, e1, o1⟩ := h1.a
  obtain ⟨l2, e2, o2⟩ := h2.a
  refine ⟨⟨l1 ++ l2, by rw [e2, e1, List.append_assoc], fun x hx => ?_⟩, fun j hj => h1.d j (h2.d j hj)⟩
  rcases List.mem_append.1 hx with hx | hx
  · exact o1 x hx
  · obtain ⟨j, hj, e⟩ := o2 x hx
    exact ⟨j, h1.d j hj, e⟩
theorem mem_dirty {p : Po} {j : Int} : j ∈ p.dirty ↔ ∃ x ∈ p.L, x.d = true ∧ x.id = j := by
  unfold Po.dirty
  constructor
  · intro h
    obtain ⟨x, hx, e⟩ := List.mem_map.1 h
    obtain ⟨h1, h2⟩ := List.mem_filter.1 hx
    exact ⟨x, h1, h2, e⟩
  · rintro ⟨x, hx, hd, e⟩
    exact List.mem_map.2 ⟨x, List.mem_filter.2 ⟨hx, hd⟩, e⟩
theorem sv_next (st : Po) (hd : Nat) : Sv st { st with L := (nextP (2 * st.L.length) st.L st.hand).1, hand := hd } := by
  refine ⟨⟨[], (List.append_nil _).symm, fun x hx => by cases hx⟩, fun j hj => ?_⟩
  obtain ⟨x, hx, hxd, e⟩ := mem_dirty.1 hj
  obtain ⟨y, hy, e1, _, e2, _⟩ := nextP_mem hx
  exact mem_dirty.2 ⟨y, hy, by rw [e2]; exact hxd, by rw [e1]; exact e⟩
theorem sv_save (st : Po) {i : Nat} (hi : i < st.L.length) : Sv st (st.save i).1 := by
  cases hd : (st.pl i).d with
  | false =>
    have e : st.save i = (st, true) := by unfold Po.save; rw [hd]; rfl
    rw [e]
    exact Sv.refl _
  | true =>
    have hm : (st.pl i).id ∈ st.dirty := mem_dirty.2 ⟨_, pl_mem hi, hd, rfl⟩
    unfold Po.save
    rw [hd, if_pos rfl]
    split
    · refine ⟨⟨[wu (2 * (st.pl i).id + 1)], Bk.save_asked _ _ _, fun x hx => ⟨_, hm, by simpa using hx⟩⟩, fun j hj => ?_⟩
      obtain ⟨x, hx, hxd, e⟩ := mem_dirty.1 hj
      rcases List.mem_or_eq_of_mem_set hx with h1 | rfl
      · exact mem_dirty.2 ⟨x, h1, hxd, e⟩
      · cases hxd
    · exact ⟨⟨[wu (2 * (st.pl i).id + 1)], Bk.save_asked _ _ _, fun x hx => ⟨_, hm, by simpa using hx⟩⟩, fun j hj => hj⟩
theorem sv_out (st : Po) (i : Nat) : Sv st (st.out i) := by
  refine ⟨⟨[], (List.append_nil _).symm, fun x hx => by cases hx⟩, fun j hj => ?_⟩
  obtain ⟨x, hx, hxd, e⟩ := mem_dirty.1 hj
  exact mem_dirty.2 ⟨x, List.mem_of_mem_eraseIdx hx, hxd, e⟩
theorem sv_goes {m : Nat} {nv : Int → List UInt8} {st : Po} (h : HoI m nv st) : Sv st st.goes.1 ∧ (st.goes.2.2 = 0 → st.goes.1.L.length + 1 = st.L.length) := by
  cases hx : (nextP (2 * st.L.length) st.L st.hand).2 with
  | none =>
    rw [goes_none hx]
    exact ⟨sv_next st st.hand, fun e => by cases e⟩
  | some i =>
    have h0 : st.L.length ≠ 0 := fun e => by rw [e] at hx; cases hx
    have hs := nextP_some _ _ _ _ hx h0
    have h1 := h.next i
    have hi : i < (Po.mk (nextP (2 * st.L.length) st.L st.hand).1 i st.bk st.most).L.length := by show i < (nextP _ _ _).1.length; rw [nextP_len]; exact hs.1
    obtain ⟨v1, _⟩ := h1.save hi
    rw [goes_yes hx v1]
    refine ⟨((sv_next st i).trans (sv_save _ hi)).trans (sv_out _ i), fun _ => ?_⟩
    show (List.eraseIdx _ i).length + 1 = _
    have hl : (Po.save { st with L := (nextP (2 * st.L.length) st.L st.hand).1, hand := i } i).1.L.length = st.L.length := by
      rw [(Po.save_len _ _).1]
      exact nextP_len _ _ _
    rw [List.length_eraseIdx, if_pos (by rw [hl]; exact hs.1), hl]
    omega
theorem sv_roomP {m : Nat} {nv : Int → List UInt8} : ∀ (k : Nat) (st : Po), HoI m nv st → Sv st (roomP k st)
  | 0, st, h => Sv.refl _
  | k + 1, st, h => by
    rw [Go.Proofs.Ytjmelhmjcbliaaa.roomP]
    split
    · split
      · exact (sv_goes h).1.trans (sv_roomP k _ h.goes.1)
      · exact (sv_goes h).1
    · exact Sv.refl _
theorem roomP_idle {k : Nat} {st : Po} (h : ¬ st.most < st.L.length) : roomP k st = st := by
  cases k with
  | zero => rfl
  | succ k => rw [Go.Proofs.Ytjmelhmjcbliaaa.roomP, if_neg h]
theorem put_q {m : Nat} {nv : Int → List UInt8} {st : Po} (h : HoI m nv st) {id : Int} (h1 : 1 ≤ id) (h6 : id ≤ 6) (b : List UInt8) : ∃ q : Po, st.put id b = q.room ∧ q.bk = st.bk ∧ (∀ j ∈ q.dirty, j ∈ st.dirty ++ [id]) ∧ HoI m (fun j => if j = id then b else nv j) q := by
  cases hx : st.ix id with
  | some i =>
    obtain ⟨hl, hid⟩ := Po.ix_pl hx
    rw [put_some hx]
    have hids : (st.turn i { st.pl i with b := b, u := true, d := true }).ids = st.ids := map_set_same (fun x : Pl => x.id) st.L i { st.pl i with b := b, u := true, d := true } rfl
    have hmid : id ∈ st.ids := by rw [← hid]; exact List.mem_map.2 ⟨_, pl_mem hl, rfl⟩
    have hother : ∀ x ∈ (st.turn i { st.pl i with b := b, u := true, d := true }).L, x = { st.pl i with b := b, u := true, d := true } ∨ (x ∈ st.L ∧ x.id ≠ id) := fun x hx => by
      obtain ⟨j, hj, rfl⟩ := List.getElem_of_mem hx
      have hj' : j < st.L.length := by have h5 : (st.L.set i { st.pl i with b := b, u := true, d := true }).length = st.L.length := List.length_set; exact h5 ▸ hj
      by_cases e : i = j
      · left
        subst e
        exact List.getElem_set_self _
      · right
        have e1 : (st.turn i { st.pl i with b := b, u := true, d := true }).L[j] = st.L[j] := List.getElem_set_ne e _
        rw [e1]
        refine ⟨List.getElem_mem hj', fun e2 => e ?_⟩
        have h3 := nd_inj h.nd hl (List.getElem_mem hj') (by rw [e2, hid])
        have h4 : st.ids[j]'(by unfold Po.ids; rw [List.length_map]; exact hj') = st.ids[i]'(by unfold Po.ids; rw [List.length_map]; exact hl) := by
          unfold Po.ids
          rw [List.getElem_map, List.getElem_map, h3]
          unfold Po.pl
          rw [List.getD_eq_getElem?_getD, List.getElem?_eq_getElem hl]
          rfl
        exact ((List.getElem_inj h.nd).1 h4).symm
    have hI : HoI m (fun j => if j = id then b else nv j) (st.turn i { st.pl i with b := b, u := true, d := true }) := by
      refine ⟨h.s, by rw [hids]; exact h.nd, fun x hx => ?_, fun x hx => ?_, fun x hx hxd => ?_, fun j j1 j6 hj => ?_, h.m⟩
      · rcases hother x hx with rfl | ⟨h5, _⟩
        · exact h.r (st.pl i) (pl_mem hl)
        · exact h.r x h5
      · rcases hother x hx with rfl | ⟨h5, h7⟩
        · exact (if_pos hid).symm
        · rw [h.b x h5, if_neg h7]
      · rcases hother x hx with rfl | ⟨h5, h7⟩
        · cases hxd
        · show st.bk.val x.id = _
          rw [h.c x h5 hxd, if_neg h7]
      · rw [hids] at hj
        show st.bk.val j = _
        rw [h.o j j1 j6 hj, if_neg (fun e => hj (by rw [e]; exact hmid))]
    refine ⟨_, rfl, rfl, fun j hj => ?_, hI⟩
    obtain ⟨x, hx, hxd, e⟩ := mem_dirty.1 hj
    rcases hother x hx with rfl | ⟨h5, _⟩
    · refine List.mem_append.2 (.inr ?_)
      rw [← e]
      exact List.mem_singleton.2 hid
    · exact List.mem_append.2 (.inl (mem_dirty.2 ⟨x, h5, hxd, e⟩))
  | none =>
    have hni := ixOf_none hx
    rw [put_none hx]
    have hids : Po.ids { st with L := st.L ++ [⟨id, b, true, 0, true⟩] } = st.ids ++ [id] := by unfold Po.ids; simp
    have hne : ∀ x ∈ st.L, x.id ≠ id := fun x hx e => hni (e ▸ List.mem_map.2 ⟨x, hx, rfl⟩)
    have hI : HoI m (fun j => if j = id then b else nv j) { st with L := st.L ++ [⟨id, b, true, 0, true⟩] } := by
      refine ⟨h.s, ?_, fun x hx => ?_, fun x hx => ?_, fun x hx hxd => ?_, fun j j1 j6 hj => ?_, h.m⟩
      · rw [hids, List.nodup_append]
        exact ⟨h.nd, by simp, fun a ha b hb => by simp only [List.mem_singleton] at hb; subst hb; exact fun e => hni (e ▸ ha)⟩
      · rcases List.mem_append.1 hx with hx | hx
        · exact h.r x hx
        · simp only [List.mem_singleton] at hx
          subst hx
          exact ⟨h1, h6⟩
      · rcases List.mem_append.1 hx with hx | hx
        · rw [h.b x hx, if_neg (hne x hx)]
        · simp only [List.mem_singleton] at hx
          subst hx
          exact (if_pos rfl).symm
      · rcases List.mem_append.1 hx with hx | hx
        · show st.bk.val x.id = _
          rw [h.c x hx hxd, if_neg (hne x hx)]
        · simp only [List.mem_singleton] at hx
          subst hx
          cases hxd
      · rw [hids] at hj
        show st.bk.val j = _
        rw [h.o j j1 j6 fun hm => hj (List.mem_append.2 (.inl hm)), if_neg (fun e => hj (List.mem_append.2 (.inr (by rw [e]; simp))))]
    refine ⟨_, rfl, rfl, fun j hj => ?_, hI⟩
    obtain ⟨x, hx, hxd, e⟩ := mem_dirty.1 hj
    rcases List.mem_append.1 hx with hx | hx
    · exact List.mem_append.2 (.inl (mem_dirty.2 ⟨x, hx, hxd, e⟩))
    · simp only [List.mem_singleton] at hx
      subst hx
      exact List.mem_append.2 (.inr (List.mem_singleton.2 e.symm))
/-! ### The law's words -/
/-- How many of the questions are Loads. -/
def EvOf (A : List Int) : Nat := (A.filter (fun x => x % 2 == 0)).length
structure AskI (m ld : Nat) (D : List Int) (st : Po) : Prop where
  h : ∃ nv, HoI m nv st
  s : st.sum = 0
  l : st.L.length ≤ m
  e : EvOf st.bk.asked = ld
  o : ∀ x ∈ st.bk.asked, x % 2 ≠ 0 → x / 2 ∈ D
  r : ∀ x ∈ st.bk.asked, 0 ≤ x ∧ x ≤ 13
  n : st.bk.asked.length ≤ 10
theorem ask_saves {nv : Int → List UInt8} {m : Nat} {st q : Po} {D : List Int} (h : HoI m nv st) (hv : Sv st q) (hD : ∀ j ∈ st.dirty, j ∈ D) : ∃ l, q.bk.asked = st.bk.asked ++ l ∧ EvOf l = 0 ∧ (∀ x ∈ l, x / 2 ∈ D) ∧ (∀ x ∈ l, 0 ≤ x ∧ x ≤ 13) := by
  obtain ⟨l, e, o⟩ := hv.a
  have ho : ∀ x ∈ l, ∃ j ∈ st.dirty, 1 ≤ j ∧ j ≤ 6 ∧ x = 2 * j + 1 := fun x hx => by
    obtain ⟨j, hj, rfl⟩ := o x hx
    obtain ⟨y, hy, _, rfl⟩ := mem_dirty.1 hj
    have := h.r y hy
    refine ⟨_, hj, this.1, this.2, ?_⟩
    unfold wu
    omega
  refine ⟨l, e, ?_, fun x hx => ?_, fun x hx => ?_⟩
  · unfold EvOf
    rw [List.length_eq_zero_iff, List.filter_eq_nil_iff]
    intro x hx
    obtain ⟨j, _, _, _, rfl⟩ := ho x hx
    have : (2 * j + 1) % 2 = 1 := by omega
    simp [this]
  · obtain ⟨j, hj, _, _, rfl⟩ := ho x hx
    have : (2 * j + 1) / 2 = j := by omega
    rw [this]
    exact hD j hj
  · obtain ⟨j, hj, _, _, rfl⟩ := ho x hx
    omega
theorem EvOf_append (a b : List Int) : EvOf (a ++ b) = EvOf a + EvOf b := by unfold EvOf; rw [List.filter_append, List.length_append]
section
variable {m : Nat} {nv : Int → List UInt8} {st : Po}
theorem ask_get (h : HoI m nv st) (hz : st.sum = 0) (hl : st.L.length ≤ m) (ha : st.bk.asked = []) {id : Int} (h1 : 1 ≤ id) (h6 : id ≤ 6) : ∃ ld, ld ≤ 1 ∧ AskI m ld st.dirty (st.get id).1 ∧ (ld = 0 → (st.get id).1.L.length = st.L.length) := by
  obtain ⟨g1, g2, g3, g4⟩ := h.get h1 h6
  have hlen6 := h.len
  have hal := get_asked st id
  rw [ha, List.length_nil] at hal
  cases hix : st.ix id with
  | some i =>
    have hf : st.find id = (st, some i) := by unfold Po.find; rw [hix]
    have hg := get_some (st := st) (id := id) (i := i) (by rw [hf])
    have hr : (st.get id).1 = st.turn i { st.pl i with u := true } := by
      rw [hg, hf]
      have hlt : (st.turn i { st.pl i with u := true }).L.length = st.L.length := List.length_set
      exact roomP_idle (by rw [hlt]; have : (st.turn i { st.pl i with u := true }).most = st.most := rfl; rw [this, h.m]; omega)
    have ha' : (st.get id).1.bk.asked = [] := by rw [hr]; exact ha
    refine ⟨0, by omega, ⟨⟨nv, g2⟩, by rw [g3, hz], by omega, by rw [ha']; rfl, fun x hx => ?_, fun x hx => ?_, by omega⟩, fun _ => by rw [hr]; exact List.length_set⟩
    · rw [ha'] at hx; cases hx
    · rw [ha'] at hx; cases hx
  | none =>
    obtain ⟨i, f1, f2, f3, f4, f5⟩ := h.find h1 h6
    have hg := get_some f1
    have hfd : ∃ b, st.find id = ({ st with bk := (st.bk.load id).1, L := st.L ++ [⟨id, b, false, 0, false⟩] }, some st.L.length) := by
      unfold Po.find at f1 ⊢
      rw [hix] at f1 ⊢
      dsimp only at f1 ⊢
      cases hld : (st.bk.load id).2 with
      | none => rw [hld] at f1; cases f1
      | some b => exact ⟨b, rfl⟩
    obtain ⟨b, hfd⟩ := hfd
    have hrr : (st.get id).1 = ((st.find id).1.turn i { (st.find id).1.pl i with u := true }).room := by rw [hg]
    have hq := (f4.turn f2 ((st.find id).1.pl i).p true).1
    have hsv := sv_roomP ((st.find id).1.turn i { (st.find id).1.pl i with u := true }).L.length _ hq
    have hD : ∀ j ∈ ((st.find id).1.turn i { (st.find id).1.pl i with u := true }).dirty, j ∈ st.dirty := fun j hj => by
      obtain ⟨x, hx, hxd, e⟩ := mem_dirty.1 hj
      have hy : ∃ y ∈ (st.find id).1.L, y.d = true ∧ y.id = j := by
        rcases List.mem_or_eq_of_mem_set hx with h2 | rfl
        · exact ⟨x, h2, hxd, e⟩
        · exact ⟨_, pl_mem f2, hxd, e⟩
      obtain ⟨y, hy, hyd, e⟩ := hy
      rw [hfd] at hy
      rcases List.mem_append.1 hy with hy | hy
      · exact mem_dirty.2 ⟨y, hy, hyd, e⟩
      · have : y = ⟨id, b, false, 0, false⟩ := by simpa using hy
        rw [this] at hyd
        cases hyd
    obtain ⟨l, e, o1, o2, o3⟩ := ask_saves hq hsv hD
    have e2 : (st.get id).1.bk.asked = [2 * id] ++ l := by
      rw [hrr]
      refine e.trans ?_
      have : ((st.find id).1.turn i { (st.find id).1.pl i with u := true }).bk.asked = [2 * id] := by
        show (st.find id).1.bk.asked = _
        rw [hfd]
        show st.bk.asked ++ [wu (2 * id)] = _
        rw [ha]
        have : wu (2 * id) = 2 * id := by unfold wu; omega
        rw [this]
        rfl
      rw [this]
    refine ⟨1, Nat.le_refl _, ⟨⟨nv, g2⟩, by rw [g3, hz], by omega, ?_, fun x hx hxo => ?_, fun x hx => ?_, by omega⟩, fun e => by cases e⟩
    · rw [e2, EvOf_append, o1]
      have : (2 * id) % 2 = 0 := by omega
      unfold EvOf
      simp [this]
    · rw [e2] at hx
      rcases List.mem_append.1 hx with hx | hx
      · have : x = 2 * id := by simpa using hx
        rw [this] at hxo
        omega
      · exact o2 x hx
    · rw [e2] at hx
      rcases List.mem_append.1 hx with hx | hx
      · have : x = 2 * id := by simpa using hx
        omega
      · exact o3 x hx
theorem ask_put (h : HoI m nv st) (hz : st.sum = 0) (hl : st.L.length ≤ m) (ha : st.bk.asked = []) {id : Int} (h1 : 1 ≤ id) (h6 : id ≤ 6) (b : List UInt8) : AskI m 0 (st.dirty ++ [id]) (st.put id b) := by
  obtain ⟨g2, g3, g4⟩ := h.put h1 h6 b
  have hlen6 := h.len
  have hal := put_asked st id b
  rw [ha, List.length_nil] at hal
  obtain ⟨q, hq, hqa, hqd, hqr⟩ : ∃ q : Po, st.put id b = q.room ∧ q.bk.asked = [] ∧ (∀ j ∈ q.dirty, j ∈ st.dirty ++ [id]) ∧ HoI m (fun j => if j = id then b else nv j) q := by
    obtain ⟨q, h1, h2, h3, h4⟩ := put_q h h1 h6 b
    exact ⟨q, h1, by rw [h2, ha], h3, h4⟩
  obtain ⟨l, e, o1, o2, o3⟩ := ask_saves hqr (sv_roomP q.L.length q hqr) hqd
  have e2 : (st.put id b).bk.asked = l := by
    rw [hq]
    refine e.trans ?_
    rw [hqa]
    rfl
  exact ⟨⟨_, g2⟩, by rw [g3, hz], by omega, by rw [e2]; exact o1, fun x hx _ => o2 x (by rw [← e2]; exact hx), fun x hx => o3 x (by rw [← e2]; exact hx), by omega⟩
theorem ask_evict (h : HoI m nv st) (hz : st.sum = 0) (hl : st.L.length ≤ m) (ha : st.bk.asked = []) : AskI m 0 st.dirty st.evict.1 ∧ (st.L.length = 0 → st.evict.1.L.length = 0) ∧ (st.L.length ≠ 0 → st.evict.1.L.length + 1 = st.L.length) := by
  obtain ⟨g1, g2, g3⟩ := h.evict
  have hal := evict_asked st
  rw [ha, List.length_nil] at hal
  have hsv : Sv st st.evict.1 ∧ (st.L.length ≠ 0 → st.evict.1.L.length + 1 = st.L.length) := by
    unfold Po.evict
    split
    · rename_i e
      exact ⟨Sv.refl _, fun h => absurd (by rw [e]; rfl) h⟩
    · rename_i e
      obtain ⟨s1, s2⟩ := sv_goes h
      refine ⟨s1, fun hne => ?_⟩
      obtain ⟨k1, k2, k3⟩ := h.goes
      by_cases hc : st.goes.2.2 = 0
      · exact s2 hc
      · have hall := k3 hc
        have hnil : st.goes.1.L = [] := by
          cases hL : st.goes.1.L with
          | nil => rfl
          | cons x l =>
            have hx := hall x (by rw [hL]; exact List.mem_cons_self)
            have h9 := pins_le (st := st.goes.1) x (by rw [hL]; exact List.mem_cons_self)
            omega
        exfalso
        have := Po.goes_len st
        cases hx : (nextP (2 * st.L.length) st.L st.hand).2 with
        | none =>
          have h5 : st.goes.1.L.length = st.L.length := by rw [goes_none hx]; exact nextP_len _ _ _
          rw [hnil] at h5
          exact hne h5.symm
        | some i =>
          have hs := nextP_some _ _ _ _ hx hne
          have hi : i < (Po.mk (nextP (2 * st.L.length) st.L st.hand).1 i st.bk st.most).L.length := by show i < (nextP _ _ _).1.length; rw [nextP_len]; exact hs.1
          obtain ⟨v1, _⟩ := (h.next i).save hi
          exact hc (by rw [goes_yes hx v1])
  obtain ⟨l, e, o1, o2, o3⟩ := ask_saves h hsv.1 (fun j hj => hj)
  have e2 : st.evict.1.bk.asked = l := by rw [e, ha]; rfl
  exact ⟨⟨⟨_, g1⟩, by rw [g2, hz], by omega, by rw [e2]; exact o1, fun x hx _ => o2 x (by rw [← e2]; exact hx), fun x hx => o3 x (by rw [← e2]; exact hx), by omega⟩, fun h => by omega, hsv.2⟩
end

end Go.Proofs.Ytjmelhmjcbliaaa
