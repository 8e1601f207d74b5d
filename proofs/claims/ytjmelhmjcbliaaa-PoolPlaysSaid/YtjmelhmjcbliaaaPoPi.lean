/-
  What goes and what stays of a pool: the hand's two rounds find what isn't pinned; pins stay. Plain lists.
-/
import Derived.Test.YtjmelhmjcbliaaaPoL2
namespace Go.Proofs.Ytjmelhmjcbliaaa
open Go Go.RowKit
set_option linter.unusedVariables false
set_option linter.unusedSimpArgs false
set_option maxRecDepth 100000
set_option linter.unusedSimpArgs false

/-! ### The hand's two rounds -/
theorem nextP_unused : ∀ (k : Nat) (L : List Pl) (i t j : Nat), L.length ≠ 0 → j = (i + t) % L.length → t < k → (L.getD j default).p = 0 → (L.getD j default).u = false → (nextP k L i).2.isSome = true
  | 0, L, i, t, j, _, _, h, _, _ => by omega
  | k + 1, L, i, t, j, h0, hj, ht, hp, hu => by
    by_cases e : i % L.length = j
    · rw [nextP_here (by rw [e, hp]; exact Nat.lt_irrefl 0) (by rw [e]; exact hu)]
      rfl
    · have ht0 : t ≠ 0 := fun h => e (by subst h; rw [hj, Nat.add_zero])
      have hj2 : j = (i + 1 + (t - 1)) % L.length := by rw [hj]; congr 1; omega
      by_cases hpp : 0 < (L.getD (i % L.length) default).p
      · rw [nextP_pin hpp]
        exact nextP_unused k L (i + 1) (t - 1) j h0 hj2 (by omega) hp hu
      · cases huu : (L.getD (i % L.length) default).u with
        | false =>
          rw [nextP_here hpp huu]
          rfl
        | true =>
          rw [nextP_used hpp huu]
          have hg : (L.set (i % L.length) { L.getD (i % L.length) default with u := false }).getD j default = L.getD j default := by
            simp [List.getD_eq_getElem?_getD, List.getElem?_set, e]
          exact nextP_unused k _ (i + 1) (t - 1) j (by rw [List.length_set]; exact h0) (by rw [List.length_set]; exact hj2) (by omega) (by rw [hg]; exact hp) (by rw [hg]; exact hu)
theorem nextP_unpinned : ∀ (k : Nat) (L : List Pl) (i t j : Nat), L.length ≠ 0 → j = (i + t) % L.length → t + L.length < k → (L.getD j default).p = 0 → (nextP k L i).2.isSome = true
  | 0, L, i, t, j, _, _, h, _ => by omega
  | k + 1, L, i, t, j, h0, hj, ht, hp => by
    by_cases e : i % L.length = j
    · cases huu : (L.getD (i % L.length) default).u with
      | false =>
        rw [nextP_here (by rw [e, hp]; exact Nat.lt_irrefl 0) huu]
        rfl
      | true =>
        rw [nextP_used (by rw [e, hp]; exact Nat.lt_irrefl 0) huu]
        have hjl : j < L.length := by rw [hj]; exact Nat.mod_lt _ (by omega)
        have hg : (L.set (i % L.length) { L.getD (i % L.length) default with u := false }).getD j default = { L.getD (i % L.length) default with u := false } := by
          rw [e]
          exact getD_set_same hjl _ _
        refine nextP_unused k _ (i + 1) (L.length - 1) j (by rw [List.length_set]; exact h0) ?_ (by omega) (by rw [hg, e]; exact hp) (by rw [hg])
        rw [List.length_set, show i + 1 + (L.length - 1) = i + L.length by omega, Nat.add_mod_right]
        exact e.symm
    · have ht0 : t ≠ 0 := fun h => e (by subst h; rw [hj, Nat.add_zero])
      have hj2 : j = (i + 1 + (t - 1)) % L.length := by rw [hj]; congr 1; omega
      by_cases hpp : 0 < (L.getD (i % L.length) default).p
      · rw [nextP_pin hpp]
        exact nextP_unpinned k L (i + 1) (t - 1) j h0 hj2 (by omega) hp
      · cases huu : (L.getD (i % L.length) default).u with
        | false =>
          rw [nextP_here hpp huu]
          rfl
        | true =>
          rw [nextP_used hpp huu]
          have hg : (L.set (i % L.length) { L.getD (i % L.length) default with u := false }).getD j default = L.getD j default := by
            simp [List.getD_eq_getElem?_getD, List.getElem?_set, e]
          exact nextP_unpinned k _ (i + 1) (t - 1) j (by rw [List.length_set]; exact h0) (by rw [List.length_set]; exact hj2) (by rw [List.length_set]; omega) (by rw [hg]; exact hp)
/-- Two rounds find one that isn't pinned. -/
theorem nextP_none {L : List Pl} {i : Nat} (h : (nextP (2 * L.length) L i).2 = none) : ∀ x ∈ L, 0 < x.p := fun x hx => by
  obtain ⟨j, hj, rfl⟩ := List.getElem_of_mem hx
  apply Classical.byContradiction
  intro hp
  have h0 : L.length ≠ 0 := by omega
  have hm := Nat.mod_lt i (show 0 < L.length by omega)
  have hg : L.getD j default = L[j] := by rw [List.getD_eq_getElem?_getD, List.getElem?_eq_getElem hj]; rfl
  -- how far j is from i
  obtain ⟨t, ht, htj⟩ : ∃ t, t < L.length ∧ j = (i + t) % L.length := by
    by_cases hle : i % L.length ≤ j
    · refine ⟨j - i % L.length, by omega, ?_⟩
      rw [Nat.add_mod, Nat.mod_eq_of_lt (show j - i % L.length < L.length by omega), show i % L.length + (j - i % L.length) = j by omega, Nat.mod_eq_of_lt hj]
    · refine ⟨L.length + j - i % L.length, by omega, ?_⟩
      rw [Nat.add_mod, Nat.mod_eq_of_lt (show L.length + j - i % L.length < L.length by omega), show i % L.length + (L.length + j - i % L.length) = j + L.length by omega, Nat.add_mod_right, Nat.mod_eq_of_lt hj]
  have := nextP_unpinned (2 * L.length) L i t j h0 htj (by omega) (by rw [hg]; omega)
  rw [h] at this
  cases this
/-! ### Pins -/
def pinsM (id : Int) : List (Int × Nat) → Nat
  | [] => 0
  | x :: r => if x.1 = id then x.2 else pinsM id r
def ipL (L : List Pl) : List (Int × Nat) := L.map fun x => (x.id, x.p)
def Po.pins (st : Po) (id : Int) : Nat := pinsM id (ipL st.L)
theorem pinsM_no {id : Int} : ∀ {l : List (Int × Nat)}, id ∉ l.map (·.1) → pinsM id l = 0
  | [], _ => rfl
  | x :: l, h => by
    simp only [List.map_cons, List.mem_cons, not_or] at h
    rw [pinsM, if_neg (fun e => h.1 e.symm), pinsM_no h.2]
theorem pinsM_append {id : Int} : ∀ (l : List (Int × Nat)) (k : Int), pinsM id (l ++ [(k, 0)]) = pinsM id l
  | [], k => by show (if k = id then 0 else 0) = 0; split <;> rfl
  | x :: l, k => by
    show (if x.1 = id then x.2 else pinsM id (l ++ [(k, 0)])) = (if x.1 = id then x.2 else pinsM id l)
    rw [pinsM_append l k]
theorem pinsM_erase {id : Int} : ∀ {l : List (Int × Nat)} {i : Nat}, (l.map (·.1)).Nodup → (l.getD i (0, 0)).2 = 0 → pinsM id (l.eraseIdx i) = pinsM id l
  | [], i, _, _ => by simp
  | x :: l, 0, hn, h => by
    have h : x.2 = 0 := h
    simp only [List.map_cons, List.nodup_cons] at hn
    show pinsM id l = if x.1 = id then x.2 else pinsM id l
    split
    · rename_i e
      rw [h, pinsM_no (by rw [← e]; exact hn.1)]
    · rfl
  | x :: l, i + 1, hn, h => by
    simp only [List.map_cons, List.nodup_cons] at hn
    show (if x.1 = id then x.2 else pinsM id (l.eraseIdx i)) = if x.1 = id then x.2 else pinsM id l
    rw [pinsM_erase (l := l) (i := i) hn.2 h]
theorem pinsM_at {id : Int} : ∀ {l : List (Int × Nat)} {i : Nat}, (l.map (·.1)).Nodup → i < l.length → (l.getD i (0, 0)).1 = id → pinsM id l = (l.getD i (0, 0)).2
  | [], i, _, h, _ => by simp at h
  | x :: l, 0, hn, _, h => by
    have h : x.1 = id := h
    show (if x.1 = id then x.2 else _) = x.2
    rw [if_pos h]
  | x :: l, i + 1, hn, hi, h => by
    simp only [List.map_cons, List.nodup_cons] at hn
    have hi2 : i < l.length := by simpa using hi
    have h2 : (l.getD i (0, 0)).1 = id := h
    show (if x.1 = id then x.2 else pinsM id l) = (l.getD i (0, 0)).2
    rw [if_neg, pinsM_at hn.2 hi2 h2]
    intro e
    apply hn.1
    rw [e, ← h2]
    exact List.mem_map.2 ⟨_, getD_mem hi2 _, rfl⟩
theorem pinsM_set {id : Int} : ∀ {l : List (Int × Nat)} {i : Nat} {n : Nat}, (l.map (·.1)).Nodup → i < l.length → pinsM id (l.set i ((l.getD i (0, 0)).1, n)) = if (l.getD i (0, 0)).1 = id then n else pinsM id l
  | [], i, n, _, h => by simp at h
  | x :: l, 0, n, hn, _ => by
    show (if x.1 = id then n else pinsM id l) = if x.1 = id then n else (if x.1 = id then x.2 else pinsM id l)
    split <;> rfl
  | x :: l, i + 1, n, hn, hi => by
    simp only [List.map_cons, List.nodup_cons] at hn
    have hi2 : i < l.length := by simpa using hi
    show (if x.1 = id then x.2 else pinsM id (l.set i ((l.getD i (0, 0)).1, n))) = if (l.getD i (0, 0)).1 = id then n else (if x.1 = id then x.2 else pinsM id l)
    rw [pinsM_set hn.2 hi2]
    by_cases e : x.1 = id
    · rw [if_pos e, if_pos e, if_neg]
      intro e2
      apply hn.1
      rw [e, ← e2]
      exact List.mem_map.2 ⟨_, getD_mem hi2 _, rfl⟩
    · rw [if_neg e, if_neg e]
theorem ipL_ids (L : List Pl) : (ipL L).map (·.1) = L.map (·.id) := by unfold ipL; rw [List.map_map]; rfl
theorem ipL_at (L : List Pl) (i : Nat) : (ipL L).getD i (0, 0) = ((L.getD i default).id, (L.getD i default).p) := by
  unfold ipL
  simp only [List.getD_eq_getElem?_getD, List.getElem?_map]
  cases L[i]? <;> rfl
/-! ### A pool in which nothing is dirty -/
structure PinI (B : Bk) (m : Nat) (f : Int → Nat) (st : Po) : Prop where
  nd : st.ids.Nodup
  p : ∀ id, st.pins id = f id
  d : ∀ x ∈ st.L, x.d = false
  r : ∀ x ∈ st.L, 1 ≤ x.id ∧ x.id ≤ 6
  b : st.bk = B
  m : st.most = m
theorem nextP_mem {k : Nat} {L : List Pl} {i : Nat} {x : Pl} (h : x ∈ (nextP k L i).1) : ∃ y ∈ L, y.id = x.id ∧ y.p = x.p ∧ y.d = x.d ∧ y.b = x.b := by
  have h1 := nextP_map (fun x : Pl => (x.id, x.p, x.d, x.b)) (fun x => rfl) k L i
  have h2 : (x.id, x.p, x.d, x.b) ∈ (nextP k L i).1.map (fun x : Pl => (x.id, x.p, x.d, x.b)) := List.mem_map.2 ⟨x, h, rfl⟩
  rw [h1] at h2
  obtain ⟨y, hy, e⟩ := List.mem_map.1 h2
  simp only [Prod.mk.injEq] at e
  exact ⟨y, hy, e.1, e.2.1, e.2.2.1, e.2.2.2⟩
theorem PinI.next {B : Bk} {m : Nat} {f : Int → Nat} {st : Po} (h : PinI B m f st) (hd : Nat) : PinI B m f { st with L := (nextP (2 * st.L.length) st.L st.hand).1, hand := hd } := by
  refine ⟨?_, fun id => ?_, fun x hx => ?_, fun x hx => ?_, h.b, h.m⟩
  · show ((nextP _ _ _).1.map (·.id)).Nodup
    rw [nextP_map (fun x : Pl => x.id) (fun x => rfl)]
    exact h.nd
  · show pinsM id (ipL (nextP _ _ _).1) = _
    unfold ipL
    rw [nextP_map (fun x : Pl => (x.id, x.p)) (fun x => rfl)]
    exact h.p id
  · obtain ⟨y, hy, _, _, e, _⟩ := nextP_mem hx
    rw [← e]
    exact h.d y hy
  · obtain ⟨y, hy, e, _⟩ := nextP_mem hx
    rw [← e]
    exact h.r y hy
theorem PinI.out {B : Bk} {m : Nat} {f : Int → Nat} {st : Po} (h : PinI B m f st) {i : Nat} (hp : (st.pl i).p = 0) : PinI B m f (st.out i) := by
  refine ⟨?_, fun id => ?_, fun x hx => h.d x (List.mem_of_mem_eraseIdx hx), fun x hx => h.r x (List.mem_of_mem_eraseIdx hx), h.b, h.m⟩
  · show ((st.L.eraseIdx i).map (·.id)).Nodup
    rw [map_eraseIdx]
    exact List.Nodup.sublist (List.eraseIdx_sublist _ _) h.nd
  · show pinsM id (ipL (st.L.eraseIdx i)) = _
    have e : ipL (st.L.eraseIdx i) = (ipL st.L).eraseIdx i := map_eraseIdx _ _ _
    rw [e, pinsM_erase (by rw [ipL_ids]; exact h.nd) (by rw [ipL_at]; exact hp)]
    exact h.p id
/-- One goes, where nothing is dirty. -/
theorem PinI.goes {B : Bk} {m : Nat} {f : Int → Nat} {st : Po} (h : PinI B m f st) : PinI B m f st.goes.1 ∧ ((∃ x ∈ st.L, x.p = 0) → st.goes.2.2 = 0) := by
  cases hx : (nextP (2 * st.L.length) st.L st.hand).2 with
  | none =>
    rw [goes_none hx]
    refine ⟨h.next st.hand, fun ⟨x, hx1, hx2⟩ => ?_⟩
    have := nextP_none hx x hx1
    omega
  | some i =>
    have h0 : st.L.length ≠ 0 := fun e => by rw [e] at hx; cases hx
    have hs := nextP_some _ _ _ _ hx h0
    have h1 := h.next i
    have hd : (Po.pl { st with L := (nextP (2 * st.L.length) st.L st.hand).1, hand := i } i).d = false := h1.d _ (pl_mem (by rw [nextP_len]; exact hs.1))
    have hsv : Po.save { st with L := (nextP (2 * st.L.length) st.L st.hand).1, hand := i } i = ({ st with L := (nextP (2 * st.L.length) st.L st.hand).1, hand := i }, true) := by
      unfold Po.save
      rw [hd]
      rfl
    rw [goes_yes hx (by rw [hsv]), hsv]
    exact ⟨h1.out hs.2.1, fun _ => rfl⟩
theorem roomP_inv {Q : Po → Prop} (hg : ∀ p, Q p → Q p.goes.1) : ∀ (k : Nat) (p : Po), Q p → Q (roomP k p)
  | 0, p, h => h
  | k + 1, p, h => by
    rw [roomP]
    split
    · split
      · exact roomP_inv hg k _ (hg p h)
      · exact hg p h
    · exact h
theorem PinI.room {B : Bk} {m : Nat} {f : Int → Nat} {st : Po} (h : PinI B m f st) : PinI B m f st.room := roomP_inv (fun p hp => hp.goes.1) _ _ h
/-- A place is turned: its pins. -/
theorem PinI.turn {B : Bk} {m : Nat} {f : Int → Nat} {st : Po} (h : PinI B m f st) {i : Nat} (hi : i < st.L.length) (n : Nat) (u : Bool) : PinI B m (fun id => if (st.pl i).id = id then n else f id) (st.turn i { st.pl i with u := u, p := n }) := by
  have hmem : ∀ x ∈ (st.turn i { st.pl i with u := u, p := n }).L, x ∈ st.L ∨ x = { st.pl i with u := u, p := n } := fun x hx => List.mem_or_eq_of_mem_set hx
  refine ⟨?_, fun id => ?_, fun x hx => ?_, fun x hx => ?_, h.b, h.m⟩
  · show ((st.L.set i _).map (·.id)).Nodup
    rw [map_set_same (fun x : Pl => x.id) st.L i { st.pl i with u := u, p := n } rfl]
    exact h.nd
  · show pinsM id (ipL (st.L.set i _)) = _
    have e : ipL (st.L.set i { st.pl i with u := u, p := n }) = (ipL st.L).set i (((ipL st.L).getD i (0, 0)).1, n) := by
      rw [ipL_at]
      unfold ipL
      rw [List.map_set]
      rfl
    rw [e, pinsM_set (by rw [ipL_ids]; exact h.nd) (by unfold ipL; rw [List.length_map]; exact hi), ipL_at]
    show (if (st.pl i).id = id then n else _) = _
    split
    · rfl
    · exact h.p id
  · rcases hmem x hx with h1 | rfl
    · exact h.d x h1
    · exact h.d (st.pl i) (pl_mem hi)
  · rcases hmem x hx with h1 | rfl
    · exact h.r x h1
    · exact h.r (st.pl i) (pl_mem hi)
theorem PinI.ext {B : Bk} {m : Nat} {f g : Int → Nat} {st : Po} (h : PinI B m f st) (e : ∀ id, f id = g id) : PinI B m g st := ⟨h.nd, fun id => (h.p id).trans (e id), h.d, h.r, h.b, h.m⟩
theorem Po.ix_pl {st : Po} {id : Int} {i : Nat} (h : st.ix id = some i) : i < st.L.length ∧ (st.pl i).id = id := by
  have h1 := ixOf_some h
  have hl : i < st.L.length := by have := h1.1; unfold Po.ids at this; rw [List.length_map] at this; exact this
  refine ⟨hl, ?_⟩
  have h2 := h1.2.1
  unfold Po.ids at h2
  rw [List.getElem?_map, List.getElem?_eq_getElem hl] at h2
  simp only [Option.map_some, Option.some.injEq] at h2
  unfold Po.pl
  rw [List.getD_eq_getElem?_getD, List.getElem?_eq_getElem hl]
  exact h2
theorem PinI.pl_p {B : Bk} {m : Nat} {f : Int → Nat} {st : Po} (h : PinI B m f st) {i : Nat} (hi : i < st.L.length) : (st.pl i).p = f (st.pl i).id := by
  rw [← h.p]
  unfold Po.pins
  rw [pinsM_at (i := i) (by rw [ipL_ids]; exact h.nd) (by unfold ipL; rw [List.length_map]; exact hi) (by rw [ipL_at]; rfl), ipL_at]
  rfl
/-- The place of a thing that the back has. -/
theorem PinI.find {B : Bk} {m : Nat} {f : Int → Nat} {st : Po} (h : PinI B m f st) {id : Int} (h1 : 1 ≤ id) (h6 : id ≤ 6) (hB : ∃ b, (B.load id).2 = some b) :
    ∃ i b, (st.find id).2 = some i ∧ i < (st.find id).1.L.length ∧ ((st.find id).1.pl i).id = id ∧ PinI b m f (st.find id).1 ∧ (b = B ∨ (b = (B.load id).1 ∧ f id = 0)) := by
  cases hx : st.ix id with
  | some i =>
    obtain ⟨h2, h3⟩ := Po.ix_pl hx
    rw [find_some hx]
    exact ⟨i, B, rfl, h2, h3, h, .inl rfl⟩
  | none =>
    obtain ⟨b, hb⟩ := hB
    have hb' : (st.bk.load id).2 = some b := by rw [h.b]; exact hb
    rw [find_come hx hb']
    have hni := ixOf_none hx
    refine ⟨st.L.length, (B.load id).1, rfl, by simp, ?_, ⟨?_, fun id2 => ?_, fun x hx => ?_, fun x hx => ?_, by rw [← h.b], h.m⟩, .inr ⟨rfl, ?_⟩⟩
    · unfold Po.pl
      rw [getD_end]
    · show ((st.L ++ _).map (·.id)).Nodup
      rw [List.map_append, List.nodup_append]
      exact ⟨h.nd, by simp, fun a ha b hb => by simp only [List.map_cons, List.map_nil, List.mem_singleton] at hb; subst hb; exact fun e => hni (e ▸ ha)⟩
    · show pinsM id2 (ipL (st.L ++ _)) = _
      have e : ipL (st.L ++ [⟨id, b, false, 0, false⟩]) = ipL st.L ++ [(id, 0)] := by unfold ipL; simp
      rw [e, pinsM_append]
      exact h.p id2
    · rcases List.mem_append.1 hx with hx | hx
      · exact h.d x hx
      · simp only [List.mem_singleton] at hx
        subst hx
        rfl
    · rcases List.mem_append.1 hx with hx | hx
      · exact h.r x hx
      · simp only [List.mem_singleton] at hx
        subst hx
        exact ⟨h1, h6⟩
    · rw [← h.p]
      exact pinsM_no (by rw [ipL_ids]; exact hni)
theorem PinI.get {B : Bk} {m : Nat} {f : Int → Nat} {st : Po} (h : PinI B m f st) {id : Int} (h1 : 1 ≤ id) (h6 : id ≤ 6) (hB : ∃ b, (B.load id).2 = some b) :
    (∃ x, (st.get id).2 = some x) ∧ ∃ b, PinI b m f (st.get id).1 ∧ (b = B ∨ (b = (B.load id).1 ∧ f id = 0)) := by
  obtain ⟨i, b, hi, hl, hid, hI, hb⟩ := h.find h1 h6 hB
  rw [get_some hi]
  refine ⟨⟨_, rfl⟩, b, ?_, hb⟩
  have h2 := (hI.turn hl ((st.find id).1.pl i).p true).room
  refine PinI.ext h2 fun id2 => ?_
  split
  · rename_i e
    rw [hI.pl_p hl, e]
  · rfl
theorem PinI.pin {B : Bk} {m : Nat} {f : Int → Nat} {st : Po} (h : PinI B m f st) {id : Int} (h1 : 1 ≤ id) (h6 : id ≤ 6) (hB : ∃ b, (B.load id).2 = some b) :
    (st.pin id).2 = true ∧ ∃ b, PinI b m (fun j => if id = j then f id + 1 else f j) (st.pin id).1 ∧ (b = B ∨ (b = (B.load id).1 ∧ f id = 0)) := by
  obtain ⟨i, b, hi, hl, hid, hI, hb⟩ := h.find h1 h6 hB
  rw [pin_some hi]
  refine ⟨rfl, b, ?_, hb⟩
  have h2 := (hI.turn hl (((st.find id).1.pl i).p + 1) true).room
  refine PinI.ext h2 fun id2 => ?_
  rw [hid, hI.pl_p hl, hid]
theorem PinI.unpin_no {B : Bk} {m : Nat} {f : Int → Nat} {st : Po} (h : PinI B m f st) {id : Int} (hf : f id = 0) : st.unpin id = (st, false) := by
  cases hx : st.ix id with
  | none => exact unpin_none hx
  | some i =>
    obtain ⟨h2, h3⟩ := Po.ix_pl hx
    exact unpin_zero hx (by rw [h.pl_p h2, h3, hf])
theorem PinI.unpin_yes {B : Bk} {m : Nat} {f : Int → Nat} {st : Po} (h : PinI B m f st) {id : Int} (hf : f id ≠ 0) : (st.unpin id).2 = true ∧ PinI B m (fun j => if id = j then f id - 1 else f j) (st.unpin id).1 := by
  cases hx : st.ix id with
  | none =>
    exfalso
    apply hf
    rw [← h.p]
    exact pinsM_no (by rw [ipL_ids]; exact ixOf_none hx)
  | some i =>
    obtain ⟨h2, h3⟩ := Po.ix_pl hx
    have hpp : (st.pl i).p = f id := by rw [h.pl_p h2, h3]
    rw [unpin_some hx (by rw [hpp]; exact hf)]
    refine ⟨rfl, ?_⟩
    have h4 := (h.turn h2 ((st.pl i).p - 1) (st.pl i).u).room
    refine PinI.ext h4 fun id2 => ?_
    rw [h3, hpp]
theorem PinI.len {B : Bk} {m : Nat} {f : Int → Nat} {st : Po} (h : PinI B m f st) : st.L.length ≤ 6 := by
  have h1 : st.ids ⊆ [1, 2, 3, 4, 5, 6] := fun x hx => by
    obtain ⟨y, hy, rfl⟩ := List.mem_map.1 hx
    have := h.r y hy
    simp only [List.mem_cons, List.not_mem_nil, or_false]
    omega
  have h2 : ∀ (a b : List Int), a.Nodup → a ⊆ b → a.length ≤ b.length := by
    intro a
    induction a with
    | nil => intro b _ _; exact Nat.zero_le _
    | cons x a ih =>
      intro b hn hs
      simp only [List.nodup_cons] at hn
      have hx : x ∈ b := hs (List.mem_cons_self)
      have := ih (b.erase x) hn.2 (fun y hy => (List.mem_erase_of_ne (fun e => hn.1 (by rw [← e]; exact hy))).2 (hs (List.mem_cons_of_mem _ hy)))
      rw [List.length_erase_of_mem hx] at this
      have h3 : 0 < b.length := List.length_pos_of_mem hx
      simp only [List.length_cons]
      omega
  have := h2 _ _ h.nd h1
  unfold Po.ids at this
  rw [List.length_map] at this
  simpa using this
theorem PinI.p_le {B : Bk} {m : Nat} {f : Int → Nat} {st : Po} (h : PinI B m f st) {K : Nat} (hf : ∀ id, f id ≤ K) : ∀ x ∈ st.L, x.p ≤ K := fun x hx => by
  obtain ⟨j, hj, rfl⟩ := List.getElem_of_mem hx
  have := h.pl_p hj
  unfold Po.pl at this
  rw [List.getD_eq_getElem?_getD, List.getElem?_eq_getElem hj] at this
  rw [show st.L[j] = (some st.L[j]).getD default from rfl, this]
  exact hf _

end Go.Proofs.Ytjmelhmjcbliaaa
