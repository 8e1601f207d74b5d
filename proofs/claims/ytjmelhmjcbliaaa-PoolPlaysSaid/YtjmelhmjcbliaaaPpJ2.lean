/-
  Joined: PoBd PoR7 PoR8 PoR9 PoR10.
-/
import Derived.Test.YtjmelhmjcbliaaaPoHo
import Derived.Test.YtjmelhmjcbliaaaPoR6

namespace Go.Proofs.Ytjmelhmjcbliaaa
open Go Go.RowKit
set_option linter.unusedVariables false
set_option linter.unusedSimpArgs false
set_option linter.unusedSectionVars false
set_option maxRecDepth 100000
set_option linter.unusedSimpArgs false

/-- At most A questions and places, B things of the back and places, Q pins each. -/
structure WI (A B Q : Nat) (st : Po) : Prop where
  nd : st.ids.Nodup
  r : ∀ x ∈ st.L, 0 ≤ x.id ∧ x.id < 18446744073709551616
  h : st.hand = 0 ∨ st.hand < st.L.length
  a : st.bk.asked.length + st.L.length ≤ A
  b : st.bk.ids.length + st.L.length ≤ B
  p : ∀ x ∈ st.L, x.p ≤ Q
theorem WI.le {A B Q A2 B2 Q2 : Nat} {st : Po} (h : WI A B Q st) (h1 : A ≤ A2) (h2 : B ≤ B2) (h3 : Q ≤ Q2) : WI A2 B2 Q2 st :=
  ⟨h.nd, h.r, h.h, Nat.le_trans h.a h1, Nat.le_trans h.b h2, fun x hx => Nat.le_trans (h.p x hx) h3⟩
theorem WI.next {A B Q : Nat} {st : Po} (h : WI A B Q st) (hd : Nat) (hh : hd = 0 ∨ hd < st.L.length) : WI A B Q { st with L := (nextP (2 * st.L.length) st.L st.hand).1, hand := hd } := by
  refine ⟨?_, fun x hx => ?_, ?_, ?_, ?_, fun x hx => ?_⟩
  · show ((nextP _ _ _).1.map (·.id)).Nodup
    rw [nextP_map (fun x : Pl => x.id) (fun x => rfl)]
    exact h.nd
  · obtain ⟨y, hy, e, _⟩ := nextP_mem hx
    rw [← e]; exact h.r y hy
  · show hd = 0 ∨ hd < (nextP _ _ _).1.length
    rw [nextP_len]; exact hh
  · show _ + (nextP _ _ _).1.length ≤ A
    rw [nextP_len]; exact h.a
  · show _ + (nextP _ _ _).1.length ≤ B
    rw [nextP_len]; exact h.b
  · obtain ⟨y, hy, _, e, _⟩ := nextP_mem hx
    rw [← e]; exact h.p y hy
theorem ask_len (b : Bk) (q : Int) : (b.ask q).asked.length = b.asked.length + 1 := by unfold Bk.ask; simp
theorem take_asked (b : Bk) (id : Int) (x : List UInt8) : (b.take id x).asked = b.asked := by unfold Bk.take; split <;> rfl
theorem take_ids (b : Bk) (id : Int) (x : List UInt8) : (b.take id x).ids.length ≤ b.ids.length + 1 := by
  unfold Bk.take
  split
  · simp
  · exact Nat.le_succ _
theorem less_asked (b : Bk) : b.less.asked = b.asked ∧ b.less.ids = b.ids := by unfold Bk.less; split <;> exact ⟨rfl, rfl⟩
theorem save_len (b : Bk) (id : Int) (x : List UInt8) : (b.save id x).1.asked.length = b.asked.length + 1 ∧ (b.save id x).1.ids.length ≤ b.ids.length + 1 ∧ ((b.save id x).2 = false → (b.save id x).1.ids = b.ids) := by
  unfold Bk.save
  split
  · exact ⟨ask_len _ _, Nat.le_succ _, fun _ => rfl⟩
  · refine ⟨?_, ?_, fun h => by cases h⟩
    · rw [take_asked, (less_asked _).1, ask_len]
    · refine Nat.le_trans (take_ids _ _ _) ?_
      rw [(less_asked _).2]; exact Nat.le_refl _
theorem save_pl {st : Po} (i : Nat) : (st.save i).1.L.map (fun x : Pl => (x.id, x.p)) = st.L.map (fun x : Pl => (x.id, x.p)) ∧ (st.save i).1.hand = st.hand ∧ (st.save i).1.most = st.most := by
  unfold Po.save
  split
  · split
    · exact ⟨map_set_same _ _ _ _ rfl, rfl, rfl⟩
    · exact ⟨rfl, rfl, rfl⟩
  · exact ⟨rfl, rfl, rfl⟩
theorem save_bk {st : Po} (i : Nat) : (st.save i).1.bk.asked.length ≤ st.bk.asked.length + 1 ∧ (st.save i).1.bk.ids.length ≤ st.bk.ids.length + 1 ∧ ((st.save i).2 = false → (st.save i).1.bk.ids = st.bk.ids) := by
  have h := save_len st.bk (st.pl i).id (st.pl i).b
  unfold Po.save
  split
  · split
    · rename_i e
      exact ⟨Nat.le_of_eq h.1, h.2.1, fun h => by cases h⟩
    · rename_i e
      exact ⟨Nat.le_of_eq h.1, h.2.1, fun _ => h.2.2 (by simpa using e)⟩
  · exact ⟨Nat.le_succ _, Nat.le_succ _, fun h => by cases h⟩
theorem map_mem {L M : List Pl} (h : L.map (fun x : Pl => (x.id, x.p)) = M.map (fun x : Pl => (x.id, x.p))) {x : Pl} (hx : x ∈ L) : ∃ y ∈ M, y.id = x.id ∧ y.p = x.p := by
  have : (x.id, x.p) ∈ L.map (fun x : Pl => (x.id, x.p)) := List.mem_map.2 ⟨x, hx, rfl⟩
  rw [h] at this
  obtain ⟨y, hy, e⟩ := List.mem_map.1 this
  simp only [Prod.mk.injEq] at e
  exact ⟨y, hy, e.1, e.2⟩
theorem map_ids {L M : List Pl} (h : L.map (fun x : Pl => (x.id, x.p)) = M.map (fun x : Pl => (x.id, x.p))) : L.map (·.id) = M.map (·.id) ∧ L.length = M.length := by
  have h1 := congrArg (List.map Prod.fst) h
  have h2 := congrArg List.length h
  rw [List.map_map, List.map_map] at h1
  rw [List.length_map, List.length_map] at h2
  exact ⟨h1, h2⟩
theorem WI.save {A B Q : Nat} {st : Po} (h : WI A B Q st) (i : Nat) : WI (A + 1) (B + 1) Q (st.save i).1 ∧ ((st.save i).2 = false → WI (A + 1) B Q (st.save i).1) ∧ (st.save i).1.L.length = st.L.length := by
  have h1 := save_pl (st := st) i
  have h2 := save_bk (st := st) i
  have h3 := map_ids h1.1
  have ha := h.a
  have hb := h.b
  have base : ∀ B2, (st.save i).1.bk.ids.length + (st.save i).1.L.length ≤ B2 → WI (A + 1) B2 Q (st.save i).1 := fun B2 hB => by
    refine ⟨?_, fun x hx => ?_, ?_, ?_, hB, fun x hx => ?_⟩
    · show ((st.save i).1.L.map (·.id)).Nodup
      rw [h3.1]; exact h.nd
    · obtain ⟨y, hy, e, _⟩ := map_mem h1.1 hx
      rw [← e]; exact h.r y hy
    · rw [h1.2.1, h3.2]; exact h.h
    · omega
    · obtain ⟨y, hy, _, e⟩ := map_mem h1.1 hx
      rw [← e]; exact h.p y hy
  exact ⟨base _ (by omega), fun hf => base _ (by rw [h2.2.2 hf]; omega), h3.2⟩
theorem outH_ok {n hd i : Nat} (hi : i < n) (hh : hd = 0 ∨ hd < n) : outH n hd i = 0 ∨ outH n hd i < n - 1 := by
  unfold outH
  by_cases h1 : i < hd
  · rw [if_pos h1]
    by_cases h2 : hd - 1 = n - 1
    · rw [if_pos h2]; exact .inl rfl
    · rw [if_neg h2]; omega
  · rw [if_neg h1]
    by_cases h2 : hd = n - 1
    · rw [if_pos h2]; exact .inl rfl
    · rw [if_neg h2]; omega
theorem WI.out {A B Q : Nat} {st : Po} (h : WI (A + 1) (B + 1) Q st) {i : Nat} (hi : i < st.L.length) : WI A B Q (st.out i) := by
  have hl : (st.L.eraseIdx i).length = st.L.length - 1 := List.length_eraseIdx_of_lt hi
  have ha := h.a
  have hb := h.b
  refine ⟨?_, fun x hx => h.r x (List.mem_of_mem_eraseIdx hx), ?_, ?_, ?_, fun x hx => h.p x (List.mem_of_mem_eraseIdx hx)⟩
  · show ((st.L.eraseIdx i).map (·.id)).Nodup
    rw [map_eraseIdx]
    exact List.Nodup.sublist (List.eraseIdx_sublist _ _) h.nd
  · show outH _ _ _ = 0 ∨ outH _ _ _ < (st.L.eraseIdx i).length
    rw [hl]
    exact outH_ok hi h.h
  · show st.bk.asked.length + (st.L.eraseIdx i).length ≤ A
    omega
  · show st.bk.ids.length + (st.L.eraseIdx i).length ≤ B
    omega
theorem WI.goes {A B Q : Nat} {st : Po} (h : WI A B Q st) : WI (A + 1) B Q st.goes.1 ∧ (st.goes.2.2 = 0 → WI A B Q st.goes.1) := by
  cases hx : (nextP (2 * st.L.length) st.L st.hand).2 with
  | none =>
    rw [goes_none hx]
    have := h.next st.hand h.h
    exact ⟨this.le (Nat.le_succ _) (Nat.le_refl _) (Nat.le_refl _), fun _ => this⟩
  | some i =>
    have h0 : st.L.length ≠ 0 := fun e => by rw [e] at hx; cases hx
    have hs := nextP_some _ _ _ _ hx h0
    have h1 := h.next i (.inr hs.1)
    have h2 := h1.save i
    have hL : (Po.save { st with L := (nextP (2 * st.L.length) st.L st.hand).1, hand := i } i).1.L.length = st.L.length := by rw [h2.2.2]; exact nextP_len _ _ _
    cases hv : (Po.save { st with L := (nextP (2 * st.L.length) st.L st.hand).1, hand := i } i).2 with
    | true =>
      rw [goes_yes hx hv]
      have := h2.1.out (i := i) (by rw [hL]; exact hs.1)
      exact ⟨this.le (Nat.le_succ _) (Nat.le_refl _) (Nat.le_refl _), fun _ => this⟩
    | false =>
      have e : st.goes = ((Po.save { st with L := (nextP (2 * st.L.length) st.L st.hand).1, hand := i } i).1, 0, 3) := by
        unfold Po.goes
        rw [hx]
        show (if (Po.save _ i).2 = true then _ else _) = _
        rw [hv]
        rfl
      rw [e]
      exact ⟨h2.2.1 hv, fun h => by cases h⟩
theorem WI.roomP {A B Q : Nat} : ∀ (k : Nat) {st : Po}, WI A B Q st → WI (A + 1) B Q (roomP k st)
  | 0, st, h => h.le (Nat.le_succ _) (Nat.le_refl _) (Nat.le_refl _)
  | k + 1, st, h => by
    rw [Go.Proofs.Ytjmelhmjcbliaaa.roomP]
    split
    · split
      · rename_i e
        exact WI.roomP k (h.goes.2 e)
      · exact h.goes.1
    · exact h.le (Nat.le_succ _) (Nat.le_refl _) (Nat.le_refl _)
theorem WI.room {A B Q : Nat} {st : Po} (h : WI A B Q st) : WI (A + 1) B Q st.room := WI.roomP _ h
theorem WI.turn {A B Q Q2 : Nat} {st : Po} (h : WI A B Q st) {i : Nat} (hi : i < st.L.length) {x : Pl} (he : x.id = (st.pl i).id) (hQ : Q ≤ Q2) (hp : x.p ≤ Q2) : WI A B Q2 (st.turn i x) := by
  have hmem : ∀ y ∈ (st.turn i x).L, y ∈ st.L ∨ y = x := fun y hy => List.mem_or_eq_of_mem_set hy
  have hl : (st.L.set i x).length = st.L.length := List.length_set
  refine ⟨?_, fun y hy => ?_, ?_, ?_, ?_, fun y hy => ?_⟩
  · show ((st.L.set i x).map (·.id)).Nodup
    rw [map_set_same (fun x : Pl => x.id) st.L i x he]
    exact h.nd
  · rcases hmem y hy with h1 | rfl
    · exact h.r y h1
    · rw [he]; exact h.r _ (pl_mem hi)
  · show st.hand = 0 ∨ st.hand < (st.L.set i x).length
    rw [hl]; exact h.h
  · show _ + (st.L.set i x).length ≤ A
    rw [hl]; exact h.a
  · show _ + (st.L.set i x).length ≤ B
    rw [hl]; exact h.b
  · rcases hmem y hy with h1 | rfl
    · exact Nat.le_trans (h.p y h1) hQ
    · exact hp
theorem pl_p {A B Q : Nat} {st : Po} (h : WI A B Q st) {i : Nat} (hi : i < st.L.length) : (st.pl i).p ≤ Q := h.p _ (pl_mem hi)
theorem WI.push {A B Q : Nat} {st : Po} (h : WI A B Q st) {bk : Bk} {x : Pl} (hx : x.id ∉ st.ids) (hr : 0 ≤ x.id ∧ x.id < 18446744073709551616) (hp : x.p ≤ Q) {q : Nat} (ha : bk.asked.length ≤ st.bk.asked.length + q) (hb : bk.ids = st.bk.ids) :
    WI (A + q + 1) (B + 1) Q { st with bk := bk, L := st.L ++ [x] } := by
  have h1 := h.a
  have h2 := h.b
  refine ⟨?_, fun y hy => ?_, ?_, ?_, ?_, fun y hy => ?_⟩
  · show ((st.L ++ [x]).map (·.id)).Nodup
    rw [List.map_append]
    refine List.nodup_append.2 ⟨h.nd, by simp, fun a ha b hb => ?_⟩
    simp only [List.map_cons, List.map_nil, List.mem_singleton] at hb
    subst hb
    rintro rfl
    exact hx ha
  · rcases List.mem_append.1 hy with h1 | h1
    · exact h.r y h1
    · simp only [List.mem_singleton] at h1; subst h1; exact hr
  · show st.hand = 0 ∨ st.hand < (st.L ++ [x]).length
    rw [List.length_append]
    rcases h.h with h1 | h1
    · exact .inl h1
    · exact .inr (by omega)
  · show bk.asked.length + (st.L ++ [x]).length ≤ _
    rw [List.length_append, List.length_singleton]; omega
  · show bk.ids.length + (st.L ++ [x]).length ≤ _
    rw [List.length_append, List.length_singleton, hb]; omega
  · rcases List.mem_append.1 hy with h1 | h1
    · exact h.p y h1
    · simp only [List.mem_singleton] at h1; subst h1; exact hp
theorem WI.find {A B Q : Nat} {st : Po} (h : WI A B Q st) {id : Int} (h0 : 0 ≤ id) (h1 : id < 18446744073709551616) :
    WI (A + 2) (B + 1) Q (st.find id).1 ∧ ∀ i, (st.find id).2 = some i → i < (st.find id).1.L.length := by
  unfold Po.find
  cases hx : st.ix id with
  | some i => exact ⟨h.le (by omega) (by omega) (Nat.le_refl _), fun j hj => by cases hj; exact (Po.ix_pl hx).1⟩
  | none =>
    have hno : id ∉ st.ids := ixOf_none hx
    dsimp only
    cases hb : (st.bk.load id).2 with
    | none =>
      have ha := h.a
      exact ⟨⟨h.nd, h.r, h.h, by show ((st.bk.ask (2 * id)).asked).length + st.L.length ≤ _; rw [ask_len]; omega, Nat.le_trans h.b (Nat.le_succ _), h.p⟩, fun j hj => by cases hj⟩
    | some b => exact ⟨h.push (x := ⟨id, b, false, 0, false⟩) (bk := (st.bk.load id).1) (q := 1) hno ⟨h0, h1⟩ (Nat.zero_le _) (Nat.le_of_eq (ask_len _ _)) rfl, fun j hj => by cases hj; show st.L.length < (st.L ++ [_]).length; simp⟩
theorem WI.get {A B Q : Nat} {st : Po} (h : WI A B Q st) {id : Int} (h0 : 0 ≤ id) (h1 : id < 18446744073709551616) : WI (A + 3) (B + 1) Q (st.get id).1 := by
  have hf := h.find h0 h1
  unfold Po.get
  cases hx : (st.find id).2 with
  | none => exact hf.1.le (by omega) (Nat.le_refl _) (Nat.le_refl _)
  | some i => exact (hf.1.turn (x := { (st.find id).1.pl i with u := true }) (hf.2 i hx) rfl (Nat.le_refl _) (pl_p hf.1 (hf.2 i hx))).room
theorem WI.pin {A B Q : Nat} {st : Po} (h : WI A B Q st) {id : Int} (h0 : 0 ≤ id) (h1 : id < 18446744073709551616) : WI (A + 3) (B + 1) (Q + 1) (st.pin id).1 := by
  have hf := h.find h0 h1
  unfold Po.pin
  cases hx : (st.find id).2 with
  | none => exact hf.1.le (by omega) (Nat.le_refl _) (by omega)
  | some i => exact (hf.1.turn (Q2 := Q + 1) (x := { (st.find id).1.pl i with u := true, p := ((st.find id).1.pl i).p + 1 }) (hf.2 i hx) rfl (Nat.le_succ _) (Nat.succ_le_succ (pl_p hf.1 (hf.2 i hx)))).room
theorem WI.put {A B Q : Nat} {st : Po} (h : WI A B Q st) {id : Int} (h0 : 0 ≤ id) (h1 : id < 18446744073709551616) (b : List UInt8) : WI (A + 2) (B + 1) Q (st.put id b) := by
  unfold Po.put
  cases hx : st.ix id with
  | some i => exact ((h.turn (x := { st.pl i with b := b, u := true, d := true }) (Po.ix_pl hx).1 rfl (Nat.le_refl _) (pl_p h (Po.ix_pl hx).1)).room).le (by omega) (Nat.le_succ _) (Nat.le_refl _)
  | none => exact (h.push (x := ⟨id, b, true, 0, true⟩) (bk := st.bk) (q := 0) (ixOf_none hx) ⟨h0, h1⟩ (Nat.zero_le _) (Nat.le_refl _) rfl).room
theorem WI.unpin {A B Q : Nat} {st : Po} (h : WI A B Q st) (id : Int) : WI (A + 1) B Q (st.unpin id).1 := by
  unfold Po.unpin
  cases hx : st.ix id with
  | none => exact h.le (Nat.le_succ _) (Nat.le_refl _) (Nat.le_refl _)
  | some i =>
    show WI _ _ _ (if (st.pl i).p = 0 then (st, false) else _ : Po × Bool).1
    split
    · exact h.le (Nat.le_succ _) (Nat.le_refl _) (Nat.le_refl _)
    · exact (h.turn (x := { st.pl i with p := (st.pl i).p - 1 }) (Po.ix_pl hx).1 rfl (Nat.le_refl _) (Nat.le_trans (Nat.sub_le _ _) (pl_p h (Po.ix_pl hx).1))).room
theorem WI.evict {A B Q : Nat} {st : Po} (h : WI A B Q st) : WI (A + 1) B Q st.evict.1 := by
  unfold Po.evict
  split
  · exact h.le (Nat.le_succ _) (Nat.le_refl _) (Nat.le_refl _)
  · exact h.goes.1
theorem WI.clean {A B Q : Nat} {st : Po} (h : WI A B Q st) (id : Int) : WI (A + 1) (B + 1) Q (st.clean id).1 := by
  unfold Po.clean
  cases hx : st.ix id with
  | none => exact h.le (Nat.le_succ _) (Nat.le_succ _) (Nat.le_refl _)
  | some i => exact (h.save i).1
theorem WI.drop {A B Q : Nat} {st : Po} (h : WI A B Q st) (id : Int) : WI A B Q (st.drop id) := by
  unfold Po.drop
  cases hx : st.ix id with
  | none => exact h
  | some i =>
    exact (h.le (Nat.le_succ A) (Nat.le_succ B) (Nat.le_refl _)).out (Po.ix_pl hx).1
theorem WI.full {A B Q : Nat} {st : Po} (h : WI A B Q st) (n : Int) : WI A B Q { st with bk := { st.bk with full := n } } := ⟨h.nd, h.r, h.h, h.a, h.b, h.p⟩
theorem WI.start (bk : Bk) (m : Nat) (h1 : bk.asked = []) (h2 : bk.ids.length ≤ 6) : WI 0 6 0 (⟨[], 0, bk, m⟩ : Po) :=
  WI.mk List.nodup_nil (fun x hx => by cases hx) (.inl rfl) (by show bk.asked.length + 0 ≤ 0; rw [h1]; exact Nat.le_refl _) (by show bk.ids.length + 0 ≤ 6; omega) (fun x hx => by cases hx)
end Go.Proofs.Ytjmelhmjcbliaaa

namespace Go.Proofs.Ytjmelhmjcbliaaa
open Go Go.RowKit
set_option linter.unusedVariables false
set_option linter.unusedSimpArgs false
set_option linter.unusedSectionVars false
set_option maxRecDepth 100000
set_option linter.unusedSimpArgs false
set_option maxRecDepth 100000

/-- Get as the reference has it: a thing comes used, its pins are raised by k. -/
def Po.getK (st : Po) (id : Int) (k : Nat) : Po × Option (List UInt8) :=
  match (rcome st id).1.ix id with
  | some i => (((rcome st id).1.turn i { (rcome st id).1.pl i with u := true, p := ((rcome st id).1.pl i).p + k }).room, some ((rcome st id).1.pl i).b)
  | none => ((rcome st id).1, none)
theorem ix_push {st : Po} {id : Int} (h : st.ix id = none) (bk : Bk) (x : Pl) (hx : x.id = id) : Po.ix { st with bk := bk, L := st.L ++ [x] } id = some st.L.length := by
  have hno : id ∉ st.ids := ixOf_none h
  have hm : id ∈ Po.ids { st with bk := bk, L := st.L ++ [x] } := List.mem_map.2 ⟨x, List.mem_append.2 (.inr (List.mem_singleton.2 rfl)), hx⟩
  obtain ⟨i, hi⟩ := ixOf_mem hm
  have hi2 : Po.ix { st with bk := bk, L := st.L ++ [x] } id = some i := hi
  obtain ⟨h1, h2⟩ := Po.ix_pl hi2
  have hl : i < (st.L ++ [x]).length := h1
  rw [List.length_append, List.length_singleton] at hl
  by_cases e : i = st.L.length
  · rw [hi2, e]
  · exfalso
    apply hno
    have h3 : (Po.pl { st with bk := bk, L := st.L ++ [x] } i) = st.pl i := by
      unfold Po.pl
      show (st.L ++ [x]).getD i default = _
      rw [List.getD_eq_getElem?_getD, List.getD_eq_getElem?_getD, List.getElem?_append_left (by omega)]
    rw [h3] at h2
    rw [← h2]
    exact List.mem_map.2 ⟨_, pl_mem (by omega), rfl⟩
theorem rcome_some {st : Po} {id : Int} {i : Nat} (h : st.ix id = some i) : rcome st id = (st, 0) := by unfold rcome; rw [h]
theorem rcome_load {st : Po} {id : Int} {b : List UInt8} (h : st.ix id = none) (hb : (st.bk.load id).2 = some b) : rcome st id = ({ st with bk := (st.bk.load id).1, L := st.L ++ [⟨id, b, false, 0, true⟩] }, 0) := by
  unfold rcome; rw [h]; dsimp only; rw [hb]
theorem rcome_none {st : Po} {id : Int} (h : st.ix id = none) (hb : (st.bk.load id).2 = none) : rcome st id = ({ st with bk := (st.bk.load id).1 }, 2) := by
  unfold rcome; rw [h]; dsimp only; rw [hb]
theorem turn_push {st : Po} {bk : Bk} {x y : Pl} : Po.turn { st with bk := bk, L := st.L ++ [x] } st.L.length y = { st with bk := bk, L := st.L ++ [y] } := by
  unfold Po.turn
  show ({ st with bk := bk, L := (st.L ++ [x]).set st.L.length y } : Po) = _
  rw [List.set_append_right _ _ (Nat.le_refl _), Nat.sub_self]
  rfl
theorem pl_push {st : Po} {bk : Bk} {x : Pl} : Po.pl { st with bk := bk, L := st.L ++ [x] } st.L.length = x := by
  unfold Po.pl
  show (st.L ++ [x]).getD st.L.length default = x
  simp [List.getD_eq_getElem?_getD]
/-- The thing is there, or has come, or the back has none. -/
theorem getK_cases (st : Po) (id : Int) : (∃ i, (rcome st id).2 = 0 ∧ (rcome st id).1.ix id = some i ∧ i < (rcome st id).1.L.length) ∨ ((rcome st id).2 = 2 ∧ (rcome st id).1.ix id = none) := by
  cases hx : st.ix id with
  | some i => exact .inl ⟨i, by rw [rcome_some hx], by rw [rcome_some hx]; exact hx, by rw [rcome_some hx]; exact (Po.ix_pl hx).1⟩
  | none =>
    cases hb : (st.bk.load id).2 with
    | none => exact .inr ⟨by rw [rcome_none hx hb], by rw [rcome_none hx hb]; exact hx⟩
    | some b => exact .inl ⟨st.L.length, by rw [rcome_load hx hb], by rw [rcome_load hx hb]; exact ix_push hx _ _ rfl, by rw [rcome_load hx hb]; show st.L.length < (st.L ++ [_]).length; simp⟩
theorem getK_get (st : Po) (id : Int) : st.getK id 0 = st.get id := by
  unfold Po.getK Po.get Po.find
  cases hx : st.ix id with
  | some i => rw [rcome_some hx]; dsimp only; rw [hx]; rfl
  | none =>
    cases hb : (st.bk.load id).2 with
    | none => rw [rcome_none hx hb]; dsimp only; rw [show Po.ix { st with bk := (st.bk.load id).1 } id = none from hx]
    | some b =>
      rw [rcome_load hx hb]
      dsimp only
      rw [ix_push hx _ _ rfl]
      dsimp only
      rw [turn_push, turn_push, pl_push, pl_push]
theorem getK_pin (st : Po) (id : Int) : (st.getK id 1).1 = (st.pin id).1 ∧ (st.getK id 1).2.isSome = (st.pin id).2 := by
  unfold Po.getK Po.pin Po.find
  cases hx : st.ix id with
  | some i => rw [rcome_some hx]; dsimp only; rw [hx]; exact ⟨rfl, rfl⟩
  | none =>
    cases hb : (st.bk.load id).2 with
    | none => rw [rcome_none hx hb]; dsimp only; rw [show Po.ix { st with bk := (st.bk.load id).1 } id = none from hx]; exact ⟨rfl, rfl⟩
    | some b =>
      rw [rcome_load hx hb]
      dsimp only
      rw [ix_push hx _ _ rfl]
      dsimp only
      rw [turn_push, turn_push, pl_push, pl_push]
      exact ⟨rfl, rfl⟩
theorem WI.rcome {A B Q : Nat} {st : Po} (h : WI A B Q st) {id : Int} (h0 : 0 ≤ id) (h1 : id < 18446744073709551616) : WI (A + 2) (B + 1) Q (rcome st id).1 := by
  cases hx : st.ix id with
  | some i => rw [rcome_some hx]; exact h.le (by omega) (by omega) (Nat.le_refl _)
  | none =>
    cases hb : (st.bk.load id).2 with
    | none =>
      rw [rcome_none hx hb]
      have ha := h.a
      exact ⟨h.nd, h.r, h.h, by show ((st.bk.ask (2 * id)).asked).length + st.L.length ≤ _; rw [ask_len]; omega, Nat.le_trans h.b (Nat.le_succ _), h.p⟩
    | some b =>
      rw [rcome_load hx hb]
      exact h.push (x := ⟨id, b, false, 0, true⟩) (bk := (st.bk.load id).1) (q := 1) (ixOf_none hx) ⟨h0, h1⟩ (Nat.zero_le _) (Nat.le_of_eq (ask_len _ _)) rfl

theorem Own.rpLen {w0 w : World} {p bb : Nat} {R : List Rb} {st : Po} {J : Res} (h : Own w0 w (Sep (RpR p bb R st) J)) : Go.Proofs.Ytjmelhmjcbliaaa.rowLen w p = st.L.length ∧ R.length = st.L.length := by
  obtain ⟨ro, rc, hk, hO⟩ := h.openRp
  unfold rpc at hO
  have h2 := hO.blk4c.1.2.2.1
  unfold Go.Proofs.Ytjmelhmjcbliaaa.rowLen
  rw [h2]
  exact ⟨rb_len hk, rb_len hk⟩
set_option maxHeartbeats 4000000 in
theorem rproom_any {w0 w : World} {p bb : Nat} {R : List Rb} {st : Po} {J : Res} [Stab J] (h : Own w0 w (Sep (RpR p bb R st) J)) {A B Q : Nat} (hW : WI A B Q st) (hA : A ≤ 900000000) (hB : B ≤ 900000000) :
    Calls Try.prog 39 #[ptr p] w (fun e w' => e = .returned (.tuple #[]) ∧ ∃ R', Own w0 w' (Sep (RpR p bb R' st.room) J)) := by
  have HX0 : Hid (∃ R1 st1, WI A B Q st1 ∧ roomP st1.L.length st1 = st.room ∧ Own w0 w (Sep (RpR p bb R1 st1) J)) := Lib.hid ⟨R, st, hW, rfl, h⟩
  clear h hW
  go_enter Try.func39, Try.ntmps39
  go_wp2_with fail
  go_loopw [4] (fun v wr => True ∧ Hid (∃ R1 st1, WI A B Q st1 ∧ roomP st1.L.length st1 = st.room ∧ Own w0 wr (Sep (RpR p bb R1 st1) J))) (fun _ wr => rowLen wr p)
  case atStart => exact ⟨trivial, HX0⟩
  case round =>
    clear HX0
    obtain ⟨_, HX⟩ := hrel
    obtain ⟨R1, st1, k1, k2, k3⟩ := HX.out
    have HK1 := Lib.hid k1
    have HK2 := Lib.hid k2
    have HO0 := Lib.hid k3
    have HM0 : Hid (rowLen wr p = st1.L.length) := Lib.hid k3.rpLen.1
    obtain ⟨ro, rc, hk, hO⟩ := k3.openRp
    obtain ⟨n, hn⟩ : ∃ n, R1.length = n := ⟨_, rfl⟩
    unfold rpc at hO
    rw [hn] at hO
    obtain ⟨⟨c0, c1, c2, c3⟩, f0, f1, f2, f3⟩ := hO.blk4c
    have HN : Hid (n = st1.L.length) := Lib.hid (by rw [← hn]; exact rb_len hk)
    clear HX k1 k2 k3 hk hO hn c0 c3 f0 f1 f2 f3
    by_cases hmo : st1.most < n
    · have hmI : (st1.most : Int) < (n : Int) := by omega
      go_wp2_with fail
      go_quiet (fail)
      have HO := Lib.hid (HO0.out.drewN nq)
      clear HO0 c1 c2
      generalize World.drewN wr nq = w1 at *
      have HC := Lib.hid (rpgoes_any HO.out (by have := HO.out.rpLen.2; have := HK1.out.a; omega) (by have := HK1.out.a; omega) (by have := HK1.out.b; omega) HK1.out.h)
      have HLEN := Lib.hid (Po.goes_len st1)
      have HMO : Hid (st1.most < st1.L.length) := Lib.hid (by rw [← HN.out]; exact hmo)
      clear HO hmo
      go_wp2_with fail
      refine HC.out.mono ?_
      rintro e w2 ⟨rfl, R2, hown⟩
      have HO2 := Lib.hid hown
      clear HC hown
      by_cases hz : st1.goes.2.2 = 0
      · have HR : Hid (roomP st1.goes.1.L.length st1.goes.1 = st.room) := Lib.hid (by
          rw [← HK2.out, show st1.L.length = st1.goes.1.L.length + 1 from (HLEN.out.2.2.2.2.1 hz).symm]
          exact (roomP_yes HMO.out hz).symm)
        have HW2 := Lib.hid (HK1.out.goes.2 hz)
        have HZ := Lib.hid hz
        rw [hz]
        clear hz
        go_wp2_with fail
        go_roundw
        case rel => exact ⟨trivial, Lib.hid ⟨R2, st1.goes.1, HW2.out, HR.out, HO2.out⟩⟩
        case measure =>
          rw [HM0.out, HO2.out.rpLen.1]
          have := HLEN.out.2.2.2.2.1 HZ.out
          omega
      · have HR : Hid (st1.goes.1 = st.room) := Lib.hid (by
          rw [← HK2.out]
          obtain ⟨q, hq⟩ : ∃ q, st1.L.length = q + 1 := ⟨st1.L.length - 1, by have := HMO.out; omega⟩
          rw [hq, roomP_stop (by rw [← hq] at *; exact HMO.out) hz])
        have hzB : (st1.goes.2.2 != 0) = true := by simpa using hz
        obtain ⟨zz, hzz⟩ : ∃ z, st1.goes.2.2 = z := ⟨_, rfl⟩
        rw [hzz] at hz hzB ⊢
        clear hzz
        go_wp2_with fail
        (try simp only [Exit.inBlock, Exit.then])
        refine bodyPost_ret (results_none rfl _ _ _) rfl ?_
        exact ⟨rfl, R2, by rw [← HR.out]; exact HO2.out⟩
    · have hmI : ¬ (st1.most : Int) < (n : Int) := by omega
      have HR : Hid (st1 = st.room) := Lib.hid (by rw [← HK2.out]; exact (roomP_no (by rw [← HN.out]; exact hmo)).symm)
      go_wp2_with fail
      go_quiet (fail)
      have HO := Lib.hid (HO0.out.drewN nq)
      clear HO0 c1 c2
      go_wp2_with fail
      (first | go_end0 | refine ⟨rfl, _, results_none rfl _ _ _, ?_⟩)
      exact ⟨rfl, R1, by rw [← HR.out]; exact HO.out⟩
end Go.Proofs.Ytjmelhmjcbliaaa

namespace Go.Proofs.Ytjmelhmjcbliaaa
open Go Go.RowKit
set_option linter.unusedVariables false
set_option linter.unusedSimpArgs false
set_option linter.unusedSectionVars false
set_option maxRecDepth 100000
set_option linter.unusedSimpArgs false
set_option linter.unusedSectionVars false
set_option maxRecDepth 100000

/-- The reference's pool, its row laid open. -/
def RpO (w0 w : World) (p bb g n rc : Nat) (R : List Rb) (st : Po) (J : Res) : Prop := R.map (·.v) = st.L ∧ R.length = n ∧
  Own w0 w (Sep (RowG 74 (.slice (some ⟨g, 0, none⟩) n rc) R) (Sep (Blk p (.cells #[ptr bb, .int .i64 (st.most : Int), .slice (some ⟨g, 0, none⟩) n rc, .int .i64 (st.hand : Int)] 33)) (Sep (Fix (RbsOk R)) (Sep (BkR bb st.bk) J))))
theorem Own.rpO {w0 w : World} {p bb : Nat} {R : List Rb} {st : Po} {J : Res} (h : Own w0 w (Sep (RpR p bb R st) J)) (hn : 0 < st.L.length) : ∃ g n rc, n = st.L.length ∧ RpO w0 w p bb g n rc R st J := by
  obtain ⟨ro, rc, hk, hO⟩ := h.openRp
  have hl := rb_len hk
  obtain ⟨g, rfl⟩ := own_addr hO.snd (by omega)
  refine ⟨g, R.length, rc, hl, hk, rfl, ?_⟩
  unfold rpc at hO
  exact hO.swap
section
variable {w0 w : World} {p bb g n rc : Nat} {R : List Rb} {st : Po} {J : Res} [Stab J]
theorem RpO.close (h : RpO w0 w p bb g n rc R st J) : Own w0 w (Sep (RpR p bb R st) J) := by
  obtain ⟨hk, hn, hO⟩ := h
  subst hn
  exact Own.shutRp (ro := some ⟨g, 0, none⟩) (rc := rc) hk hO.swap
theorem RpO.quiet {W : World} (h : RpO w0 w p bb g n rc R st J) (ho : Only (fun _ => False) w W) : RpO w0 W p bb g n rc R st J := ⟨h.1, h.2.1, h.2.2.quiet ho⟩
theorem RpO.len (h : RpO w0 w p bb g n rc R st J) : st.L.length = n := by rw [← rb_len h.1]; exact h.2.1
theorem RpO.pool (h : RpO w0 w p bb g n rc R st J) : w.cell? ⟨p, 0, none⟩ = some (ptr bb) ∧ w.cell? ⟨p, 2, none⟩ = some (.slice (some ⟨g, 0, none⟩) n rc) := by
  have := h.2.2.swap.blk4c.1
  exact ⟨this.1, this.2.2.1⟩
/-- What is read at a place, and what may be written there. -/
theorem RpO.at (h : RpO w0 w p bb g n rc R st J) {i : Nat} (hi : i < n) : ∃ ao c, w.cell? ⟨g, i * 5, none⟩ = some (.int .u64 (st.pl i).id) ∧ w.cell? ⟨g, i * 5 + 1, none⟩ = some (.slice ao (st.pl i).b.length c) ∧ w.cell? ⟨g, i * 5 + 2, none⟩ = some (.bool (st.pl i).d) ∧
    w.cell? ⟨g, i * 5 + 3, none⟩ = some (.int .i64 ((st.pl i).p : Int)) ∧ w.cell? ⟨g, i * 5 + 4, none⟩ = some (.bool (st.pl i).u) ∧ SlC w (.slice ao (st.pl i).b.length c) (st.pl i).b ∧ (st.pl i).b.length ≤ 140737488351232 ∧
    w.frozen? ⟨g, i * 5 + 1, none⟩ = false ∧ w.frozen? ⟨g, i * 5 + 2, none⟩ = false ∧ w.frozen? ⟨g, i * 5 + 3, none⟩ = false ∧ w.frozen? ⟨g, i * 5 + 4, none⟩ = false ∧ Hid (∀ W, RbsOk R W → SlC W (.slice ao (st.pl i).b.length c) (st.pl i).b) ∧
    Hid (∀ (k : Nat) (u : Value) (y : Pl), k < 5 → y.b = (st.pl i).b → rbc ⟨ao, c, y⟩ = (rbc ⟨ao, c, st.pl i⟩).set k u → ∃ R', RpO w0 (w.setCell ⟨g, i * 5 + k, none⟩ u) p bb g n rc R' (st.turn i y) J) := by
  obtain ⟨hk, hn, hO⟩ := h
  subst hn
  obtain ⟨g2, e2, r0, r1, r2, r3, r4⟩ := hO.rbCell (j := i) hi
  simp only [Option.some.injEq, Addr.mk.injEq, and_true] at e2
  subst e2
  obtain ⟨x, hx⟩ : ∃ x, R.getD i default = x := ⟨_, rfl⟩
  have hv : st.pl i = x.v := by unfold Po.pl; rw [rb_get hk hi, hx]
  have hmem : x ∈ R := by rw [← hx, List.getD_eq_getElem?_getD, List.getElem?_eq_getElem hi]; exact List.getElem_mem hi
  have hok := hO.snd.snd.fixed x hmem
  rw [hx] at r0 r1 r2 r3 r4
  rw [hv]
  refine ⟨x.ao, x.c, r0, r1, r2, r3, r4, hok.1, hok.2, hO.rbFree hi (by decide), hO.rbFree hi (by decide), hO.rbFree hi (by decide), hO.rbFree hi (by decide), Lib.hid (fun W hW => (hW x hmem).1), Lib.hid fun k u y hk5 hb e => ?_⟩
  have h1 := hO.rbSet hi hk5 u ⟨x.ao, x.c, y⟩ (by rw [hx]; exact e)
  refine ⟨R.set i ⟨x.ao, x.c, y⟩, by rw [List.map_set, hk]; rfl, List.length_set, ?_⟩
  have h2 := (h1.ac (by ac_rfl : _ = Sep (Fix (RbsOk R)) (Sep (RowG 74 (.slice (some ⟨g, 0, none⟩) R.length rc) (R.set i ⟨x.ao, x.c, y⟩)) (Sep (Blk p (.cells #[ptr bb, .int .i64 (st.most : Int), .slice (some ⟨g, 0, none⟩) R.length rc, .int .i64 (st.hand : Int)] 33)) (Sep (BkR bb st.bk) J))))).fixI (Q := RbsOk (R.set i ⟨x.ao, x.c, y⟩)) (fun W hW z hz => by
    rcases List.mem_or_eq_of_mem_set hz with hz | rfl
    · exact hW z hz
    · have := hW x hmem
      dsimp only
      rw [hb]
      exact this)
  exact h2.ac (by ac_rfl)
end
theorem rpat_ix {w0 w : World} {p bb : Nat} {R : List Rb} {st : Po} {J : Res} [Stab J] (h : Own w0 w (Sep (RpR p bb R st) J)) {id : Int} {i : Nat} (hx : st.ix id = some i) (hl : R.length ≤ 1000000000) :
    Calls Try.prog 37 #[ptr p, .int .u64 id] w (fun e w' => e = .returned (.int .i64 (i : Int)) ∧ w' = w) := by
  refine (rpat_any h id hl).mono ?_
  rintro e w' ⟨rfl, rfl⟩
  refine ⟨?_, rfl⟩
  unfold ixI
  rw [hx]
theorem getK_some {st : Po} {id : Int} {k i : Nat} (h : (rcome st id).1.ix id = some i) : st.getK id k = (((rcome st id).1.turn i { (rcome st id).1.pl i with u := true, p := ((rcome st id).1.pl i).p + k }).room, some ((rcome st id).1.pl i).b) := by unfold Po.getK; rw [h]
theorem getK_none {st : Po} {id : Int} {k : Nat} (h : (rcome st id).1.ix id = none) : st.getK id k = ((rcome st id).1, none) := by unfold Po.getK; rw [h]
theorem turn_turn (st : Po) (i : Nat) (x y : Pl) : (st.turn i x).turn i y = st.turn i y := by unfold Po.turn; simp
theorem turn_pl {st : Po} {i : Nat} (hi : i < st.L.length) (x : Pl) : (st.turn i x).pl i = x := by unfold Po.turn Po.pl; simp [List.getD_eq_getElem?_getD, hi]
/-- What Get answers. -/
def RgPost (w0 w' : World) (p bb : Nat) (r : Po × Option (List UInt8)) (J : Res) (e : Ending) : Prop :=
  ∃ R', ((∃ b ao c, r.2 = some b ∧ b.length ≤ 140737488351232 ∧ e = .returned (.tuple #[.slice ao b.length c, .int .i64 0]) ∧ Own w0 w' (Sep (Fix fun w => SlC w (.slice ao b.length c) b) (Sep (RpR p bb R' r.1) J))) ∨ (r.2 = none ∧ e = .returned (.tuple #[.slice none 0 0, .int .i64 2]) ∧ Own w0 w' (Sep (RpR p bb R' r.1) J)))
set_option maxHeartbeats 8000000 in
theorem rget_any {w0 w : World} {p bb : Nat} {R : List Rb} {st : Po} {J : Res} [Stab J] (h : Own w0 w (Sep (RpR p bb R st) J)) {A B Q : Nat} (hW : WI A B Q st) (hA : A ≤ 800000000) (hB : B ≤ 800000000) (hQ : Q ≤ 800000000) (id : Int) (h0 : 0 ≤ id) (h1 : id < 18446744073709551616) (k : Nat) (hk1 : k ≤ 1) :
    Calls Try.prog 11 #[ptr p, .int .u64 id, .int .i64 (k : Int)] w (fun e w' => RgPost w0 w' p bb (st.getK id k) J e) := by
  have hl : R.length ≤ 800000000 := by have := h.rpLen.2; have := hW.a; omega
  have HC := Lib.hid (rpcome_any h id (by omega) (by have := hW.a; omega) (by have := hW.b; omega))
  have HW1 := Lib.hid (hW.rcome h0 h1)
  have hcs := getK_cases st id
  clear h hW hl h0 h1
  go_enter Try.func11, Try.ntmps11
  go_wp2_with fail
  refine HC.out.mono ?_
  rintro e w1 ⟨rfl, R1, hO⟩
  have HO := Lib.hid hO
  clear HC hO
  rcases hcs with ⟨i, he, hix, hil⟩ | ⟨he, hix⟩
  · rw [he]
    have HG := Lib.hid (getK_some (k := k) hix)
    obtain ⟨s1, hs1⟩ : ∃ s, (rcome st id).1 = s := ⟨_, rfl⟩
    rw [hs1] at hix hil HO HW1 HG
    clear he hs1
    have HL : Hid (R1.length ≤ 1000000000) := Lib.hid (by have := HO.out.rpLen.2; have := HW1.out.a; omega)
    have HX := Lib.hid hix
    obtain ⟨g, n, rc, hn, hOp⟩ := HO.out.rpO (by omega)
    have hin : i < n := by omega
    have hinI : (i : Int) < (n : Int) := by omega
    have HOP := Lib.hid hOp
    obtain ⟨c0, c2⟩ := hOp.pool
    clear hOp hil hix hn
    go_upto_region 4 with fail
    go_quiet (first | (go_at_call 37; exact Calls.quiet_of_same (rpat_ix (HO.out.drewN _) HX.out HL.out)))
    have HOP2 := Lib.hid (HOP.out.quiet ((Only.refl _ w1).drewN nq))
    clear HO HOP HL c0 c2
    generalize World.drewN w1 nq = w2 at *
    obtain ⟨ao, c, r0, r1, r2, r3, r4, hsl, hbl, f1, f2, f3, f4, _, HSET⟩ := HOP2.out.at hin
    clear hsl hbl r0 r1 r2 r3 f1 f2 f3
    obtain ⟨x0, hx0⟩ : ∃ x, s1.pl i = x := ⟨_, rfl⟩
    have HX0 := Lib.hid hx0
    obtain ⟨R2, hO2⟩ := HSET.out 4 (.bool true) { s1.pl i with u := true } (by decide) rfl (by simp [rbc])
    have HO2 := Lib.hid hO2
    clear HSET hO2 HOP2
    rw [hx0] at r4 HO2 HG
    go_upto_region 6 with fail
    generalize World.setCell w2 _ _ = w3 at *
    have hil : i < s1.L.length := Nat.lt_of_lt_of_eq hin (by have := HO2.out.len; rw [← this]; exact List.length_set)
    have hp1 := turn_pl hil { x0 with u := true }
    obtain ⟨ao2, c2, q0, q1, q2, q3, q4, hsl, hbl, g1, g2, g3, g4, _, HSET⟩ := HO2.out.at hin
    rw [hp1] at q0 q1 q2 q3 q4 hsl hbl HSET
    dsimp only at q0 q1 q2 q3 q4 hsl hbl HSET
    have hxQ : x0.p ≤ Q := by rw [← hx0]; exact HW1.out.p _ (pl_mem hil)
    have hpI : ((x0.p : Int) + (k : Int)) = ((x0.p + k : Nat) : Int) := by omega
    obtain ⟨R3, hO3⟩ := HSET.out 3 (.int .i64 ((x0.p + k : Nat) : Int)) { x0 with u := true, p := x0.p + k } (by decide) rfl (by simp [rbc])
    rw [turn_turn] at hO3
    have HO3 := Lib.hid hO3
    have hxB : (x0.p : Int) ≤ 800000000 := by omega
    clear HSET hO3 q0 q1 q2 q4 hsl hbl g1 g2 g4 r4 f4 hx0
    obtain ⟨pk, hpk⟩ : ∃ m, x0.p + k = m := ⟨_, rfl⟩
    rw [hpk] at hpI HO3
    have HPK := Lib.hid hpk
    clear hpk
    go_upto_region 7 with fail
    generalize World.setCell w3 _ _ = w4 at *
    clear q3 g3 hpI
    have hp3 := turn_pl hil { x0 with u := true, p := pk }
    have HIL := Lib.hid hil
    obtain ⟨ao4, c4, q0, q1, q2, q3, q4, hsl, hbl, g1, g2, g3, g4, _, HSET⟩ := HO3.out.at hin
    rw [hp3] at q1 hsl hbl
    dsimp only at q1 hsl hbl
    have hcopy := raw_copy (.slice ao4 x0.b.length c4) x0.b w4 hsl (by omega)
    obtain ⟨xn, hxn⟩ : ∃ m, x0.b.length = m := ⟨_, rfl⟩
    rw [hxn] at q1 hcopy
    have HC := Lib.hid hcopy
    have HXN := Lib.hid hxn
    have HBL := Lib.hid hbl
    have HXI := Lib.hid (show x0.id = (s1.pl i).id from congrArg Pl.id HX0.out.symm)
    have HPQ : Hid (pk ≤ Q + 1) := Lib.hid (by have := HPK.out; omega)
    clear hcopy hsl hbl q0 q2 q3 q4 g1 g2 g3 g4 HSET hxn hp1 hp3 HO2
    go_wp2_with fail
    refine HC.out.mono ?_
    rintro e w5 ⟨v', rfl, hown, ho⟩
    rw [← HXN.out] at hown
    obtain ⟨ao5, c5, rfl, hown2⟩ := HO3.out.close.bytesFix ho hown
    have HW3 := Lib.hid (HW1.out.turn (Q2 := Q + 1) (i := i) (x := { x0 with u := true, p := pk }) HIL.out HXI.out (Nat.le_succ _) HPQ.out)
    have HR := Lib.hid (rproom_any (hown2.ac (by ac_rfl : _ = Sep (RpR p bb R3 (s1.turn i { x0 with u := true, p := pk })) (Sep (Fix fun w => SlC w (.slice ao5 x0.b.length c5) x0.b) J))) HW3.out (by omega) (by omega))
    clear HC hown ho hown2 q1
    go_wp2_with fail
    refine HR.out.mono ?_
    rintro e w6 ⟨rfl, R4, hO⟩
    have HO4 := Lib.hid hO
    clear HR hO
    go_wp2_with fail
    go_ret2
    refine ⟨R4, .inl ⟨x0.b, ao5, c5, by rw [HG.out], by have := HBL.out; omega, rfl, ?_⟩⟩
    rw [HG.out]
    have h9 := HO4.out
    rw [show ({ id := x0.id, b := x0.b, d := x0.d, p := pk, u := true } : Pl) = { x0 with u := true, p := x0.p + k } by rw [HPK.out]] at h9
    exact h9.swap
  · rw [he]
    have HG := Lib.hid (getK_none (k := k) hix)
    clear he hix
    go_wp2_with fail
    go_ret2
    exact ⟨R1, .inr ⟨by rw [HG.out], rfl, by rw [HG.out]; exact HO.out⟩⟩
end Go.Proofs.Ytjmelhmjcbliaaa

namespace Go.Proofs.Ytjmelhmjcbliaaa
open Go Go.RowKit
set_option linter.unusedVariables false
set_option linter.unusedSimpArgs false
set_option linter.unusedSectionVars false
set_option maxRecDepth 100000
set_option linter.unusedSimpArgs false
set_option linter.unusedSectionVars false
set_option maxRecDepth 100000

set_option maxHeartbeats 4000000 in
theorem revict_any {w0 w : World} {p bb : Nat} {R : List Rb} {st : Po} {J : Res} [Stab J] (h : Own w0 w (Sep (RpR p bb R st) J)) {A B Q : Nat} (hW : WI A B Q st) (hA : A ≤ 800000000) (hB : B ≤ 800000000) :
    Calls Try.prog 23 #[ptr p] w (fun e w' => e = .returned (.tuple #[.int .u64 st.evict.2.1, .int .i64 st.evict.2.2]) ∧ ∃ R', Own w0 w' (Sep (RpR p bb R' st.evict.1) J)) := by
  have hl := h.rpLen.2
  obtain ⟨ro, rc, hk, hO⟩ := h.openRp
  obtain ⟨n, hn⟩ : ∃ n, R.length = n := ⟨_, rfl⟩
  unfold rpc at hO
  rw [hn] at hO
  have c2 := hO.blk4c.1.2.2.1
  have HO := Lib.hid h
  by_cases h0 : n = 0
  · have he : st.evict = (st, 0, 5) := by
      unfold Po.evict
      rw [if_pos (List.eq_nil_of_length_eq_zero (by omega))]
    subst h0
    have HE := Lib.hid he
    clear h hl hk hO he hn
    go_enter Try.func23, Try.ntmps23
    go_wp2_with fail
    go_ret2
    rw [HE.out]
    exact ⟨rfl, R, HO.out⟩
  · have he : st.evict = st.goes := by
      unfold Po.evict
      rw [if_neg (fun e => h0 (by rw [← hn, hl, e]; rfl))]
    have h0I : ¬ (n : Int) = 0 := by omega
    have h0B : ((n : Int) == 0) = false := by simp; omega
    have HC := Lib.hid (rpgoes_any h (by have := hW.a; omega) (by have := hW.a; omega) (by have := hW.b; omega) hW.h)
    have HE := Lib.hid he
    clear h hl hk hO he hn h0 hW HO
    go_enter Try.func23, Try.ntmps23
    go_wp2_with fail
    refine HC.out.mono ?_
    rintro e w2 ⟨rfl, R2, hO⟩
    have HO := Lib.hid hO
    clear HC hO
    go_wp2_with fail
    go_ret2
    rw [HE.out]
    exact ⟨rfl, R2, HO.out⟩
theorem unpin_noneR {st : Po} {id : Int} (h : st.ix id = none) : st.unpin id = (st, false) := by unfold Po.unpin; rw [h]
theorem unpin_zeroR {st : Po} {id : Int} {i : Nat} (h : st.ix id = some i) (hp : (st.pl i).p = 0) : st.unpin id = (st, false) := by unfold Po.unpin; rw [h]; dsimp only; rw [if_pos hp]
theorem unpin_someR {st : Po} {id : Int} {i : Nat} (h : st.ix id = some i) (hp : (st.pl i).p ≠ 0) : st.unpin id = ((st.turn i { st.pl i with p := (st.pl i).p - 1 }).room, true) := by unfold Po.unpin; rw [h]; dsimp only; rw [if_neg hp]
theorem rpat_no {w0 w : World} {p bb : Nat} {R : List Rb} {st : Po} {J : Res} [Stab J] (h : Own w0 w (Sep (RpR p bb R st) J)) {id : Int} (hx : st.ix id = none) (hl : R.length ≤ 1000000000) :
    Calls Try.prog 37 #[ptr p, .int .u64 id] w (fun e w' => e = .returned (.int .i64 (-1)) ∧ w' = w) := by
  refine (rpat_any h id hl).mono ?_
  rintro e w' ⟨rfl, rfl⟩
  refine ⟨?_, rfl⟩
  unfold ixI
  rw [hx]
def unpinE (st : Po) (id : Int) : Int := if (st.unpin id).2 then 0 else 5
set_option maxHeartbeats 4000000 in
theorem runpin_any {w0 w : World} {p bb : Nat} {R : List Rb} {st : Po} {J : Res} [Stab J] (h : Own w0 w (Sep (RpR p bb R st) J)) {A B Q : Nat} (hW : WI A B Q st) (hA : A ≤ 800000000) (hB : B ≤ 800000000) (hQ : Q ≤ 800000000) (id : Int) :
    Calls Try.prog 21 #[ptr p, .int .u64 id] w (fun e w' => e = .returned (.int .i64 (unpinE st id)) ∧ ∃ R', Own w0 w' (Sep (RpR p bb R' (st.unpin id).1) J)) := by
  have hl : R.length ≤ 1000000000 := by have := h.rpLen.2; have := hW.a; omega
  cases hx : st.ix id with
  | none =>
    have HC := Lib.hid (rpat_no h hx hl)
    have HE := Lib.hid (unpin_noneR hx)
    have HO := Lib.hid h
    clear h hx hW hl
    go_enter Try.func21, Try.ntmps21
    go_wp2_with (go_at_call 37; refine HC.out.mono ?_; rintro e w2 ⟨rfl, rfl⟩)
    go_ret
    rw [show unpinE st id = 5 by unfold unpinE; rw [HE.out]; rfl, HE.out]
    exact ⟨rfl, R, HO.out⟩
  | some i =>
    have hil := (Po.ix_pl hx).1
    have HC := Lib.hid (rpat_ix h hx hl)
    have HO := Lib.hid h
    obtain ⟨g, n, rc, hn, hOp⟩ := h.rpO (by omega)
    have hin : i < n := by omega
    have hinI : (i : Int) < (n : Int) := by omega
    have hi0 : (0 : Int) ≤ (i : Int) := by omega
    have hlt0 : ¬ (i : Int) < 0 := by omega
    have hltB : decide ((i : Int) < 0) = false := by simp
    obtain ⟨c0, c2⟩ := hOp.pool
    obtain ⟨ao, c, r0, r1, r2, r3, r4, hsl, hbl, f1, f2, f3, f4, _, HSET⟩ := hOp.at hin
    obtain ⟨pv, hpv⟩ : ∃ x, (st.pl i).p = x := ⟨_, rfl⟩
    have hpQ : pv ≤ Q := by rw [← hpv]; exact hW.p _ (pl_mem hil)
    rw [hpv] at r3
    by_cases hp0 : pv = 0
    · subst hp0
      have HE := Lib.hid (unpin_zeroR hx hpv)
      clear h hW hl hil hn hOp r0 r1 r2 r4 hsl hbl f1 f2 f4 HSET hpv hx
      go_enter Try.func21, Try.ntmps21
      go_wp2_with (go_at_call 37; refine HC.out.mono ?_; rintro e w2 ⟨rfl, rfl⟩)
      go_ret
      rw [show unpinE st id = 5 by unfold unpinE; rw [HE.out]; rfl, HE.out]
      exact ⟨rfl, R, HO.out⟩
    · have hpI : ¬ (pv : Int) = 0 := by omega
      have hpB : ((pv : Int) == 0) = false := by simp; omega
      have hp1 : (pv : Int) - 1 = ((pv - 1 : Nat) : Int) := by omega
      have HE := Lib.hid (unpin_someR hx (by rw [hpv]; exact hp0))
      obtain ⟨R2, hO2⟩ := HSET.out 3 (.int .i64 ((pv - 1 : Nat) : Int)) { st.pl i with p := (st.pl i).p - 1 } (by decide) rfl (by simp [rbc, hpv])
      have HO2 := Lib.hid hO2
      have HW2 := Lib.hid (hW.turn (i := i) (x := { st.pl i with p := (st.pl i).p - 1 }) hil rfl (Nat.le_refl _) (by show (st.pl i).p - 1 ≤ Q; omega))
      obtain ⟨q, hq⟩ : ∃ q, pv - 1 = q := ⟨_, rfl⟩
      rw [hq] at hp1 HO2
      have hpb : (pv : Int) ≤ 800000000 := by omega
      clear h hW hl hil hn hOp r0 r1 r2 r4 hsl hbl f1 f2 f4 HSET hpv hx hO2 HO hp0
      go_enter Try.func21, Try.ntmps21
      go_wp2_with (go_at_call 37; refine HC.out.mono ?_; rintro e w2 ⟨rfl, rfl⟩)
      have HR := Lib.hid (rproom_any HO2.out.close HW2.out (by omega) (by omega))
      refine HR.out.mono ?_
      rintro e w6 ⟨rfl, R4, hO⟩
      have HO4 := Lib.hid hO
      clear HR hO
      go_wp2_with fail
      go_ret
      rw [show unpinE st id = 0 by unfold unpinE; rw [HE.out]; rfl, HE.out]
      exact ⟨rfl, R4, HO4.out⟩
theorem clean_noneR {st : Po} {id : Int} (h : st.ix id = none) : st.clean id = (st, 5) := by unfold Po.clean; rw [h]
theorem clean_okR {st : Po} {id : Int} {i : Nat} (h : st.ix id = some i) (hd : (st.pl i).d = false) : st.clean id = (st, 0) := by unfold Po.clean; rw [h]; dsimp only; unfold Po.save; rw [if_neg (by rw [hd]; simp)]; rfl
theorem clean_yesR {st : Po} {id : Int} {i : Nat} (h : st.ix id = some i) (hd : (st.pl i).d = true) (hs : (st.bk.save (st.pl i).id (st.pl i).b).2 = true) :
    st.clean id = ({ st with bk := (st.bk.save (st.pl i).id (st.pl i).b).1, L := st.L.set i { st.pl i with d := false } }, 0) := by
  unfold Po.clean; rw [h]; dsimp only; unfold Po.save; rw [if_pos hd, if_pos hs]; rfl
theorem clean_noR {st : Po} {id : Int} {i : Nat} (h : st.ix id = some i) (hd : (st.pl i).d = true) (hs : (st.bk.save (st.pl i).id (st.pl i).b).2 = false) :
    st.clean id = ({ st with bk := (st.bk.save (st.pl i).id (st.pl i).b).1 }, 3) := by
  unfold Po.clean; rw [h]; dsimp only; unfold Po.save; rw [if_pos hd, if_neg (by rw [hs]; simp)]; rfl
set_option maxHeartbeats 4000000 in
theorem rclean_any {w0 w : World} {p bb : Nat} {R : List Rb} {st : Po} {J : Res} [Stab J] (h : Own w0 w (Sep (RpR p bb R st) J)) {A B Q : Nat} (hW : WI A B Q st) (hA : A ≤ 800000000) (hB : B ≤ 800000000) (id : Int) :
    Calls Try.prog 25 #[ptr p, .int .u64 id] w (fun e w' => e = .returned (.int .i64 (st.clean id).2) ∧ ∃ R', Own w0 w' (Sep (RpR p bb R' (st.clean id).1) J)) := by
  have hl : R.length ≤ 1000000000 := by have := h.rpLen.2; have := hW.a; omega
  cases hx : st.ix id with
  | none =>
    have HC := Lib.hid (rpat_no h hx hl)
    have HE := Lib.hid (clean_noneR hx)
    have HO := Lib.hid h
    clear h hx hW hl
    go_enter Try.func25, Try.ntmps25
    go_wp2_with (go_at_call 37; refine HC.out.mono ?_; rintro e w2 ⟨rfl, rfl⟩)
    go_ret
    rw [HE.out]
    exact ⟨rfl, R, HO.out⟩
  | some i =>
    have hil := (Po.ix_pl hx).1
    have hid := (Po.ix_pl hx).2
    have HC := Lib.hid (rpat_ix h hx hl)
    have HO := Lib.hid h
    obtain ⟨g, n, rc, hn, hOp⟩ := h.rpO (by omega)
    have hin : i < n := by omega
    have hinI : (i : Int) < (n : Int) := by omega
    have hi0 : (0 : Int) ≤ (i : Int) := by omega
    have hlt0 : ¬ (i : Int) < 0 := by omega
    have hltB : decide ((i : Int) < 0) = false := by simp
    obtain ⟨c0, c2⟩ := hOp.pool
    obtain ⟨ao, c, r0, r1, r2, r3, r4, hsl, hbl, f1, f2, f3, f4, HRB, HSET⟩ := hOp.at hin
    cases hd : (st.pl i).d with
    | false =>
      rw [hd] at r2
      have HE := Lib.hid (clean_okR hx hd)
      clear h hW hl hil hn hOp r0 r1 r3 r4 hsl hbl f1 f2 f3 f4 HSET hx hd hid
      go_enter Try.func25, Try.ntmps25
      go_wp2_with (go_at_call 37; refine HC.out.mono ?_; rintro e w2 ⟨rfl, rfl⟩)
      go_ret
      rw [HE.out]
      exact ⟨rfl, R, HO.out⟩
    | true =>
      rw [hd] at r2
      obtain ⟨x, hxe⟩ : ∃ x, st.pl i = x := ⟨_, rfl⟩
      rw [hxe] at hd r1 hsl hbl hid
      have hOd := hOp.quiet ((Only.refl _ w).drew)
      have HSV := Lib.hid (bsave_any (hOd.2.2.ac (by ac_rfl : _ = Sep (BkR bb st.bk) (Sep (Fix (RbsOk R)) (Sep (RowG 74 (.slice (some ⟨g, 0, none⟩) n rc) R) (Sep (Blk p (.cells #[ptr bb, .int .i64 (st.most : Int), .slice (some ⟨g, 0, none⟩) n rc, .int .i64 (st.hand : Int)] 33)) J))))) id (.slice ao x.b.length c) x.b (by have := hW.a; omega) (by have := hW.b; omega) (fun W F hJ _ => by have := HRB.out W (jfix hJ); rw [hxe] at this; exact this) (by omega))
      obtain ⟨bl, hbl2⟩ : ∃ l, x.b.length = l := ⟨_, rfl⟩
      have HXE := Lib.hid hxe
      have HD := Lib.hid hd
      have HIX := Lib.hid hx
      have HK := Lib.hid hOp.1
      have HRN := Lib.hid hOp.2.1
      have HID := Lib.hid hid
      rw [hbl2] at r1
      have HBL := Lib.hid hbl2
      clear hOd hOp h hl hil hn r0 r3 r4 hsl hbl f1 f2 f3 f4 HSET hx hd hid hxe hW HO HRB hbl2
      go_enter Try.func25, Try.ntmps25
      go_wp2_with (go_at_call 37; refine HC.out.mono ?_; rintro e w2 ⟨rfl, rfl⟩)
      go_upto_region 6 with fail
      go_still_tail 13, (by kernel_rfl)
      change wpList _ _ _ _ _ (World.drew _)
      rw [HBL.out] at HSV
      go_wp2_with fail
      refine HSV.out.mono ?_
      rintro e w7 ⟨rfl, ho⟩
      have hOp7 : RpO w0 w7 p bb g n rc R { st with bk := (st.bk.save id x.b).1 } J := ⟨HK.out, HRN.out, ho.ac (by ac_rfl)⟩
      obtain ⟨d0, d2⟩ := hOp7.pool
      obtain ⟨ao7, c7, _, _, s2, _, _, _, _, _, f2, _, _, _, HSET⟩ := hOp7.at hin
      have HO7 := Lib.hid hOp7.close
      have hpl : Po.pl { st with bk := (st.bk.save id x.b).1 } i = x := HXE.out
      rw [hpl] at s2
      obtain ⟨R8, hO8⟩ := HSET.out 2 (.bool false) { x with d := false } (by decide) (by rw [hpl]) (by rw [hpl]; simp [rbc])
      have HO8 := Lib.hid hO8
      rw [HD.out] at s2
      clear hOp7 HSET hO8 hpl HSV ho c0 c2 r1 r2
      have hid2 : x.id = id := HID.out
      cases hb2 : (st.bk.save id x.b).2 with
      | true =>
        have HE := Lib.hid (clean_yesR HIX.out (by rw [HXE.out]; exact HD.out) (by rw [HXE.out, hid2]; exact hb2))
        rw [HXE.out, hid2] at HE
        clear hb2 hid2
        go_wp2_with fail
        go_ret
        rw [HE.out]
        exact ⟨rfl, R8, HO8.out.close⟩
      | false =>
        have HE := Lib.hid (clean_noR HIX.out (by rw [HXE.out]; exact HD.out) (by rw [HXE.out, hid2]; exact hb2))
        rw [HXE.out, hid2] at HE
        clear hb2 hid2
        go_wp2_with fail
        go_ret
        rw [HE.out]
        exact ⟨rfl, R, HO7.out⟩
end Go.Proofs.Ytjmelhmjcbliaaa

namespace Go.Proofs.Ytjmelhmjcbliaaa
open Go Go.RowKit
set_option linter.unusedVariables false
set_option linter.unusedSimpArgs false
set_option linter.unusedSectionVars false
set_option maxRecDepth 100000
set_option linter.unusedSimpArgs false
set_option linter.unusedSectionVars false
set_option maxRecDepth 100000

/-- Where Put stands once the thing has a place. -/
structure PutAt (st st' : Po) (id : Int) (i : Nat) (A B Q : Nat) : Prop where
  il : i < st'.L.length
  w : WI A B Q st'
  p : ∀ b, st.put id b = (st'.turn i { st'.pl i with b := b, u := true, d := true }).room
theorem put_someR {st : Po} {id : Int} {i : Nat} (h : st.ix id = some i) (b : List UInt8) : st.put id b = (st.turn i { st.pl i with b := b, u := true, d := true }).room := by unfold Po.put; rw [h]
theorem put_noneR {st : Po} {id : Int} (h : st.ix id = none) (b : List UInt8) : st.put id b = ({ st with L := st.L ++ [⟨id, b, true, 0, true⟩] } : Po).room := by unfold Po.put; rw [h]
theorem slc_nil (w : World) : SlC w (.slice none 0 0) [] := .inl ⟨rfl, rfl⟩
theorem RpO.setB {w0 w : World} {p bb g n rc : Nat} {R : List Rb} {st : Po} {J : Res} [Stab J] {ao : Option Addr} {c : Nat} {b : List UInt8} (h : RpO w0 w p bb g n rc R st (Sep (Fix fun W => SlC W (.slice ao b.length c) b) J)) {i : Nat} (hi : i < n) (hb : b.length ≤ 140737488351232) :
    ∃ R', RpO w0 (w.setCell ⟨g, i * 5 + 1, none⟩ (.slice ao b.length c)) p bb g n rc R' (st.turn i { st.pl i with b := b }) J := by
  obtain ⟨hk, hn, hO⟩ := h
  subst hn
  obtain ⟨x, hx⟩ : ∃ x, R.getD i default = x := ⟨_, rfl⟩
  have hv : st.pl i = x.v := by unfold Po.pl; rw [rb_get hk hi, hx]
  have h1 := hO.rbSet hi (i := 1) (by decide) (.slice ao b.length c) ⟨ao, c, { x.v with b := b }⟩ (by rw [hx]; rfl)
  rw [hv]
  refine ⟨R.set i ⟨ao, c, { x.v with b := b }⟩, by rw [List.map_set, hk]; rfl, List.length_set, ?_⟩
  have h2 := ((h1.ac (by ac_rfl : _ = Sep (Fix (RbsOk R)) (Sep (Fix fun W => SlC W (.slice ao b.length c) b) (Sep (RowG 74 (.slice (some ⟨g, 0, none⟩) R.length rc) (R.set i ⟨ao, c, { x.v with b := b }⟩)) (Sep (Blk p (.cells #[ptr bb, .int .i64 (st.most : Int), .slice (some ⟨g, 0, none⟩) R.length rc, .int .i64 (st.hand : Int)] 33)) (Sep (BkR bb st.bk) J)))))).fix2).fixI (Q := RbsOk (R.set i ⟨ao, c, { x.v with b := b }⟩)) (fun W hW z hz => by
    rcases List.mem_or_eq_of_mem_set hz with hz | rfl
    · exact hW.1 z hz
    · exact ⟨hW.2, hb⟩)
  exact h2.ac (by ac_rfl)
set_option maxHeartbeats 8000000 in
theorem rput_any {w0 w : World} {p bb : Nat} {R : List Rb} {st : Po} {J : Res} [Stab J] (h : Own w0 w (Sep (RpR p bb R st) J)) {A B Q : Nat} (hW : WI A B Q st) (hA : A ≤ 800000000) (hB : B ≤ 800000000) (hQ : Q ≤ 800000000) (id : Int) (h0 : 0 ≤ id) (h1 : id < 18446744073709551616) (v : Value) (b : List UInt8) (hv : SlC w0 v b) (hvl : b.length ≤ 140737488351232) :
    Calls Try.prog 15 #[ptr p, .int .u64 id, v] w (fun e w' => e = .returned (.tuple #[]) ∧ ∃ R', Own w0 w' (Sep (RpR p bb R' (st.put id b)) J)) := by
  obtain ⟨vo, vc, rfl⟩ := hv.shape
  have HV := Lib.hid hv
  have HVL := Lib.hid hvl
  obtain ⟨bl, hbl⟩ : ∃ l, b.length = l := ⟨_, rfl⟩
  have HBL := Lib.hid hbl
  rw [hbl]
  have hl : R.length ≤ 1000000000 := by have := h.rpLen.2; have := hW.a; omega
  have hat := rpat_any h id hl
  have HAT := Lib.hid hat
  obtain ⟨ix, hix⟩ : ∃ x, ixI st id = x := ⟨_, rfl⟩
  rw [hix] at HAT
  have HO := Lib.hid h
  have HW := Lib.hid hW
  have HIX := Lib.hid hix
  have HR01 := Lib.hid (And.intro h0 h1)
  clear h hW hat hix hv hvl h0 h1 hbl
  go_enter Try.func15, Try.ntmps15
  go_upto_if 11 with (go_at_call 37; refine HAT.out.mono ?_; rintro e w2 ⟨rfl, rfl⟩)
  obtain ⟨tb, htb⟩ : ∃ q : Bool, decide (ix < 0) = q := ⟨_, rfl⟩
  rw [htb]
  have HTB := Lib.hid htb
  clear htb
  go_cut [6] (fun u wx => ∃ (i : Nat) (st' : Po) (R' : List Rb), u = .int .i64 (i : Int) ∧ Hid (PutAt st st' id i (A + 1) (B + 1) Q) ∧ Hid (Own w0 wx (Sep (RpR p bb R' st') J)))
  case first =>
    cases hx : st.ix id with
    | some i =>
      have hi : ix = (i : Int) := by rw [← HIX.out]; unfold ixI; rw [hx]
      subst hi
      have htt : tb = false := by rw [← HTB.out]; simp
      clear HTB
      subst htt
      have HP : Hid (PutAt st st id i (A + 1) (B + 1) Q) := Lib.hid ⟨(Po.ix_pl hx).1, HW.out.le (Nat.le_succ _) (Nat.le_succ _) (Nat.le_refl _), put_someR hx⟩
      clear hx
      go_wp2_with fail
      go_meet
      case rel => exact ⟨i, st, R, rfl, HP, HO⟩
    | none =>
      have hi : ix = -1 := by rw [← HIX.out]; unfold ixI; rw [hx]
      subst hi
      have htt : tb = true := by rw [← HTB.out]; rfl
      clear HTB
      subst htt
      obtain ⟨ro, rc, hk, hO⟩ := HO.out.openRp
      have HK := Lib.hid hk
      have HX := Lib.hid hx
      obtain ⟨n, hn⟩ : ∃ n, R.length = n := ⟨_, rfl⟩
      have HN := Lib.hid hn
      unfold rpc at hO
      rw [hn] at hO hl
      have HO3 : Hid (Own w0 _ (Sep (RowG 74 (.slice ro n rc) R) (Sep (Blk p (.cells #[ptr bb, .int .i64 (st.most : Int), .slice ro n rc, .int .i64 (st.hand : Int)] 33)) (Sep (Fix (RbsOk R)) (Sep (BkR bb st.bk) J))))) := Lib.hid hO.swap
      clear hk hx hn hO HO
      obtain ⟨⟨c0, c1, c2, c3⟩, f0, f1, f2, f3⟩ := HO3.out.swap.blk4c
      go_wp2_with (at_builtin; refine own_appendG elRb HO3.out ⟨none, 0, ⟨id, [], false, 0, false⟩⟩ 1 (by rw [HN.out]; omega) (by rw [HN.out]; omega) rfl _ _ rfl (by first | rfl | simp [Act.eval]) #[.int .u64 id, .slice none 0 0, .bool false, .int .i64 0, .bool false] rfl (by first | rfl | simp [Act.eval]) ?_)
      intro g3 cap3 n3 w8 hn3 hown
      have hn4 : n3 = n + 1 := by have h1 := hn3.out; rw [← HN.out]; (try simp only [List.length_append, List.length_singleton] at h1); omega
      have HN4 := Lib.hid hn4
      have hn4I : (n3 : Int) - 1 = (n : Int) := by omega
      have hn1 : 1 ≤ n3 := by omega
      clear hn4
      have HN3 := Lib.hid hn3.out
      have HO4 := Lib.hid hown.out.swap
      clear hn3 hown HO3 c0 c1 c2 c3 f0 f1 f2 f3
      obtain ⟨⟨c0, c1, c2, c3⟩, f0, f1, f2, f3⟩ := HO4.out.blk4c
      go_upto_region 3 with fail
      have h5 : Own w0 (w8.setCell ⟨p, 2, none⟩ (.slice (some ⟨g3, 0, none⟩) n3 cap3)) (Sep (Blk p (.cells #[ptr bb, .int .i64 (st.most : Int), .slice (some ⟨g3, 0, none⟩) n3 cap3, .int .i64 (st.hand : Int)] 33)) (Sep (RowG 74 (.slice (some ⟨g3, 0, none⟩) n3 cap3) (R ++ [(⟨none, 0, ⟨id, [], false, 0, false⟩⟩ : Rb)])) (Sep (Fix (RbsOk R)) (Sep (BkR bb st.bk) J)))) := HO4.out.store 2 _
      have HO5 := Lib.hid h5
      clear HO4 h5 c0 c1 c2 c3 f0 f1 f2 f3
      generalize World.setCell w8 _ _ = w9 at *
      obtain ⟨⟨c0, c1, c2, c3⟩, f0, f1, f2, f3⟩ := HO5.out.blk4c
      go_wp2_with fail
      go_meet
      case rel =>
        have hlen : (R ++ [(⟨none, 0, ⟨id, [], false, 0, false⟩⟩ : Rb)]).length = n3 := by rw [List.length_append, HN4.out, HN.out]; rfl
        have h6 := (HO5.out.ac (by ac_rfl : _ = Sep (Fix (RbsOk R)) (Sep (Blk p (.cells #[ptr bb, .int .i64 (st.most : Int), .slice (some ⟨g3, 0, none⟩) n3 cap3, .int .i64 (st.hand : Int)] 33)) (Sep (RowG 74 (.slice (some ⟨g3, 0, none⟩) n3 cap3) (R ++ [(⟨none, 0, ⟨id, [], false, 0, false⟩⟩ : Rb)])) (Sep (BkR bb st.bk) J))))).fixI (Q := RbsOk (R ++ [(⟨none, 0, ⟨id, [], false, 0, false⟩⟩ : Rb)])) (fun W hW y hy => by
          rcases List.mem_append.1 hy with hy | hy
          · exact hW y hy
          · simp only [List.mem_singleton] at hy
            subst hy
            exact ⟨slc_nil W, Nat.zero_le _⟩)
        have hO6 : Own w0 w9 (Sep (RpR p bb (R ++ [(⟨none, 0, ⟨id, [], false, 0, false⟩⟩ : Rb)]) { st with L := st.L ++ [⟨id, [], false, 0, false⟩] }) J) := Own.shutRp (ro := some ⟨g3, 0, none⟩) (rc := cap3) (by rw [List.map_append, HK.out]; rfl) (by
          unfold rpc
          rw [hlen]
          exact h6.ac (by ac_rfl))
        have hnL : st.L.length = n := by rw [← rb_len HK.out]; exact HN.out
        refine ⟨n, _, _, by first | rfl | (congr 1; done), Lib.hid ⟨?_, ?_, fun b => ?_⟩, Lib.hid hO6⟩
        · show n < (st.L ++ [_]).length
          rw [List.length_append, List.length_singleton]; omega
        · exact HW.out.push (x := ⟨id, [], false, 0, false⟩) (bk := st.bk) (q := 0) (ixOf_none HX.out) HR01.out (Nat.zero_le _) (Nat.le_refl _) rfl
        · rw [put_noneR HX.out, ← hnL]
          have e1 : Po.pl { st with L := st.L ++ [⟨id, [], false, 0, false⟩] } st.L.length = ⟨id, [], false, 0, false⟩ := pl_push (bk := st.bk)
          rw [e1]
          have e2 := turn_push (st := st) (bk := st.bk) (x := ⟨id, [], false, 0, false⟩) (y := ⟨id, b, true, 0, true⟩)
          exact congrArg Po.room e2.symm
  case rest =>
    obtain ⟨i, st', R1, hi, HP, HO1⟩ := hcut
    subst hi
    clear HO HTB HAT HIX hl
    obtain ⟨wx, hwx⟩ : ∃ W, W = wc := ⟨wc, rfl⟩
    subst hwx
    have hil := HP.out.il
    obtain ⟨g, n, rc, hn, hOp⟩ := HO1.out.rpO (by omega)
    have hin : i < n := by omega
    have hinI : (i : Int) < (n : Int) := by omega
    have hi0 : (0 : Int) ≤ (i : Int) := by omega
    obtain ⟨c0, c2⟩ := hOp.pool
    have hOd := hOp.quiet ((Only.refl _ wx).drew)
    have hsl : SlC wx.drew (.slice vo b.length vc) b := HV.out.keep hOd.2.2.only
    have hcopy := raw_copy (.slice vo b.length vc) b wx.drew hsl (by have := HVL.out; omega)
    rw [HBL.out] at hcopy
    have HC := Lib.hid hcopy
    have HOD := Lib.hid hOd
    have HN := Lib.hid hn
    clear hOp hOd hsl hcopy hil HO1 hn
    go_upto_region 4 with fail
    refine anyG.start (fun w' => w'.cell? ⟨p, 2, none⟩ = some (.slice (some ⟨g, 0, none⟩) n rc)) [9] (by kernel_rfl) ?_ (fun hHeld => ?_)
    · exact (HOD.out.pool).2
    refine anyG.take [] (i := 0) (oi := ?_) (v := ?_) ?_ (by kernel_rfl) (by kernel_rfl) (by kernel_rfl) (by kernel_rfl) (by kernel_rfl) (by kernel_rfl) ?_ (Or.inl ⟨?_, ?_⟩) (by assumption) ?_
    rotate_left 2
    · (simp only [List.getElem?_toArray, List.getElem?_cons_zero]; rfl)
    · exact fun _ _ _ h => h
    · rfl
    · (intro w hSw; (try dsimp only at hSw); go_simp <;> with_reducible rfl)
    (try simp only [Act.put, List.setIfInBounds_toArray, List.set_cons_zero, List.set_cons_succ])
    refine anyG.take [] (i := 1) (oi := ?_) (v := ?_) ?_ (by kernel_rfl) (by kernel_rfl) (by kernel_rfl) (by kernel_rfl) (by kernel_rfl) (by kernel_rfl) ?_ (Or.inl ⟨?_, ?_⟩) (by assumption) ?_
    rotate_left 2
    · (simp only [List.getElem?_toArray, List.getElem?_cons_succ, List.getElem?_cons_zero]; rfl)
    · exact fun _ _ _ h => h
    · rfl
    · (intro w hSw; (try dsimp only at hSw); go_simp <;> with_reducible rfl)
    (try simp only [Act.put, List.setIfInBounds_toArray, List.set_cons_zero, List.set_cons_succ])
    refine anyG.take [] (i := 2) (oi := ?_) (v := ?_) ?_ (by kernel_rfl) (by kernel_rfl) (by kernel_rfl) (by kernel_rfl) (by kernel_rfl) (by kernel_rfl) ?_ (Or.inl ⟨?_, ?_⟩) (by assumption) ?_
    rotate_left 2
    · (simp only [List.getElem?_toArray, List.getElem?_cons_succ, List.getElem?_cons_zero]; rfl)
    · exact fun _ _ _ h => h
    · rfl
    · (intro w hSw; (try dsimp only at hSw); go_simp <;> with_reducible rfl)
    (try simp only [Act.put, List.setIfInBounds_toArray, List.set_cons_zero, List.set_cons_succ])
    refine anyG.take [] (i := 3) (oi := ?_) (v := ?_) ?_ (by kernel_rfl) (by kernel_rfl) (by kernel_rfl) (by kernel_rfl) (by kernel_rfl) (by kernel_rfl) ?_ (Or.inl ⟨?_, ?_⟩) (by assumption) ?_
    rotate_left 2
    · (simp only [List.getElem?_toArray, List.getElem?_cons_succ, List.getElem?_cons_zero]; rfl)
    · exact fun _ _ _ h => h
    · rfl
    · (intro w hSw; (try dsimp only at hSw); go_simp <;> with_reducible rfl)
    (try simp only [Act.put, List.setIfInBounds_toArray, List.set_cons_zero, List.set_cons_succ])
    refine anyG.take [] (i := 4) (oi := ?_) (v := ?_) ?_ (by kernel_rfl) (by kernel_rfl) (by kernel_rfl) (by kernel_rfl) (by kernel_rfl) (by kernel_rfl) ?_ (Or.inl ⟨?_, ?_⟩) (by assumption) ?_
    rotate_left 2
    · (simp only [List.getElem?_toArray, List.getElem?_cons_succ, List.getElem?_cons_zero]; rfl)
    · exact fun _ _ _ h => h
    · rfl
    · (intro w hSw; (try dsimp only at hSw); go_simp <;> with_reducible rfl)
    (try simp only [Act.put, List.setIfInBounds_toArray, List.set_cons_zero, List.set_cons_succ])
    refine anyG.take [] (i := 5) (oi := ?_) (v := ?_) ?_ (by kernel_rfl) (by kernel_rfl) (by kernel_rfl) (by kernel_rfl) (by kernel_rfl) (by kernel_rfl) ?_ (Or.inl ⟨?_, ?_⟩) (by assumption) ?_
    rotate_left 2
    · (simp only [List.getElem?_toArray, List.getElem?_cons_succ, List.getElem?_cons_zero]; rfl)
    · exact fun _ _ _ h => h
    · rfl
    · (intro w hSw; (try dsimp only at hSw); go_simp <;> with_reducible rfl)
    (try simp only [Act.put, List.setIfInBounds_toArray, List.set_cons_zero, List.set_cons_succ])
    refine anyG.ready (rs := [6]) (by kernel_rfl) (by simp) (AllG.early (o := ?o6_1) ?h6_1 (fun K hK => ?s6_1) AllG.nil)
    case h6_1 => (simp only [List.getElem?_toArray, List.getElem?_cons_succ, List.getElem?_cons_zero]; rfl)
    case' s6_1 =>
      (go_simp; refine HC.out.mono ?_; rintro e w5 ⟨v', rfl, hown, ho⟩; rw [← HBL.out] at hown; obtain ⟨ao5, c5, rfl, hown2⟩ := HOD.out.2.2.bytesFix ho hown; have hO5 : RpO w0 w5 p bb g n rc R1 st' (Sep (Fix fun W => SlC W (.slice ao5 b.length c5) b) J) := ⟨HOD.out.1, HOD.out.2.1, hown2.ac (by ac_rfl)⟩; obtain ⟨d0, d2⟩ := hO5.pool; obtain ⟨_, _, _, r1, _, _, _, _, _, f1, _, _, _, _, _⟩ := hO5.at hin; obtain ⟨R6, hO6⟩ := hO5.setB hin HVL.out; rw [HBL.out] at hO6; have HO6 := Lib.hid hO6; rw [HBL.out]; clear HC HOD hown ho hown2 hO5 hO6 c0 c2 d0)
      refine hK.out _ _ ?_ (fun hHeld => ?_)
      · exact d2
      clear hK K
      (try simp only [Act.put, List.setIfInBounds_toArray, List.set_cons_zero, List.set_cons_succ])
      refine anyG.take2 [8] (i := 7) (oi := ?_) (v := ?_) ?_ (by kernel_rfl) (by kernel_rfl) (by kernel_rfl) (by kernel_rfl) (by kernel_rfl) (by kernel_rfl) ?_ (Or.inl ⟨?_, ?_⟩) (by assumption) ?_
      rotate_left 2
      · (simp only [List.getElem?_toArray, List.getElem?_cons_succ, List.getElem?_cons_zero]; rfl)
      · exact fun _ _ _ h => h
      · rfl
      · (intro w hSw; (try dsimp only at hSw); go_simp <;> with_reducible rfl)
      (try simp only [Act.put, List.setIfInBounds_toArray, List.set_cons_zero, List.set_cons_succ])
      refine anyG.take [] (i := 8) (oi := ?_) (v := ?_) ?_ (by kernel_rfl) (by kernel_rfl) (by kernel_rfl) (by kernel_rfl) (by kernel_rfl) (by kernel_rfl) ?_ (Or.inl ⟨?_, ?_⟩) (by assumption) ?_
      rotate_left 2
      · (simp only [List.getElem?_toArray, List.getElem?_cons_succ, List.getElem?_cons_zero]; rfl)
      · exact fun _ _ _ h => h
      · rfl
      · (intro w hSw; (try dsimp only at hSw); go_simp <;> with_reducible rfl)
      (try simp only [Act.put, List.setIfInBounds_toArray, List.set_cons_zero, List.set_cons_succ])
      refine anyG.ready (rs := [9]) (by kernel_rfl) (by simp) (AllG.late (o := ?o9_2) ?h9_2 (by kernel_rfl) (of_decide_eq_true (by kernel_rfl)) (fun K hK => ?s9_2) AllG.nil)
      case h9_2 => (simp only [List.getElem?_toArray, List.getElem?_cons_succ, List.getElem?_cons_zero]; rfl)
      case' s9_2 =>
        go_simp
        refine hK.out _ _ ?_
        clear hK K
        (try simp only [Act.put, List.setIfInBounds_toArray, List.set_cons_zero, List.set_cons_succ])
        refine anyG.done (by kernel_rfl) ?_
    generalize World.setCell w5 _ _ = w6 at *
    clear r1 f1 d2
    have hil6 : i < (st'.turn i { st'.pl i with b := b }).L.length := by rw [HO6.out.len]; exact hin
    have hp6 := turn_pl (show i < st'.L.length by rw [← HN.out]; exact hin) { st'.pl i with b := b }
    obtain ⟨d0, d2⟩ := HO6.out.pool
    obtain ⟨_, _, _, _, _, _, r4, _, _, _, _, _, f4, _, HSET⟩ := HO6.out.at hin
    obtain ⟨R7, hO7⟩ := HSET.out 4 (.bool true) { st'.pl i with b := b, u := true } (by decide) (by rw [hp6]) (by rw [hp6]; simp [rbc])
    rw [turn_turn] at hO7
    have HO7 := Lib.hid hO7
    clear HSET hO7 HO6 hp6 hil6
    go_upto_region 6 with fail
    generalize World.setCell w6 _ _ = w7 at *
    clear d0 d2 r4 f4
    have hp7 := turn_pl (show i < st'.L.length by rw [← HN.out]; exact hin) { st'.pl i with b := b, u := true }
    obtain ⟨d0, d2⟩ := HO7.out.pool
    obtain ⟨_, _, _, _, r2, _, _, _, _, _, f2, _, _, _, HSET⟩ := HO7.out.at hin
    obtain ⟨R8, hO8⟩ := HSET.out 2 (.bool true) { st'.pl i with b := b, u := true, d := true } (by decide) (by rw [hp7]) (by rw [hp7]; simp [rbc])
    rw [turn_turn] at hO8
    have HO8 := Lib.hid hO8
    clear HSET hO8 HO7 hp7
    go_upto_region 7 with fail
    generalize World.setCell w7 _ _ = w8 at *
    clear d0 d2 r2 f2
    have HW8 := Lib.hid (HP.out.w.turn (i := i) (x := { st'.pl i with b := b, u := true, d := true }) HP.out.il rfl (Nat.le_refl _) (pl_p HP.out.w HP.out.il))
    have HR := Lib.hid (rproom_any HO8.out.close HW8.out (by omega) (by omega))
    go_wp2_with fail
    refine HR.out.mono ?_
    rintro e w9 ⟨rfl, R9, hO9⟩
    have HO9 := Lib.hid hO9
    clear HR hO9
    go_wp2_with fail
    (first | go_end0 | refine ⟨rfl, _, results_none rfl _ _ _, ?_⟩)
    exact ⟨rfl, R9, by rw [HP.out.p]; exact HO9.out⟩
end Go.Proofs.Ytjmelhmjcbliaaa
