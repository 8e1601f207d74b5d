/-
  The reference's pool (granaryref13) as a part of memory, over the same plain lists; where a number stands.
-/
import Derived.Test.YtjmelhmjcbliaaaPoDrop
namespace Go.Proofs.Ytjmelhmjcbliaaa
open Go Go.RowKit
set_option linter.unusedVariables false
set_option linter.unusedSimpArgs false
set_option maxRecDepth 100000

/-- A place of the reference's row. -/
structure Rb where
  ao : Option Addr
  c : Nat
  v : Pl
instance : Inhabited Rb := ⟨⟨none, 0, default⟩⟩
abbrev rbc (x : Rb) : List Value := [.int .u64 x.v.id, .slice x.ao x.v.b.length x.c, .bool x.v.d, .int .i64 (x.v.p : Int), .bool x.v.u]
instance : Cel Rb := ⟨5, rbc, fun _ => rfl, fun a u h => by
  simp only [rbc, List.mem_cons, List.not_mem_nil, or_false] at h
  rcases h with rfl | rfl | rfl | rfl | rfl <;> rfl, by decide⟩
def RbsOk (l : List Rb) (w : World) : Prop := ∀ x ∈ l, SlC w (.slice x.ao x.v.b.length x.c) x.v.b ∧ x.v.b.length ≤ 140737488351232
abbrev rpc (bb : Nat) (ro : Option Addr) (rc : Nat) (R : List Rb) (st : Po) : Array Value := #[ptr bb, .int .i64 (st.most : Int), .slice ro R.length rc, .int .i64 (st.hand : Int)]
def RpS (p bb : Nat) (ro : Option Addr) (rc : Nat) (R : List Rb) (st : Po) : Res := Sep (Blk p (.cells (rpc bb ro rc R st) 33)) (Sep (RowG 74 (.slice ro R.length rc) R) (Sep (Fix (RbsOk R)) (BkR bb st.bk)))
instance {p bb : Nat} {ro : Option Addr} {rc : Nat} {R : List Rb} {st : Po} : Stab (RpS p bb ro rc R st) := by unfold RpS; infer_instance
/-- The reference's pool in memory. -/
def RpR (p bb : Nat) (R : List Rb) (st : Po) : Res := ExR fun ro => ExR fun rc => AndR (R.map (·.v) = st.L) (RpS p bb ro rc R st)
instance {p bb : Nat} {R : List Rb} {st : Po} : Stab (RpR p bb R st) := by unfold RpR; infer_instance
theorem Own.openRp {w0 w : World} {p bb : Nat} {R : List Rb} {st : Po} {J : Res} (h : Own w0 w (Sep (RpR p bb R st) J)) : ∃ ro rc, R.map (·.v) = st.L ∧
    Own w0 w (Sep (Blk p (.cells (rpc bb ro rc R st) 33)) (Sep (RowG 74 (.slice ro R.length rc) R) (Sep (Fix (RbsOk R)) (Sep (BkR bb st.bk) J)))) := by
  unfold RpR at h
  obtain ⟨ro, h⟩ := h.exR
  obtain ⟨rc, h⟩ := h.exR
  obtain ⟨hk, h⟩ := h.andR
  unfold RpS at h
  exact ⟨ro, rc, hk, h.ac (by ac_rfl)⟩
theorem Own.shutRp {w0 w : World} {p bb : Nat} {ro : Option Addr} {rc : Nat} {R : List Rb} {st : Po} {J : Res} (hk : R.map (·.v) = st.L)
    (h : Own w0 w (Sep (Blk p (.cells (rpc bb ro rc R st) 33)) (Sep (RowG 74 (.slice ro R.length rc) R) (Sep (Fix (RbsOk R)) (Sep (BkR bb st.bk) J))))) : Own w0 w (Sep (RpR p bb R st) J) := by
  unfold RpR
  refine Own.exI ro (Own.exI rc (Own.andI hk ?_))
  unfold RpS
  exact h.ac (by ac_rfl)
theorem rb_len {R : List Rb} {st : Po} (h : R.map (·.v) = st.L) : R.length = st.L.length := by rw [← h, List.length_map]
theorem rb_ids {R : List Rb} {st : Po} (h : R.map (·.v) = st.L) : st.ids = R.map (·.v.id) := by
  unfold Po.ids
  rw [← h, List.map_map]
  rfl
/-- What is read of a place. -/
theorem Own.rbCell {w0 w : World} {ro : Option Addr} {rc : Nat} {R : List Rb} {J : Res} (h : Own w0 w (Sep (RowG 74 (.slice ro R.length rc) R) J)) {j : Nat} (hj : j < R.length) : ∃ g, ro = some ⟨g, 0, none⟩ ∧
    w.cell? ⟨g, j * 5, none⟩ = some (.int .u64 (R.getD j default).v.id) ∧ w.cell? ⟨g, j * 5 + 1, none⟩ = some (.slice (R.getD j default).ao (R.getD j default).v.b.length (R.getD j default).c) ∧ w.cell? ⟨g, j * 5 + 2, none⟩ = some (.bool (R.getD j default).v.d) ∧ w.cell? ⟨g, j * 5 + 3, none⟩ = some (.int .i64 ((R.getD j default).v.p : Int)) ∧ w.cell? ⟨g, j * 5 + 4, none⟩ = some (.bool (R.getD j default).v.u) := by
  obtain ⟨g, rfl⟩ := own_addr h (by omega)
  obtain ⟨g2, off, e2, e3⟩ := h.rowSlg j hj
  simp only [Option.some.injEq, Addr.mk.injEq, and_true] at e2
  obtain ⟨rfl, rfl⟩ := e2
  refine ⟨g, rfl, ?_, ?_, ?_, ?_, ?_⟩
  · have := e3 0 (by decide); rw [Nat.zero_add, Nat.add_zero] at this; exact this
  · have := e3 1 (by decide); rw [Nat.zero_add] at this; exact this
  · have := e3 2 (by decide); rw [Nat.zero_add] at this; exact this
  · have := e3 3 (by decide); rw [Nat.zero_add] at this; exact this
  · have := e3 4 (by decide); rw [Nat.zero_add] at this; exact this
def ixI (st : Po) (id : Int) : Int := match st.ix id with
  | some i => (i : Int)
  | none => -1
theorem ixI_at {st : Po} {id : Int} {R : List Rb} (hk : R.map (·.v) = st.L) {j : Nat} (hj : j < R.length) (he : (R.getD j default).v.id = id) (hb : ∀ i, i < j → (R.getD i default).v.id ≠ id) : ixI st id = (j : Int) := by
  have hg : ∀ i, i < R.length → (R.map (·.v.id))[i]? = some (R.getD i default).v.id := fun i hi => by
    rw [List.getElem?_map, List.getD_eq_getElem?_getD, List.getElem?_eq_getElem hi]
    rfl
  have hm : id ∈ st.ids := by
    rw [rb_ids hk]
    have := hg j hj
    rw [he] at this
    exact List.mem_of_getElem? this
  obtain ⟨i, hi⟩ := ixOf_mem hm
  obtain ⟨h1, h2, h3⟩ := ixOf_some hi
  rw [rb_ids hk] at h1 h2 h3
  rw [List.length_map] at h1
  have hij : i = j := by
    rcases Nat.lt_trichotomy i j with h | h | h
    · have := hg i h1
      rw [h2] at this
      exact absurd (by simpa using this.symm) (hb i h)
    · exact h
    · have := hg j hj
      rw [he] at this
      exact absurd this (h3 j h)
  have hx : st.ix id = some i := hi
  unfold ixI
  rw [hx, hij]
theorem ixI_no {st : Po} {id : Int} {R : List Rb} (hk : R.map (·.v) = st.L) (hb : ∀ i, i < R.length → (R.getD i default).v.id ≠ id) : ixI st id = -1 := by
  cases hx : st.ix id with
  | none => unfold ixI; rw [hx]
  | some i =>
    have h2 : ixOf id st.ids = some i := hx
    obtain ⟨h1, h3, _⟩ := ixOf_some h2
    rw [rb_ids hk] at h1 h3
    rw [List.length_map] at h1
    rw [List.getElem?_map, List.getElem?_eq_getElem h1] at h3
    have h4 := hb i h1
    rw [List.getD_eq_getElem?_getD, List.getElem?_eq_getElem h1] at h4
    exact absurd (by simpa using h3) h4
set_option maxHeartbeats 4000000 in
theorem rpat_any {w0 w : World} {p bb : Nat} {R : List Rb} {st : Po} {J : Res} [Stab J] (h : Own w0 w (Sep (RpR p bb R st) J)) (id : Int) (hl : R.length ≤ 1000000000) :
    Calls Try.prog 37 #[ptr p, .int .u64 id] w (fun e w' => e = .returned (.int .i64 (ixI st id)) ∧ w = w') := by
  obtain ⟨ro, rc, hk, hO⟩ := h.openRp
  have HK := Lib.hid hk
  have HO := Lib.hid hO
  obtain ⟨n, hn⟩ : ∃ n, R.length = n := ⟨_, rfl⟩
  have HN := Lib.hid hn
  unfold rpc at hO
  rw [hn] at hO hl
  have c2 := hO.blk4c.1.2.2.1
  clear h hk hO hn
  go_enter Try.func37, Try.ntmps37
  go_wp2_with fail
  go_loopw [5] (fun v wr => ∃ j : Nat, j ≤ n ∧ v = .int .i64 (j : Int) ∧ Hid (∀ i, i < j → (R.getD i default).v.id ≠ id) ∧ w = wr) (fun v _ => n - (intOf v).toNat)
  case atStart => exact ⟨0, Nat.zero_le _, rfl, Lib.hid (fun i hi => absurd hi (Nat.not_lt_zero _)), by trivial⟩
  case round =>
    obtain ⟨j, hj, rfl, HB, rfl⟩ := hrel
    by_cases hlt : j < n
    · have hltI : (j : Int) < (n : Int) := by omega
      have hj0 : (0 : Int) ≤ (j : Int) := by omega
      obtain ⟨g, rfl, r0, _⟩ := HO.out.snd.rbCell (j := j) (by rw [HN.out]; exact hlt)
      obtain ⟨y, hy⟩ : ∃ y, (R.getD j default).v.id = y := ⟨_, rfl⟩
      rw [hy] at r0
      have HY := Lib.hid hy
      by_cases hyi : y = id
      · subst hyi
        have HR := Lib.hid (ixI_at HK.out (by rw [HN.out]; exact hlt) hy HB.out)
        clear hy
        go_wp2_with fail
        go_ret
        exact ⟨by rw [HR.out]; rfl, by trivial⟩
      · have HNE := Lib.hid hyi
        clear hy
        go_wp2_with fail
        go_roundw
        case rel =>
          refine ⟨j + 1, by omega, by go_num, Lib.hid (fun i hi => ?_), by trivial⟩
          by_cases e : i = j
          · subst e; rw [HY.out]; exact HNE.out
          · exact HB.out i (by omega)
        case measure => simp [intOf]; omega
    · obtain rfl : j = n := by omega
      have HR := Lib.hid (ixI_no HK.out (by rw [HN.out]; exact HB.out))
      go_wp2_with fail
      go_ret
      exact ⟨by rw [HR.out]; rfl, by trivial⟩

end Go.Proofs.Ytjmelhmjcbliaaa
