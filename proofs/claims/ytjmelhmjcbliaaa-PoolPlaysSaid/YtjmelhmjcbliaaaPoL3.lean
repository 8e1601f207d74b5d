/-
  Package pool's calls, where nothing is dirty: for the statement PoolPins.
-/
import Derived.Test.YtjmelhmjcbliaaaPoPi
namespace Go.Proofs.Ytjmelhmjcbliaaa
open Go Go.RowKit
set_option linter.unusedVariables false
set_option linter.unusedSimpArgs false
set_option maxRecDepth 100000

def xmodN (m : Nat) (z : Int) : Nat := ((wrap64 (z.tmod m + m)).tmod m).toNat
theorem xmodN_spec (m : Nat) (h0 : 0 < m) (hm : m ≤ 1000) (z : Int) : xmodN m z < m ∧ (wrap64 (z.tmod m + m)).tmod m = (xmodN m z : Int) := by
  have h1 : -(m : Int) < z.tmod m ∧ z.tmod m < m := by
    have a := Int.tmod_lt_of_pos z (show (0 : Int) < m by omega)
    have b := Int.lt_tmod_of_pos z (show (0 : Int) < m by omega)
    exact ⟨by omega, a⟩
  have h2 : wrap64 (z.tmod m + m) = z.tmod m + m := IntWalk.wrap64_in _ ⟨by omega, by omega⟩
  unfold xmodN
  rw [h2]
  have h3 : 0 ≤ (z.tmod m + m).tmod m := Int.tmod_nonneg _ (by omega)
  have h4 : (z.tmod m + m).tmod m < m := Int.tmod_lt_of_pos _ (by omega)
  exact ⟨by omega, by omega⟩
/-- z % m + 1, as the laws write it. -/
theorem rem1 (m : Nat) (h0 : 0 < m) (hm : m ≤ 1000) (z : Int) : ∃ q a : Nat, (wrap64 (z.tmod m + m)).tmod m = (q : Int) ∧ wrap64 ((q : Int) + 1) = (a : Int) ∧ a = q + 1 ∧ q < m := by
  obtain ⟨h1, h2⟩ := xmodN_spec m h0 hm z
  refine ⟨xmodN m z, xmodN m z + 1, h2, ?_, rfl, h1⟩
  rw [IntWalk.wrap64_in _ ⟨by omega, by omega⟩]
  push_cast
  rfl
/-- A pool whose back has the six things, and of which nothing is dirty. -/
structure PnS (m K : Nat) (f : Int → Nat) (st : Po) : Prop where
  h : PinI st.bk m f st
  i : st.bk.ids = (bk0 6).ids
  q : st.bk.asked.length = K
  f10 : ∀ id, f id ≤ 10
  f3 : ∀ id, f id ≠ 0 → 1 ≤ id ∧ id ≤ 3
theorem six_load {b : Bk} (h : b.ids = (bk0 6).ids) {id : Int} (h1 : 1 ≤ id) (h6 : id ≤ 6) : ∃ x, (b.load id).2 = some x := by
  have hm : id ∈ b.ids := by
    rw [h]
    have : id = 1 ∨ id = 2 ∨ id = 3 ∨ id = 4 ∨ id = 5 ∨ id = 6 := by omega
    rcases this with rfl | rfl | rfl | rfl | rfl | rfl <;> decide
  obtain ⟨i, hi⟩ := ixOf_mem hm
  unfold Bk.load Bk.at
  rw [hi]
  exact ⟨_, rfl⟩
theorem PnS.b {m K : Nat} {f : Int → Nat} {st : Po} (h : PnS m K f st) (hK : K ≤ 1000) : PoB st := by
  have h1 := h.h.len
  have h2 := h.q
  have h3 : st.bk.ids.length = 6 := by rw [h.i]; rfl
  exact ⟨by omega, by omega⟩
theorem PinI.bk_eq {B : Bk} {m : Nat} {f : Int → Nat} {st : Po} (h : PinI B m f st) : PinI st.bk m f st := by rw [h.b]; exact h
section
variable {w0 w : World} {p bb : Nat} {L Z : List Pb} {st : Po} {J : Res} [Stab J] {m K : Nat} {f : Int → Nat}
theorem pins_pin (h : Own w0 w (Sep (PoR p bb L Z st) J)) (hs : PnS m K f st) (hK : K ≤ 1000) (a : Nat) (h1 : 1 ≤ a) (h3 : a ≤ 3) (hf : f a < 10) :
    Calls Try.prog 19 #[ptr p, .int .u64 (a : Int)] w fun e w' => e = .returned (.int .i64 0) ∧ ∃ L' Z' st' K', PnS m K' (fun j => if (a : Int) = j then f a + 1 else f j) st' ∧ K' ≤ K + 1 ∧ Own w0 w' (Sep (PoR p bb L' Z' st') J) := by
  refine (ppin_any h (a : Int) (by omega) (by omega) (hs.b hK) (hs.h.p_le (K := 1000000000) (fun id => Nat.le_trans (hs.f10 id) (by decide)))).mono ?_
  rintro e w' ⟨L', Z', rfl, ho⟩
  obtain ⟨e1, b, hI, hb⟩ := hs.h.pin (id := (a : Int)) (by omega) (by omega) (six_load hs.i (by omega) (by omega))
  refine ⟨by rw [e1]; rfl, L', Z', _, (st.pin a).1.bk.asked.length, ⟨hI.bk_eq, ?_, rfl, ?_, ?_⟩, ?_, ho⟩
  · rw [hI.b]
    rcases hb with rfl | ⟨rfl, _⟩
    · exact hs.i
    · rw [(Bk.load_len _ _).2]; exact hs.i
  · intro id
    split
    · omega
    · exact hs.f10 id
  · intro id
    split
    · intro _; omega
    · exact hs.f3 id
  · rw [hI.b, ← hs.q]
    rcases hb with rfl | ⟨rfl, _⟩
    · exact Nat.le_succ _
    · rw [(Bk.load_len _ _).1]; exact Nat.le_refl _
theorem pins_get (h : Own w0 w (Sep (PoR p bb L Z st) J)) (hs : PnS m K f st) (hK : K ≤ 1000) (a : Nat) (h1 : 1 ≤ a) (h3 : a ≤ 6) :
    Calls Try.prog 10 #[ptr p, .int .u64 (a : Int)] w fun e w' => ∃ v, e = .returned (.tuple #[v, .int .i64 0]) ∧ ∃ L' Z' st' K', PnS m K' f st' ∧ K' ≤ K + 1 ∧ (f a ≠ 0 → K' = K) ∧ Own w0 w' (Sep (PoR p bb L' Z' st') J) := by
  refine (pget_any h (a : Int) (by omega) (by omega) (hs.b hK)).mono ?_
  rintro e w' ⟨L', Z', hor⟩
  obtain ⟨⟨x, hx⟩, b, hI, hb⟩ := hs.h.get (id := (a : Int)) (by omega) (by omega) (six_load hs.i (by omega) (by omega))
  rcases hor with ⟨y, v, _, _, rfl, ho⟩ | ⟨hn, _, _⟩
  · refine ⟨v, rfl, L', Z', _, (st.get a).1.bk.asked.length, ⟨hI.bk_eq, ?_, rfl, hs.f10, hs.f3⟩, ?_, ?_, ho.snd⟩
    · rw [hI.b]
      rcases hb with rfl | ⟨rfl, _⟩
      · exact hs.i
      · rw [(Bk.load_len _ _).2]; exact hs.i
    · rw [hI.b, ← hs.q]
      rcases hb with rfl | ⟨rfl, _⟩
      · exact Nat.le_succ _
      · rw [(Bk.load_len _ _).1]; exact Nat.le_refl _
    · intro hf
      rw [hI.b, ← hs.q]
      rcases hb with rfl | ⟨_, h0⟩
      · rfl
      · exact absurd h0 hf
  · rw [hx] at hn
    cases hn
theorem pins_unpin_no (h : Own w0 w (Sep (PoR p bb L Z st) J)) (hs : PnS m K f st) (hK : K ≤ 1000) (a : Nat) (h3 : a ≤ 6) (hf : f a = 0) :
    Calls Try.prog 20 #[ptr p, .int .u64 (a : Int)] w fun e w' => e = .returned (.int .i64 5) ∧ ∃ L' Z', Own w0 w' (Sep (PoR p bb L' Z' st) J) := by
  refine (punpin_any h (a : Int) (by omega) (by omega) (hs.b hK) (hs.h.p_le (K := 1000000000) (fun id => Nat.le_trans (hs.f10 id) (by decide)))).mono ?_
  rintro e w' ⟨L', Z', rfl, ho⟩
  rw [hs.h.unpin_no hf] at ho ⊢
  exact ⟨rfl, L', Z', ho⟩
theorem pins_unpin (h : Own w0 w (Sep (PoR p bb L Z st) J)) (hs : PnS m K f st) (hK : K ≤ 1000) (a : Nat) (h3 : a ≤ 6) (hf : f a ≠ 0) :
    Calls Try.prog 20 #[ptr p, .int .u64 (a : Int)] w fun e w' => e = .returned (.int .i64 0) ∧ ∃ L' Z' st', PnS m K (fun j => if (a : Int) = j then f a - 1 else f j) st' ∧ Own w0 w' (Sep (PoR p bb L' Z' st') J) := by
  refine (punpin_any h (a : Int) (by omega) (by omega) (hs.b hK) (hs.h.p_le (K := 1000000000) (fun id => Nat.le_trans (hs.f10 id) (by decide)))).mono ?_
  rintro e w' ⟨L', Z', rfl, ho⟩
  obtain ⟨e1, hI⟩ := hs.h.unpin_yes hf
  refine ⟨by rw [e1]; rfl, L', Z', _, ⟨hI.bk_eq, by rw [hI.b]; exact hs.i, by rw [hI.b]; exact hs.q, ?_, ?_⟩, ho⟩
  · intro id
    split
    · have := hs.f10 a; omega
    · exact hs.f10 id
  · intro id
    split
    · rename_i e
      intro _
      rw [← e]
      exact hs.f3 _ hf
    · exact hs.f3 id
theorem pins_evict (h : Own w0 w (Sep (PoR p bb L Z st) J)) (hs : PnS m K f st) (hK : K ≤ 1000) :
    Calls Try.prog 22 #[ptr p] w fun e w' => ∃ a b, e = .returned (.tuple #[.int .u64 a, .int .i64 b]) ∧ ∃ L' Z' st', PnS m K f st' ∧ (st.L = [] → b = 5 ∧ st' = st) ∧ (st.L ≠ [] → (∀ id, f id = 0) → b = 0 ∧ st'.L.length + 1 = st.L.length) ∧ Own w0 w' (Sep (PoR p bb L' Z' st') J) := by
  refine (pevict_any h (hs.b hK)).mono ?_
  rintro e w' ⟨L', Z', rfl, ho⟩
  refine ⟨_, _, rfl, L', Z', st.evict.1, ?_, fun he => ?_, fun hne hf => ?_, ho⟩
  · unfold Po.evict
    split
    · exact hs
    · have hI := hs.h.goes.1
      exact ⟨hI.bk_eq, by rw [hI.b]; exact hs.i, by rw [hI.b]; exact hs.q, hs.f10, hs.f3⟩
  · unfold Po.evict
    rw [if_pos he]
    exact ⟨rfl, rfl⟩
  · unfold Po.evict
    rw [if_neg hne]
    have h0 : ∃ x ∈ st.L, x.p = 0 := by
      cases hL : st.L with
      | nil => exact absurd hL hne
      | cons x r => exact ⟨x, List.mem_cons_self, Nat.le_zero.1 (hs.h.p_le (K := 0) (fun id => Nat.le_of_eq (hf id)) x (by rw [hL]; exact List.mem_cons_self))⟩
    have hz := hs.h.goes.2 h0
    exact ⟨hz, (Po.goes_len st).2.2.2.2.1 hz⟩
end
/-- What is read of the back's questions. -/
theorem Own.askCell {w0 w : World} {p bb : Nat} {L Z : List Pb} {st : Po} {J : Res} (h : Own w0 w (Sep (PoR p bb L Z st) J)) : ∃ qo qc, w.cell? ⟨bb, 2, none⟩ = some (.slice qo st.bk.asked.length qc) ∧ w.frozen? ⟨bb, 2, none⟩ = false := by
  obtain ⟨mb, ro, rc, D, hm, hs, h1⟩ := h.openPo
  obtain ⟨hd, hs2, hk, h7⟩ := (h1.ac (by ac_rfl : _ = Sep (BkR bb st.bk) (Sep (Blk p (.cells (poc bb mb ro rc L st) 66)) (Sep (RowG 67 (.slice ro L.length rc) L) (Sep (MapR mb D) (Sep (PlsR (L ++ Z)) (Sep (Fix (BytesOk (L ++ Z))) J))))))).openBk
  exact ⟨hd.qo, hd.qc, h7.blk4c.1.2.2.1, h7.blk4c.2.2.2.1⟩
/-- The back's questions are forgotten. -/
theorem Own.askNil {w0 w : World} {p bb : Nat} {L Z : List Pb} {st : Po} {J : Res} [Stab J] (h : Own w0 w (Sep (PoR p bb L Z st) J)) : Own w0 (w.setCell ⟨bb, 2, none⟩ (.slice none 0 0)) (Sep (PoR p bb L Z { st with bk := { st.bk with asked := [] } }) J) := by
  obtain ⟨mb, ro, rc, D, hm, hs, h1⟩ := h.openPo
  obtain ⟨hd, hs2, hk, h7⟩ := (h1.ac (by ac_rfl : _ = Sep (BkR bb st.bk) (Sep (Blk p (.cells (poc bb mb ro rc L st) 66)) (Sep (RowG 67 (.slice ro L.length rc) L) (Sep (MapR mb D) (Sep (PlsR (L ++ Z)) (Sep (Fix (BytesOk (L ++ Z))) J))))))).openBk
  unfold bkc at h7
  have h8 := (h7.store 2 (.slice none 0 0)).rnil (α := Int) 34
  have h9 : Own w0 (w.setCell ⟨bb, 2, none⟩ (.slice none 0 0)) (Sep (RowG 34 (.slice hd.qo st.bk.asked.length hd.qc) st.bk.asked) (Sep (Blk bb (.cells #[.slice hd.io st.bk.ids.length hd.ic, .slice hd.ho st.bk.bs.length hd.hc, .slice none 0 0, .int .i64 st.bk.full] 51)) (Sep (RowG 34 (.slice hd.io st.bk.ids.length hd.ic) st.bk.ids) (Sep (RowG 35 (.slice hd.ho hs2.length hd.hc) hs2) (Sep (RowG 34 (.slice none 0 0) ([] : List Int)) (Sep (Fix (HdsOk hs2 st.bk.bs)) (Sep (Blk p (.cells (poc bb mb ro rc L st) 66)) (Sep (RowG 67 (.slice ro L.length rc) L) (Sep (MapR mb D) (Sep (PlsR (L ++ Z)) (Sep (Fix (BytesOk (L ++ Z))) J))))))))))) := h8.ac (by simp only [List.setIfInBounds_toArray, List.set_cons_zero, List.set_cons_succ]; ac_rfl)
  have h10 := Own.shutBk (b := { st.bk with asked := [] }) (hb := { hd with qo := none, qc := 0 }) (hs := hs2) ⟨hk.n, hk.m, hk.si, hk.sb, .inl ⟨rfl, rfl, rfl⟩, hk.f0, hk.f1⟩ h9.snd
  refine Own.shutPo (mb := mb) (ro := ro) (rc := rc) (D := D) (st := { st with bk := { st.bk with asked := [] } }) (hm.bk _) hs ?_
  exact h10.ac (by ac_rfl)
theorem PnS.askNil {m K : Nat} {f : Int → Nat} {st : Po} (h : PnS m K f st) : PnS m 0 f { st with bk := { st.bk with asked := [] } } :=
  ⟨⟨h.h.nd, h.h.p, h.h.d, h.h.r, rfl, h.h.m⟩, h.i, rfl, h.f10, h.f3⟩

end Go.Proofs.Ytjmelhmjcbliaaa
