/-
  The order of keys, and where a key goes among rising pivots (pure).
-/
import Derived.Test.YtookbmpaoljelaaNodeSt
namespace Go.Proofs.Ytookbmpaoljelaa
open Go Go.RowKit
set_option linter.unusedVariables false
set_option linter.unusedSimpArgs false
set_option maxRecDepth 100000

theorem less_irr : ∀ x : List UInt8, Op.bytesLess x x = false
  | [] => rfl
  | a :: x => by rw [Op.bytesLess, less_irr x]; simp
theorem u8_ways (a b : UInt8) : a < b ∨ a = b ∨ b < a := by
  rcases Nat.lt_trichotomy a.toNat b.toNat with h | h | h
  · exact .inl (UInt8.lt_iff_toNat_lt.2 h)
  · exact .inr (.inl (UInt8.toNat_inj.1 h))
  · exact .inr (.inr (UInt8.lt_iff_toNat_lt.2 h))
theorem u8_irr (a : UInt8) : ¬ a < a := fun h => by have := UInt8.lt_iff_toNat_lt.1 h; omega
theorem u8_asym {a b : UInt8} (h : a < b) : ¬ b < a := fun k => by have := UInt8.lt_iff_toNat_lt.1 h; have := UInt8.lt_iff_toNat_lt.1 k; omega
theorem less_trans : ∀ x y z : List UInt8, Op.bytesLess x y = true → Op.bytesLess y z = true → Op.bytesLess x z = true
  | _, [], z, h, _ => by cases ‹List UInt8› <;> simp [Op.bytesLess] at h
  | [], _ :: _, [], _, h => by simp [Op.bytesLess] at h
  | [], _ :: _, _ :: _, _, _ => rfl
  | _ :: _, _ :: _, [], _, h => by simp [Op.bytesLess] at h
  | a :: x, b :: y, c :: z, h, k => by
    rw [Op.bytesLess] at h k ⊢
    simp only [Bool.or_eq_true, Bool.and_eq_true, decide_eq_true_eq, beq_iff_eq] at h k ⊢
    rcases h with h | ⟨rfl, h⟩
    · rcases k with k | ⟨rfl, k⟩
      · left
        have := UInt8.lt_iff_toNat_lt.1 h
        have := UInt8.lt_iff_toNat_lt.1 k
        exact UInt8.lt_iff_toNat_lt.2 (by omega)
      · exact .inl h
    · rcases k with k | ⟨rfl, k⟩
      · exact .inl k
      · exact .inr ⟨rfl, less_trans x y z h k⟩
theorem less_total : ∀ x y : List UInt8, Op.bytesLess x y = true ∨ x = y ∨ Op.bytesLess y x = true
  | [], [] => .inr (.inl rfl)
  | [], _ :: _ => .inl rfl
  | _ :: _, [] => .inr (.inr rfl)
  | a :: x, b :: y => by
    rw [Op.bytesLess, Op.bytesLess]
    simp only [Bool.or_eq_true, Bool.and_eq_true, decide_eq_true_eq, beq_iff_eq]
    rcases u8_ways a b with h | rfl | h
    · exact .inl (.inl h)
    · rcases less_total x y with h | rfl | h
      · exact .inl (.inr ⟨rfl, h⟩)
      · exact .inr (.inl rfl)
      · exact .inr (.inr (.inr ⟨rfl, h⟩))
    · exact .inr (.inr (.inl h))
theorem blt_irr (a : ByteArray) : blt a a = false := less_irr _
theorem blt_trans {a b c : ByteArray} (h : blt a b = true) (k : blt b c = true) : blt a c = true := less_trans _ _ _ h k
theorem ble_not (a b : ByteArray) : ble a b = !blt b a := by
  unfold ble blt
  rcases less_total a.toList b.toList with h | h | h
  · have : Op.bytesLess b.toList a.toList = false := by
      rw [← Bool.not_eq_true]
      intro k
      have := less_trans _ _ _ h k
      rw [less_irr] at this
      cases this
    rw [h, this]; rfl
  · rw [h, less_irr]
    simp
  · have h1 : Op.bytesLess a.toList b.toList = false := by
      rw [← Bool.not_eq_true]
      intro k
      have := less_trans _ _ _ h k
      rw [less_irr] at this
      cases this
    have h2 : (a.toList == b.toList) = false := by
      rw [beq_eq_false_iff_ne]
      intro e
      rw [e, less_irr] at h
      cases h
    rw [h, h1, h2]; rfl
theorem ble_trans {a b c : ByteArray} (h : ble a b = true) (k : ble b c = true) : ble a c = true := by
  rw [ble_not] at h k ⊢
  rw [Bool.not_eq_true'] at h k ⊢
  rw [← Bool.not_eq_true]
  intro hca
  rcases less_total a.toList b.toList with h1 | h1 | h1
  · have := blt_trans (a := c) (b := a) (c := b) hca h1
    rw [k] at this
    cases this
  · have : blt c b = true := by unfold blt at hca ⊢; rw [← h1]; exact hca
    rw [k] at this
    cases this
  · have : blt b a = true := h1
    rw [h] at this
    cases this
theorem route_mono {ps : List ByteArray} {a b : ByteArray} (h : ble a b = true) : routeN ps a ≤ routeN ps b := by
  unfold routeN
  induction ps with
  | nil => exact Nat.le_refl _
  | cons p r ih =>
    by_cases hp : ble p a = true
    · rw [List.filter_cons_of_pos (p := fun p => ble p a) hp, List.filter_cons_of_pos (p := fun p => ble p b) (ble_trans hp h)]
      simpa using ih
    · rw [List.filter_cons_of_neg (p := fun p => ble p a) hp]
      by_cases hq : ble p b = true
      · rw [List.filter_cons_of_pos (p := fun p => ble p b) hq]
        exact Nat.le_succ_of_le ih
      · rw [List.filter_cons_of_neg (p := fun p => ble p b) hq]
        exact ih
theorem rise_lt {ps : List ByteArray} (h : riseB blt ps = true) : ∀ (j d : Nat), j + d + 1 < ps.length → blt (ps.getD j default) (ps.getD (j + d + 1) default) = true
  | j, 0, hl => (rise_iff blt ps).1 h j hl
  | j, d + 1, hl => by
    have h1 := rise_lt h j d (by omega)
    have h2 := (rise_iff blt ps).1 h (j + d + 1) (by omega)
    exact blt_trans h1 h2
theorem rise_le {ps : List ByteArray} (h : riseB blt ps = true) {i j : Nat} (hij : i ≤ j) (hj : j < ps.length) : ble (ps.getD i default) (ps.getD j default) = true := by
  rcases Nat.lt_or_ge i j with hlt | hge
  · have := rise_lt h i (j - i - 1) (by omega)
    rw [show i + (j - i - 1) + 1 = j by omega] at this
    unfold ble
    unfold blt at this
    rw [this]; rfl
  · obtain rfl : i = j := by omega
    unfold ble
    simp
theorem getD_take {l : List ByteArray} {i k : Nat} (h : i < k) : (l.take k).getD i default = l.getD i default := by
  simp [List.getD_eq_getElem?_getD, List.getElem?_take, h]
theorem getD_drop {l : List ByteArray} {i k : Nat} : (l.drop k).getD i default = l.getD (k + i) default := by
  simp [List.getD_eq_getElem?_getD, List.getElem?_drop]
theorem route_split (ps : List ByteArray) (a : ByteArray) (k : Nat) : routeN ps a = routeN (ps.take k) a + routeN (ps.drop k) a := by
  unfold routeN
  rw [← List.length_append, ← List.filter_append, List.take_append_drop]
theorem route_all {ps : List ByteArray} {a : ByteArray} (h : ∀ i, i < ps.length → ble (ps.getD i default) a = true) : routeN ps a = ps.length := by
  unfold routeN
  rw [List.filter_eq_self.2]
  intro p hp
  obtain ⟨i, hi, rfl⟩ := List.mem_iff_getElem.1 hp
  have := h i hi
  rwa [show ps.getD i default = ps[i] by simp [hi]] at this
theorem route_none {ps : List ByteArray} {a : ByteArray} (h : ∀ i, i < ps.length → ble (ps.getD i default) a = false) : routeN ps a = 0 := by
  unfold routeN
  rw [List.filter_eq_nil_iff.2]
  · rfl
  · intro p hp
    obtain ⟨i, hi, rfl⟩ := List.mem_iff_getElem.1 hp
    have := h i hi
    rw [show ps.getD i default = ps[i] by simp [hi]] at this
    rw [this]
    decide
theorem route_iff {ps : List ByteArray} (h : riseB blt ps = true) (a : ByteArray) {i : Nat} (hi : i < ps.length) : routeN ps a ≤ i ↔ blt a (ps.getD i default) = true := by
  constructor
  · intro hr
    rw [← Bool.not_eq_false]
    intro hb
    have hle : ble (ps.getD i default) a = true := by rw [ble_not, hb]; rfl
    have h1 : routeN (ps.take (i + 1)) a = (ps.take (i + 1)).length := route_all (fun j hj => by
      rw [List.length_take] at hj
      rw [getD_take (by omega)]
      exact ble_trans (rise_le h (by omega) hi) hle)
    have h2 := route_split ps a (i + 1)
    rw [h1, List.length_take] at h2
    omega
  · intro hb
    have h1 : routeN (ps.drop i) a = 0 := route_none (fun j hj => by
      rw [List.length_drop] at hj
      rw [getD_drop]
      cases hk : ble (ps.getD (i + j) default) a with
      | false => rfl
      | true =>
        have h3 := ble_trans (rise_le h (show i ≤ i + j by omega) (by omega)) hk
        rw [ble_not, hb] at h3
        cases h3)
    have h2 := route_split ps a i
    have h3 := route_le (ps.take i) a
    rw [List.length_take] at h3
    omega
theorem route_own {ps : List ByteArray} (h : riseB blt ps = true) {i : Nat} (hi : i < ps.length) : routeN ps (ps.getD i default) = i + 1 := by
  have h1 : ¬ routeN ps (ps.getD i default) ≤ i := fun e => by
    have := (route_iff h _ hi).1 e
    rw [blt_irr] at this
    cases this
  by_cases hl : i + 1 < ps.length
  · have := (route_iff h (ps.getD i default) hl).2 ((rise_iff blt ps).1 h i hl)
    omega
  · have := route_le ps (ps.getD i default)
    omega

end Go.Proofs.Ytookbmpaoljelaa
