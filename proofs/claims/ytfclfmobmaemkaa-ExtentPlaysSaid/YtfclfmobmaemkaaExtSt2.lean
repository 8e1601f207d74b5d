/-
  What Alloc, Take and Free make of the flags: how many are free behind them; the same elsewhere. Plain lists.
-/
import Derived.Test.YtfclfmobmaemkaaExt5
namespace Go.Proofs.Ytfclfmobmaemkaa
open Go Go.RowKit
set_option linter.unusedVariables false
set_option linter.unusedSimpArgs false
set_option maxRecDepth 100000

theorem seg_all {l : List Bool} {d n : Nat} (h : d + n ≤ l.length) {b : Bool} (hb : ¬ b ∈ (l.drop d).take n) : (l.drop d).take n = List.replicate n (!b) := by
  rw [List.eq_replicate_iff]
  refine ⟨by simp; omega, fun x hx => ?_⟩
  exact bool_other (fun e => hb (e ▸ hx))
theorem count_setL {l : List Bool} {d n : Nat} (h : d + n ≤ l.length) {b : Bool} (hb : ¬ b ∈ (l.drop d).take n) : (setL l d n b).count b = l.count b + n ∧ (setL l d n b).count (!b) + n = l.count (!b) := by
  have e : l = l.take d ++ ((l.drop d).take n ++ l.drop (d + n)) := by
    rw [← List.drop_drop, List.take_append_drop, List.take_append_drop]
  have h1 := seg_all h hb
  have c1 : l.count b = (l.take d).count b + (l.drop (d + n)).count b := by
    conv => lhs; rw [e]
    rw [List.count_append, List.count_append, h1, List.count_replicate]
    cases b <;> simp
  have c2 : l.count (!b) = (l.take d).count (!b) + (n + (l.drop (d + n)).count (!b)) := by
    conv => lhs; rw [e]
    rw [List.count_append, List.count_append, h1, List.count_replicate]
    simp
  rw [c1, c2]
  unfold setL
  simp only [List.count_append, List.count_replicate]
  cases b <;> simp <;> omega

theorem turn_seg {a : Nat} {l : List Bool} {start n : Int} {b : Bool} (h : turnE a l start n b = 0) :
    1 ≤ n ∧ (a : Int) ≤ start ∧ (start - a).toNat + n.toNat ≤ l.length ∧ ¬ b ∈ (l.drop (start - a).toNat).take n.toNat := by
  unfold turnE at h
  split at h
  · cases h
  · rename_i h1
    split at h
    · cases h
    · rename_i h2
      simp [hasB] at h1
      exact ⟨h1.1, h1.2.1, by omega, h2⟩
theorem turn_moved (l : List Bool) (start n : Int) (b : Bool) (y : Nat) : turnE y l (start + y) n b = turnE 0 l start n b ∧ turnL y l (start + y) n b = turnL 0 l start n b := by
  have e1 : start + (y : Int) - y = start := by omega
  have e2 : start - ((0 : Nat) : Int) = start := by simp
  have e3 : hasB y l.length (start + y) n = hasB 0 l.length start n := by
    unfold hasB
    rw [e1, e2]
    rw [Bool.eq_iff_iff, decide_eq_true_iff, decide_eq_true_iff]
    omega
  have e4 : turnE y l (start + y) n b = turnE 0 l start n b := by
    unfold turnE
    rw [e1, e2, e3]
  refine ⟨e4, ?_⟩
  unfold turnL
  rw [e4, e1, e2]
theorem turn_same {a : Nat} {l : List Bool} {start n : Int} {b : Bool} (h : turnE a l start n b ≠ 0) : turnL a l start n b = l := if_neg h
theorem turn_count {a : Nat} {l : List Bool} {start n : Int} {b : Bool} (h : turnE a l start n b = 0) : (turnL a l start n b).count false ≠ l.count false := by
  obtain ⟨h1, h2, h3, h4⟩ := turn_seg h
  have e : turnL a l start n b = setL l (start - a).toNat n.toNat b := if_pos h
  have hc := count_setL h3 h4
  rw [e]
  cases b
  · have := hc.1; omega
  · have := hc.2; simp only [Bool.not_true] at this; omega
theorem alloc_same {l : List Bool} {n : Int} (h : allocE l n ≠ 0) (a : Nat) : allocL l n = l ∧ allocV a l n = 0 := by
  by_cases h1 : n < 1
  · simp [allocL, allocV, h1]
  · cases hl : low n.toNat l with
    | none => simp [allocL, allocV, h1, hl]
    | some d => simp [allocE, h1, hl] at h
theorem alloc_free {l : List Bool} {n : Int} (h : allocE l n = 0) : ∃ d, 1 ≤ n ∧ low n.toNat l = some d ∧ d + n.toNat ≤ l.length ∧ ¬ true ∈ (l.drop d).take n.toNat ∧ allocL l n = setL l d n.toNat true ∧ ∀ a, allocV a l n = a + d := by
  by_cases h1 : n < 1
  · simp [allocE, h1] at h
  · cases hl : low n.toNat l with
    | none => simp [allocE, h1, hl] at h
    | some d =>
      have h2 := low_taken (by omega) hl 0
      obtain ⟨h3, _, h4, h5⟩ := turn_seg h2.1
      have e0 : (((0 : Nat) : Int) + (d : Int) - ((0 : Nat) : Int)).toNat = d := by omega
      have e1 : (((n.toNat : Nat) : Int)).toNat = n.toNat := by omega
      rw [e0, e1] at h4 h5
      exact ⟨d, by omega, rfl, h4, h5, by simp [allocL, h1, hl], fun a => by simp [allocV, h1, hl]⟩
theorem alloc_count {l : List Bool} {n : Int} (h : allocE l n = 0) : (allocL l n).count false ≠ l.count false := by
  obtain ⟨d, h1, h2, h3, h4, h5, _⟩ := alloc_free h
  have hc := (count_setL h3 h4).2
  rw [h5]
  simp only [Bool.not_true] at hc
  omega
theorem allocL_length (l : List Bool) (n : Int) : (allocL l n).length = l.length := by
  by_cases h : allocE l n = 0
  · obtain ⟨d, h1, h2, h3, h4, h5, _⟩ := alloc_free h
    rw [h5, setL_length h3]
  · rw [(alloc_same h 0).1]

end Go.Proofs.Ytfclfmobmaemkaa
