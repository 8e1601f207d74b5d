/-
  Flags that tell just what a list of stretches covers, which lie apart. Plain lists.
-/
import Derived.Test.YtfclfmobmaemkaaExtSt3
namespace Go.Proofs.Ytfclfmobmaemkaa
open Go Go.RowKit
set_option linter.unusedVariables false
set_option linter.unusedSimpArgs false
set_option maxRecDepth 100000

def In (h : Nat × Nat) (i : Nat) : Prop := h.1 ≤ i ∧ i < h.1 + h.2
structure Cov (N : Nat) (hs : List (Nat × Nat)) (T : List Bool) : Prop where
  len : T.length = N
  ok : ∀ h ∈ hs, 1 ≤ h.2 ∧ h.1 + h.2 ≤ N
  apart : hs.Pairwise (fun x y => ∀ i, In x i → ¬ In y i)
  iff : ∀ i, i < N → (T[i]? = some true ↔ ∃ h ∈ hs, In h i)
theorem Cov.nil (N : Nat) : Cov N [] (List.replicate N false) :=
  ⟨by simp, by simp, .nil, fun i hi => by simp [hi]⟩
theorem mem_seg {T : List Bool} {d n : Nat} {b : Bool} (h : d + n ≤ T.length) : b ∈ (T.drop d).take n ↔ ∃ i, d ≤ i ∧ i < d + n ∧ T[i]? = some b := by
  constructor
  · intro hm
    obtain ⟨j, hj, e⟩ := List.mem_iff_getElem.1 hm
    have hj' : j < n := by simp at hj; omega
    refine ⟨d + j, by omega, by omega, ?_⟩
    have := List.getElem?_eq_getElem hj
    rw [e, List.getElem?_take, if_pos hj', List.getElem?_drop] at this
    exact this
  · rintro ⟨i, h1, h2, e⟩
    refine List.mem_of_getElem? (i := i - d) ?_
    rw [List.getElem?_take, if_pos (by omega), List.getElem?_drop, show d + (i - d) = i by omega]
    exact e
theorem Cov.take {N : Nat} {hs : List (Nat × Nat)} {T : List Bool} (h : Cov N hs T) {d n : Nat} (h1 : 1 ≤ n) (h2 : d + n ≤ N) (hf : ¬ true ∈ (T.drop d).take n) : Cov N (hs ++ [(d, n)]) (setL T d n true) := by
  have hl := h.len
  have hf' : ∀ i, d ≤ i → i < d + n → T[i]? ≠ some true := fun i a b e => hf ((mem_seg (by omega)).2 ⟨i, a, b, e⟩)
  refine ⟨by rw [setL_length (by omega)]; exact hl, fun x hx => ?_, ?_, fun i hi => ?_⟩
  · rcases List.mem_append.1 hx with hx | hx
    · exact h.ok x hx
    · simp at hx; subst hx; exact ⟨h1, h2⟩
  · rw [List.pairwise_append]
    refine ⟨h.apart, List.pairwise_singleton _ _, fun x hx y hy i hi hiy => ?_⟩
    simp at hy
    subst hy
    have := h.ok x hx
    have hiN : i < N := by have := hi.2; omega
    exact hf' i hiy.1 hiy.2 ((h.iff i hiN).2 ⟨x, hx, hi⟩)
  · rw [setL_get (by omega)]
    by_cases e : d ≤ i ∧ i < d + n
    · rw [if_pos e]
      exact ⟨fun _ => ⟨(d, n), by simp, e⟩, fun _ => rfl⟩
    · rw [if_neg e, h.iff i hi]
      constructor
      · rintro ⟨x, hx, hi⟩; exact ⟨x, by simp [hx], hi⟩
      · rintro ⟨x, hx, hi⟩
        rcases List.mem_append.1 hx with hx | hx
        · exact ⟨x, hx, hi⟩
        · simp at hx; subst hx; exact absurd hi e
theorem Cov.free {N : Nat} {x : Nat × Nat} {hs : List (Nat × Nat)} {T : List Bool} (h : Cov N (x :: hs) T) : 1 ≤ x.2 ∧ x.1 + x.2 ≤ N ∧ ¬ false ∈ (T.drop x.1).take x.2 ∧ Cov N hs (setL T x.1 x.2 false) := by
  obtain ⟨k1, k2⟩ := h.ok x (by simp)
  have hl := h.len
  have ha := List.pairwise_cons.1 h.apart
  refine ⟨k1, k2, fun hm => ?_, ⟨by rw [setL_length (by omega)]; exact hl, fun y hy => h.ok y (by simp [hy]), ha.2, fun i hi => ?_⟩⟩
  · obtain ⟨i, a, b, e⟩ := (mem_seg (by omega)).1 hm
    have := (h.iff i (by omega)).2 ⟨x, by simp, a, b⟩
    rw [e] at this
    simp at this
  · rw [setL_get (by omega)]
    by_cases e : x.1 ≤ i ∧ i < x.1 + x.2
    · rw [if_pos e]
      refine ⟨fun h => by simp at h, ?_⟩
      rintro ⟨y, hy, hi⟩
      exact absurd hi (ha.1 y hy i e)
    · rw [if_neg e, h.iff i hi]
      constructor
      · rintro ⟨y, hy, hiy⟩
        rcases List.mem_cons.1 hy with rfl | hy
        · exact absurd hiy e
        · exact ⟨y, hy, hiy⟩
      · rintro ⟨y, hy, hiy⟩
        exact ⟨y, by simp [hy], hiy⟩
theorem Cov.all {N : Nat} {T : List Bool} (h : Cov N [] T) : T = List.replicate N false := by
  apply List.ext_getElem?
  intro i
  by_cases hi : i < N
  · have h1 := h.iff i hi
    have h2 : i < T.length := by rw [h.len]; exact hi
    rw [List.getElem?_eq_getElem h2] at h1 ⊢
    cases e : T[i] with
    | false => simp [hi]
    | true => rw [e] at h1; simp at h1
  · rw [List.getElem?_eq_none (by rw [h.len]; omega), List.getElem?_eq_none (by simp; omega)]
theorem runLen_rep (n : Nat) : runLen false (List.replicate n false) = n := by
  induction n with
  | zero => rfl
  | succ n ih => simp [List.replicate_succ, runLen, ih]
theorem hol_rep (a n : Nat) : hol a (List.replicate (n + 1) false) = [(a, n + 1)] := by
  rw [List.replicate_succ, hol_free, runLen_rep, List.drop_of_length_le (by simp)]
  rfl
theorem count_rep (n : Nat) : (List.replicate n false).count false = n := by simp
theorem bools_set (l : List Bool) (i : Nat) (b : Bool) : (bools l).toArray.setIfInBounds i (.bool b) = (bools (l.set i b)).toArray := by simp [bools, List.map_set]
theorem bools_at {l : List Bool} {i : Nat} (h : i < l.length) : (bools l).toArray[i]? = some (.bool (l.getD i false)) := by simp [bools, List.getD_eq_getElem?_getD, h]
theorem bools_is {l : List Bool} {i : Nat} {b : Bool} (h : l[i]? = some b) : (bools l).toArray[i]? = some (.bool b) := by simp [bools, h]

end Go.Proofs.Ytfclfmobmaemkaa
