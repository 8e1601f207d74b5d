/-
  What a space of sectors is, as a list of flags; its holes, rising; the lowest place where so many are free. Plain lists; nothing is walked here.
-/
import Derived.Test.YtfclfmobmaemkaaMem
namespace Go.Proofs.Ytfclfmobmaemkaa
open Go Go.RowKit
set_option linter.unusedVariables false
set_option linter.unusedSimpArgs false
set_option maxRecDepth 100000

/-- How many flags, from the first one on, are x. -/
def runLen (x : Bool) : List Bool → Nat
  | [] => 0
  | y :: l => if y = x then runLen x l + 1 else 0
theorem runLen_le (x : Bool) (l : List Bool) : runLen x l ≤ l.length := by
  induction l with
  | nil => exact Nat.le_refl _
  | cons y l ih => simp only [runLen, List.length_cons]; split <;> omega
theorem runLen_lt {x : Bool} {l : List Bool} {j : Nat} (h : j < runLen x l) : l[j]? = some x := by
  induction l generalizing j with
  | nil => simp [runLen] at h
  | cons y l ih =>
    simp only [runLen] at h
    split at h
    · rename_i e
      cases j with
      | zero => simp [e]
      | succ j => simpa using ih (by omega)
    · omega
theorem runLen_end {x : Bool} {l : List Bool} (h : runLen x l < l.length) : l[runLen x l]? = some (!x) := by
  induction l with
  | nil => simp at h
  | cons y l ih =>
    simp only [runLen, List.length_cons] at h ⊢
    split
    · rename_i e
      rw [if_pos e] at h
      simpa using ih (by omega)
    · rename_i e
      cases x <;> cases y <;> simp_all
/-- The run is as long as all ahead of it are x, and it ends where one isn't. -/
theorem runLen_ge {x : Bool} {l : List Bool} {n : Nat} (hn : n ≤ l.length) (h : ∀ j, j < n → l[j]? = some x) : n ≤ runLen x l := by
  refine Nat.le_of_not_lt fun hlt => ?_
  have h1 := h _ hlt
  rw [runLen_end (by omega)] at h1
  cases x <;> simp at h1
theorem runLen_cap {x : Bool} {l : List Bool} {j : Nat} (h : l[j]? = some (!x)) : runLen x l ≤ j := by
  refine Nat.le_of_not_lt fun hlt => ?_
  rw [runLen_lt hlt] at h
  cases x <;> simp at h

/-- The holes of flags that tell what is taken, where the first one has the number at. -/
def hol (a : Nat) : List Bool → List (Nat × Nat)
  | [] => []
  | true :: l => hol (a + 1) l
  | false :: l => match l with
    | false :: _ => match hol (a + 1) l with
      | (_, n) :: r => (a, n + 1) :: r
      | [] => [(a, 1)]
    | _ => (a, 1) :: hol (a + 1) l
theorem hol_taken (a : Nat) (l : List Bool) : hol a l = hol (a + runLen true l) (l.drop (runLen true l)) := by
  induction l generalizing a with
  | nil => rfl
  | cons y l ih =>
    cases y with
    | false => simp [runLen]
    | true =>
      simp only [runLen, hol, if_true, List.drop_succ_cons]
      rw [ih (a + 1)]
      congr 1
      omega
theorem hol_free (a : Nat) (l : List Bool) : hol a (false :: l) = (a, runLen false l + 1) :: hol (a + (runLen false l + 1)) (l.drop (runLen false l)) := by
  induction l generalizing a with
  | nil => rfl
  | cons y l ih =>
    cases y with
    | true => simp [runLen, hol]
    | false =>
      rw [hol, ih (a + 1)]
      simp only [runLen, if_true, List.drop_succ_cons]
      congr 2
      omega
/-- From any place on: the run there, then the rest. -/
theorem hol_run (a : Nat) (b : Bool) (l : List Bool) : hol a (b :: l) = if b then hol (a + runLen b (b :: l)) ((b :: l).drop (runLen b (b :: l))) else (a, runLen b (b :: l)) :: hol (a + runLen b (b :: l)) ((b :: l).drop (runLen b (b :: l))) := by
  cases b with
  | true => simpa using hol_taken a (true :: l)
  | false => rw [hol_free]; simp [runLen]

theorem hol_two (a : Nat) (l : List Bool) : ∃ s n r, hol (a + 1) (false :: l) = (s, n) :: r ∧ hol a (false :: false :: l) = (a, n + 1) :: r := by
  refine ⟨a + 1, runLen false l + 1, hol (a + 1 + (runLen false l + 1)) (l.drop (runLen false l)), hol_free (a + 1) l, ?_⟩
  rw [hol_free]
  simp only [runLen, if_true, List.drop_succ_cons]
  congr 2
  omega
theorem hol_one (a : Nat) (l : List Bool) (h : l.head? ≠ some false) : hol a (false :: l) = (a, 1) :: hol (a + 1) l := by
  cases l with
  | nil => rfl
  | cons y l =>
    cases y with
    | true => rfl
    | false => simp at h
/-- The ways in which flags begin. -/
theorem hol_ind {Q : Nat → List Bool → Prop} (h0 : ∀ a, Q a []) (h1 : ∀ a l, Q (a + 1) l → Q a (true :: l)) (h2 : ∀ a l, l.head? ≠ some false → Q (a + 1) l → Q a (false :: l)) (h3 : ∀ a l, Q (a + 1) (false :: l) → Q a (false :: false :: l)) (a : Nat) (l : List Bool) : Q a l := by
  induction l generalizing a with
  | nil => exact h0 a
  | cons y l ih =>
    cases y with
    | true => exact h1 a l (ih (a + 1))
    | false =>
      cases l with
      | nil => exact h2 a [] (by simp) (h0 _)
      | cons z l =>
        cases z with
        | true => exact h2 a _ (by simp) (ih (a + 1))
        | false => exact h3 a l (ih (a + 1))
def sumH (h : List (Nat × Nat)) : Nat := (h.map (·.2)).sum
theorem sumH_hol (a : Nat) (l : List Bool) : sumH (hol a l) = l.count false := by
  refine hol_ind (Q := fun a l => sumH (hol a l) = l.count false) (fun _ => rfl) (fun a l h => by simp [hol, h]) (fun a l hl h => ?_) (fun a l h => ?_) a l
  · simp only [hol_one a l hl, sumH] at h ⊢
    simp [h]
    omega
  · obtain ⟨s, n, r, e1, e2⟩ := hol_two a l
    rw [e1] at h
    rw [e2]
    simp [sumH] at h ⊢
    omega
theorem hol_bounds (a : Nat) (l : List Bool) : ∀ h ∈ hol a l, a ≤ h.1 ∧ 1 ≤ h.2 ∧ h.1 + h.2 ≤ a + l.length := by
  refine hol_ind (Q := fun a l => ∀ h ∈ hol a l, a ≤ h.1 ∧ 1 ≤ h.2 ∧ h.1 + h.2 ≤ a + l.length) (fun _ => by simp [hol]) (fun a l h x hx => by have := h x hx; simp; omega) (fun a l hl h x hx => ?_) (fun a l h x hx => ?_) a l
  · rw [hol_one a l hl] at hx
    rcases List.mem_cons.1 hx with rfl | hx
    · simp
    · have := h x hx; simp; omega
  · obtain ⟨s, n, r, e1, e2⟩ := hol_two a l
    rw [e1] at h
    rw [e2] at hx
    rcases List.mem_cons.1 hx with rfl | hx
    · have := h _ (List.mem_cons_self); simp at this ⊢; omega
    · have := h _ (List.mem_cons_of_mem _ hx); simp at this ⊢; omega
theorem hol_length (a : Nat) (l : List Bool) : (hol a l).length ≤ l.length := by
  refine hol_ind (Q := fun a l => (hol a l).length ≤ l.length) (fun _ => by simp [hol]) (fun a l h => by simp [hol]; omega) (fun a l hl h => ?_) (fun a l h => ?_) a l
  · rw [hol_one a l hl]; simp; omega
  · obtain ⟨s, n, r, e1, e2⟩ := hol_two a l
    rw [e1] at h
    rw [e2]
    simp at h ⊢
    omega

/-- The lowest place from which on n are free. -/
def low (n : Nat) : List Bool → Option Nat
  | [] => none
  | b :: l => if n ≤ runLen false (b :: l) then some 0 else (low n l).map (· + 1)
theorem low_some {n : Nat} (h1 : 1 ≤ n) {l : List Bool} {a : Nat} (ha : n ≤ runLen false (l.drop a)) (hb : ∀ j, j < a → runLen false (l.drop j) < n) : low n l = some a := by
  induction l generalizing a with
  | nil => simp [runLen] at ha; omega
  | cons b l ih =>
    cases a with
    | zero => simp only [List.drop_zero] at ha; simp [low, ha]
    | succ a =>
      have h0 := hb 0 (by omega)
      simp only [List.drop_zero] at h0
      simp only [low]
      rw [if_neg (by omega), ih (by simpa using ha) (fun j hj => by simpa using hb (j + 1) (by omega))]
      rfl
theorem low_none {n : Nat} (h1 : 1 ≤ n) {l : List Bool} (hb : ∀ j, j < l.length → runLen false (l.drop j) < n) : low n l = none := by
  induction l with
  | nil => rfl
  | cons b l ih =>
    have h0 := hb 0 (by simp)
    simp only [List.drop_zero] at h0
    simp only [low]
    rw [if_neg (by omega), ih (fun j hj => by simpa using hb (j + 1) (by simpa using hj))]
    rfl
theorem low_fits {n : Nat} {l : List Bool} {a : Nat} (h : low n l = some a) : n ≤ runLen false (l.drop a) := by
  induction l generalizing a with
  | nil => simp [low] at h
  | cons b l ih =>
    simp only [low] at h
    split at h
    · simp at h; subst h; simpa
    · simp at h
      obtain ⟨c, hc, rfl⟩ := h
      simpa using ih hc
theorem low_bound {n : Nat} {l : List Bool} {a : Nat} (h : low n l = some a) : a + n ≤ l.length ∨ n = 0 := by
  have h1 := low_fits h
  have h2 := runLen_le false (l.drop a)
  simp at h2
  omega
/-- The first hole that is long enough begins at the lowest place. -/
theorem first_hole {n : Nat} (h1 : 1 ≤ n) (a : Nat) (l : List Bool) : ((hol a l).find? (fun h => decide (n ≤ h.2))).map (·.1) = (low n l).map (a + ·) := by
  induction l generalizing a with
  | nil => rfl
  | cons b l ih =>
    have ih := ih (a + 1)
    cases b with
    | true =>
      rw [hol, ih]
      have : ¬ n ≤ runLen false (true :: l) := by simp [runLen]; omega
      simp only [low, if_neg this, Option.map_map]
      congr 1
      funext x
      simp; omega
    | false =>
      rw [hol_free]
      simp only [low, runLen, if_true]
      by_cases hn : n ≤ runLen false l + 1
      · simp [hn]
      · have e : ((hol (a + (runLen false l + 1)) (l.drop (runLen false l))).find? (fun h => decide (n ≤ h.2))) = ((hol (a + 1) l).find? (fun h => decide (n ≤ h.2))) := by
          cases l with
          | nil => rfl
          | cons y l =>
            cases y with
            | true => simp [runLen]
            | false =>
              rw [hol_free (a + 1)]
              simp only [runLen, if_true] at hn ⊢
              rw [List.find?_cons_of_neg (by simp; omega)]
              congr 2
              omega
        rw [List.find?_cons_of_neg (by simpa using hn), e, ih, if_neg hn]
        simp only [Option.map_map]
        congr 1
        funext x
        simp; omega

/-- n flags from a place on, set. -/
def setL (l : List Bool) (a n : Nat) (b : Bool) : List Bool := l.take a ++ List.replicate n b ++ l.drop (a + n)
theorem setL_length {l : List Bool} {a n : Nat} (h : a + n ≤ l.length) (b : Bool) : (setL l a n b).length = l.length := by
  simp [setL]; omega
theorem setL_zero (l : List Bool) (a : Nat) (b : Bool) : setL l a 0 b = l := by simp [setL]
theorem setL_get {l : List Bool} {a n : Nat} (h : a + n ≤ l.length) (b : Bool) (i : Nat) : (setL l a n b)[i]? = if a ≤ i ∧ i < a + n then some b else l[i]? := by
  have e1 : (l.take a).length = a := by simp; omega
  unfold setL
  by_cases h1 : i < a
  · rw [List.append_assoc, List.getElem?_append_left (by omega), List.getElem?_take, if_pos h1, if_neg (by omega)]
  · rw [List.append_assoc, List.getElem?_append_right (by omega), e1]
    by_cases h2 : i < a + n
    · rw [List.getElem?_append_left (by simp; omega), if_pos (by omega), List.getElem?_replicate, if_pos (by omega)]
    · rw [List.getElem?_append_right (by simp; omega), if_neg (by omega), List.length_replicate, List.getElem?_drop]
      congr 1
      omega
theorem setL_succ {l : List Bool} {a n : Nat} (h : a + n + 1 ≤ l.length) (b : Bool) : (setL l a n b).set (a + n) b = setL l a (n + 1) b := by
  apply List.ext_getElem?
  intro i
  rw [List.getElem?_set, setL_get (by omega), setL_get (by omega), setL_length (by omega)]
  by_cases e : a + n = i
  · subst e; rw [if_pos rfl, if_pos (by omega), if_pos (by omega)]
  · rw [if_neg e]
    by_cases h1 : a ≤ i ∧ i < a + n
    · rw [if_pos h1, if_pos (by omega)]
    · rw [if_neg h1, if_neg (by omega)]
theorem setL_map (f : Bool → Bool) (l : List Bool) (a n : Nat) (b : Bool) : (setL l a n b).map f = setL (l.map f) a n (f b) := by
  simp [setL, List.map_take, List.map_drop]
/-- What is set is so; where all were so, setting them back is no change. -/
theorem setL_back {l : List Bool} {a n : Nat} (h : a + n ≤ l.length) {b : Bool} (hb : ∀ j, j < n → l[a + j]? = some b) (c : Bool) : setL (setL l a n c) a n b = l := by
  apply List.ext_getElem?
  intro i
  rw [setL_get (by rw [setL_length h]; exact h), setL_get h]
  by_cases h1 : a ≤ i ∧ i < a + n
  · rw [if_pos h1, ← hb (i - a) (by omega)]
    congr 1
    omega
  · rw [if_neg h1, if_neg h1]

end Go.Proofs.Ytfclfmobmaemkaa
