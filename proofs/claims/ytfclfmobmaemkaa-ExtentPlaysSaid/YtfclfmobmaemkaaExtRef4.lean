/-
  The reference's space: Holes; the statements' same.
-/
import Derived.Test.YtfclfmobmaemkaaExtRef3
namespace Go.Proofs.Ytfclfmobmaemkaa
open Go Go.RowKit
set_option linter.unusedVariables false
set_option linter.unusedSimpArgs false
set_option maxRecDepth 100000

/-- The last hole one longer. -/
def bump (hs : List (Nat × Nat)) : List (Nat × Nat) := hs.dropLast ++ [((hs.getLastD (0, 0)).1, (hs.getLastD (0, 0)).2 + 1)]
theorem bump_cons {x : Nat × Nat} {hs : List (Nat × Nat)} (h : hs ≠ []) : bump (x :: hs) = x :: bump hs := by
  cases hs with
  | nil => exact absurd rfl h
  | cons y hs => simp [bump]
theorem bump_length {hs : List (Nat × Nat)} (h : hs ≠ []) : (bump hs).length = hs.length := by
  have := List.length_pos_iff.2 h
  simp [bump]
  omega
theorem hcells_append (xs ys : List (Nat × Nat)) : hcells (xs ++ ys) = hcells xs ++ hcells ys := by simp [hcells]
theorem hcells_bump {hs : List (Nat × Nat)} {c : Nat} (h : hs.length = c + 1) : hcells (bump hs) = (hcells hs).set (c * 2 + 1) (.int .i64 (((hs.getD c (0, 0)).2 : Int) + 1)) := by
  obtain ⟨init, x, rfl⟩ : ∃ init x, hs = init ++ [x] := by
    have hne : hs ≠ [] := by intro e; subst e; simp at h
    exact ⟨hs.dropLast, hs.getLast hne, (List.dropLast_concat_getLast hne).symm⟩
  have hi : init.length = c := by simpa using h
  have e1 : bump (init ++ [x]) = init ++ [(x.1, x.2 + 1)] := by simp [bump]
  have e2 : (init ++ [x]).getD c (0, 0) = x := by rw [← hi]; simp [List.getD_eq_getElem?_getD]
  rw [e1, e2, hcells_append, hcells_append, List.set_append_right _ _ (by rw [hcells_length, hi]; omega), hcells_length, hi, show c * 2 + 1 - c * 2 = 1 by omega]
  simp [hcells]

theorem hol_ne (a : Nat) {l : List Bool} (h : l.getLast? = some false) : hol a l ≠ [] := by
  intro e
  have h1 := sumH_hol a l
  rw [e] at h1
  have h2 : false ∈ l := List.mem_of_getLast? h
  have := List.count_pos_iff.2 h2
  simp [sumH] at h1
  omega
theorem hol_snoc_taken (a : Nat) (l : List Bool) : hol a (l ++ [true]) = hol a l := by
  refine hol_ind (Q := fun a l => hol a (l ++ [true]) = hol a l) (fun _ => rfl) (fun a l h => by simpa [hol] using h) (fun a l hl h => ?_) (fun a l h => ?_) a l
  · rw [List.cons_append, hol_one a (l ++ [true]) (by cases l <;> simp_all), h, hol_one a l hl]
  · obtain ⟨s, n, r, e1, e2⟩ := hol_two a l
    obtain ⟨s', n', r', e3, e4⟩ := hol_two a (l ++ [true])
    rw [List.cons_append] at h
    rw [e1, e3] at h
    simp at h
    obtain ⟨⟨rfl, rfl⟩, rfl⟩ := h
    rw [List.cons_append, List.cons_append, e4, e2]
theorem hol_snoc_new (a : Nat) (l : List Bool) (hl : l.getLast? ≠ some false) : hol a (l ++ [false]) = hol a l ++ [(a + l.length, 1)] := by
  refine hol_ind (Q := fun a l => l.getLast? ≠ some false → hol a (l ++ [false]) = hol a l ++ [(a + l.length, 1)]) (fun _ _ => rfl) (fun a l h hq => ?_) (fun a l hh h hq => ?_) (fun a l h hq => ?_) a l hl
  · have : l.getLast? ≠ some false := by intro e; apply hq; cases l <;> simp_all
    have := h this
    simp only [List.cons_append, hol, this, List.length_cons]
    congr 3
    omega
  · cases l with
    | nil => simp at hq
    | cons y l =>
      have h1 : (y :: l).getLast? ≠ some false := by intro e; apply hq; simpa using e
      have h2 : ((y :: l) ++ [false]).head? ≠ some false := by simpa using hh
      rw [List.cons_append, hol_one a _ h2, h h1, hol_one a _ hh]
      simp only [List.cons_append, List.length_cons]
      congr 4
      omega
  · have h1 : (false :: l).getLast? ≠ some false := by intro e; apply hq; simpa using e
    have h := h h1
    obtain ⟨s, n, r, e1, e2⟩ := hol_two a l
    obtain ⟨s', n', r', e3, e4⟩ := hol_two a (l ++ [false])
    rw [List.cons_append] at h
    rw [e1, e3] at h
    simp at h
    obtain ⟨⟨rfl, rfl⟩, rfl⟩ := h
    rw [List.cons_append, List.cons_append, e4, e2]
    simp
    omega
theorem hol_snoc_more (a : Nat) (l : List Bool) (hl : l.getLast? = some false) : hol a (l ++ [false]) = bump (hol a l) := by
  refine hol_ind (Q := fun a l => l.getLast? = some false → hol a (l ++ [false]) = bump (hol a l)) (fun _ h => by simp at h) (fun a l h hq => ?_) (fun a l hh h hq => ?_) (fun a l h hq => ?_) a l hl
  · have : l.getLast? = some false := by cases l <;> simp_all
    simpa [hol] using h this
  · cases l with
    | nil => rfl
    | cons y l =>
      have h1 : (y :: l).getLast? = some false := by simpa using hq
      have h2 : ((y :: l) ++ [false]).head? ≠ some false := by simpa using hh
      rw [List.cons_append, hol_one a _ h2, h h1, hol_one a _ hh, bump_cons (hol_ne _ h1)]
  · have h1 : (false :: l).getLast? = some false := by simpa using hq
    have h := h h1
    obtain ⟨s, n, r, e1, e2⟩ := hol_two a l
    obtain ⟨s', n', r', e3, e4⟩ := hol_two a (l ++ [false])
    rw [List.cons_append] at h
    rw [e1, e3] at h
    rw [List.cons_append, List.cons_append, e4, e2]
    cases r with
    | nil =>
      simp [bump] at h ⊢
      obtain ⟨⟨rfl, rfl⟩, rfl⟩ := h
      simp
    | cons x r =>
      rw [bump_cons (by simp)] at h ⊢
      simp at h
      obtain ⟨⟨rfl, rfl⟩, rfl⟩ := h
      rfl

/-- A cell of a slice of one's own is turned. -/
theorem Own.row_set {w0 w : World} {e : TypeId} {size : Nat} {g n cap : Nat} {xs : List Value} {J : Res} [Stab J] (h : Own w0 w (Sep (RowV e size (.slice (some ⟨g, 0, none⟩) n cap) n xs) J)) {j : Nat} (hj : j < xs.length) (u : Value) :
    Own w0 (w.setCell ⟨g, j, none⟩ u) (Sep (RowV e size (.slice (some ⟨g, 0, none⟩) n cap) n (xs.set j u)) J) := by
  obtain ⟨F, ⟨A, B, ⟨hA, hAF⟩, hB, hd, hF⟩, h2, h3⟩ := h
  have hAg : A g := (hAF g).2 (by simp [Value.ownBlock])
  refine ⟨F, ⟨A, B, ⟨?_, hAF⟩, Stab.keep hB (fun k hk => Below.heap_setCell _ _ _ _ (fun e => hd g hAg (by have e : k = g := e; rwa [e] at hk))), hd, hF⟩, h2, h3.setCell (fun hlt => ?_) u⟩
  · refine ⟨by simpa using hA.1, .inr ?_⟩
    rcases hA.2 with ⟨e1, _⟩ | ⟨g', cap', cur, e1, hb, hg, hle, hmx, hsz, ht⟩
    · simp at e1
    · simp at e1
      obtain ⟨rfl, rfl⟩ := e1
      refine ⟨g, cap, cur.setIfInBounds j u, rfl, Nat.zero_le _, heap_set hg j u, hle, hmx, by simpa using hsz, ?_⟩
      have hx := hA.1
      rw [Array.toList_setIfInBounds, List.take_set, ht]
  · have := h2 g ((hF g).2 (.inl hAg))
    exact absurd hlt (by simp; omega)

end Go.Proofs.Ytfclfmobmaemkaa
