/-
  The document's own rows: Num, Flag, Text of its In, each as one contract that keeps the In's bytes by name.
-/
import Derived.Test.YtgkcflindenboaaDoorRowR4
namespace Go.Proofs.YtgkcflindenboaaDoor
open Go Go.RowKit
set_option linter.unusedVariables false
set_option linter.unusedSimpArgs false
set_option maxRecDepth 100000

/-- What a call of the In leaves. -/
structure InStep (W : World) (pi : Nat) (v : Value) (bs : List UInt8) (a : Nat) (bad : Bool) (W' : World) : Prop where
  i : RI.RefAt W' pi v bs a bad
  o : Only (fun k => k = pi) W W'
theorem in_ok {W : World} {pi a n : Nat} {v : Value} {bs : List UInt8} {bad : Bool} (h : RI.RefAt W pi v bs a bad) (q q' : Nat) (hn : n ≤ bs.length) : InStep W pi v bs n bad (((W.drewN q).setCell ⟨pi, 1, none⟩ (.int .i64 (n : Int))).drewN q') :=
  ⟨((h.drewN q).move n hn).drewN q', (((Only.refl (fun k => k = pi) W).drewN q).trans (Only.cell _ pi 1 _) (fun k _ e => e)).drewN q'⟩
theorem in_bad {W : World} {pi a : Nat} {v : Value} {bs : List UInt8} {bad : Bool} (h : RI.RefAt W pi v bs a bad) (q : Nat) : InStep W pi v bs a true ((W.drewN q).setCell ⟨pi, 2, none⟩ (.bool true)) :=
  ⟨(h.drewN q).bad true, ((Only.refl (fun k => k = pi) W).drewN q).trans (Only.cell _ pi 2 _) (fun k _ e => e)⟩
theorem in_num (r n : Nat) (v : Value) (bs : List UInt8) (a : Nat) (bad : Bool) (w : World) (h : RI.RefAt w r v bs a bad) (hn8 : n ≤ 8) :
    Calls Tryd.prog 50 #[.pointer (some ⟨r, 0, none⟩), .int .i64 n] w fun e w' => ∃ (x a' : Nat) (bad' : Bool), e = .returned (.int .u64 (x : Int)) ∧ InStep w r v bs a' bad' w' ∧
      (bad' = false → bad = false ∧ a + n ≤ bs.length ∧ a' = a + n ∧ x = numB ((bs.drop a).take n)) ∧ (bad' = true → (bad = true ∨ bs.length < a + n) ∧ x = 0) := by
  cases bad with
  | true =>
    refine (RI.refNum_bad r n v bs a w h).mono ?_
    rintro e w' ⟨rfl, rfl⟩
    exact ⟨0, a, true, rfl, in_bad h 0, (fun e => by cases e), fun _ => ⟨.inl rfl, rfl⟩⟩
  | false =>
    by_cases hl : a + n ≤ bs.length
    · refine (RI.refNum_ok r n v bs a w h hl hn8).mono ?_
      rintro e w' ⟨rfl, q, rfl⟩
      exact ⟨_, a + n, false, rfl, in_ok h q 0 hl, fun _ => ⟨rfl, hl, rfl, rfl⟩, fun e => by cases e⟩
    · refine (RI.refNum_short r n v bs a w h (by omega) hn8).mono ?_
      rintro e w' ⟨rfl, q, rfl⟩
      exact ⟨0, a, true, rfl, in_bad h q, (fun e => by cases e), fun _ => ⟨.inr (by omega), rfl⟩⟩
theorem in_flag (r : Nat) (v : Value) (bs : List UInt8) (a : Nat) (bad : Bool) (w : World) (h : RI.RefAt w r v bs a bad) :
    Calls Tryd.prog 63 #[.pointer (some ⟨r, 0, none⟩)] w fun e w' => ∃ (x : Bool) (a' : Nat) (bad' : Bool), e = .returned (.bool x) ∧ InStep w r v bs a' bad' w' ∧
      (bad' = false → bad = false ∧ a < bs.length ∧ a' = a + 1 ∧ ((bs.getD a 0).toNat = if x = true then 1 else 0)) ∧ (bad' = true → (bad = true ∨ bs.length ≤ a ∨ 1 < (bs.getD a 0).toNat) ∧ x = false) := by
  cases bad with
  | true =>
    refine (RI.refFlag_bad r v bs a w h).mono ?_
    rintro e w' ⟨rfl, q, rfl⟩
    exact ⟨false, a, true, rfl, in_bad h q, (fun e => by cases e), fun _ => ⟨.inl rfl, rfl⟩⟩
  | false =>
    by_cases hl : a < bs.length
    · by_cases hb : 1 < (bs.getD a 0).toNat
      · refine (RI.refFlag_big r v bs a w h hl hb).mono ?_
        rintro e w' ⟨rfl, q, rfl⟩
        exact ⟨false, a, true, rfl, in_bad h q, (fun e => by cases e), fun _ => ⟨.inr (.inr hb), rfl⟩⟩
      · refine (RI.refFlag_small r v bs a w h hl (by omega)).mono ?_
        rintro e w' ⟨rfl, q, q', rfl⟩
        refine ⟨_, a + 1, false, rfl, in_ok h q q' hl, fun _ => ⟨rfl, hl, rfl, ?_⟩, fun e => by cases e⟩
        by_cases h1 : (bs.getD a 0).toNat = 1
        · rw [if_pos (by simpa using h1)]; exact h1
        · rw [if_neg (by simpa using h1)]; omega
    · have ha : a = bs.length := by have := h.le; omega
      subst ha
      refine (RI.refFlag_none r v bs w h).mono ?_
      rintro e w' ⟨rfl, q, rfl⟩
      exact ⟨false, bs.length, true, rfl, in_bad h q, (fun e => by cases e), fun _ => ⟨.inr (.inl (Nat.le_refl _)), rfl⟩⟩
theorem in_text (r : Nat) (v : Value) (bs : List UInt8) (a : Nat) (bad : Bool) (w : World) (h : RI.RefAt w r v bs a bad) :
    Calls Tryd.prog 64 #[.pointer (some ⟨r, 0, none⟩)] w fun e w' => ∃ (S : List UInt8) (a' : Nat) (bad' : Bool), e = .returned (.string ⟨S.toArray⟩) ∧ InStep w r v bs a' bad' w' ∧
      (bad' = false → bad = false ∧ a + 2 + txtN (bs.drop a) ≤ bs.length ∧ a' = a + 2 + txtN (bs.drop a) ∧ S = ((bs.drop a).drop 2).take (txtN (bs.drop a))) ∧ (bad' = true → (bad = true ∨ bs.length < a + 2 ∨ bs.length < a + 2 + txtN (bs.drop a)) ∧ S = []) := by
  cases bad with
  | true =>
    refine (RI.refText_bad r v bs a w h).mono ?_
    rintro e w' ⟨rfl, rfl⟩
    exact ⟨[], a, true, rfl, in_bad h 0, (fun e => by cases e), fun _ => ⟨.inl rfl, rfl⟩⟩
  | false =>
    by_cases h2 : a + 2 ≤ bs.length
    · by_cases hl : a + 2 + txtN (bs.drop a) ≤ bs.length
      · refine (RI.refText_ok r v bs a w h h2 hl).mono ?_
        rintro e w' ⟨rfl, q, q', rfl⟩
        exact ⟨_, a + 2 + txtN (bs.drop a), false, rfl, in_ok h q q' hl, fun _ => ⟨rfl, hl, rfl, rfl⟩, fun e => by cases e⟩
      · refine (RI.refText_shortN r v bs a w h h2 (by omega)).mono ?_
        rintro e w' ⟨rfl, q, rfl⟩
        exact ⟨[], a, true, rfl, in_bad h q, (fun e => by cases e), fun _ => ⟨.inr (.inr (by omega)), rfl⟩⟩
    · refine (RI.refText_short2 r v bs a w h (by omega)).mono ?_
      rintro e w' ⟨rfl, q, rfl⟩
      exact ⟨[], a, true, rfl, in_bad h q, (fun e => by cases e), fun _ => ⟨.inr (.inl (by omega)), rfl⟩⟩

end Go.Proofs.YtgkcflindenboaaDoor
