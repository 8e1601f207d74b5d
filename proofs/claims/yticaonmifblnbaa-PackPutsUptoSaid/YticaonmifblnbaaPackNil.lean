/-
  Contracts of package pack for a nil In; of U32 and Done for a caller that made its In itself.
-/
import Derived.Test.YticaonmifblnbaaPackGo
namespace Go.Proofs.Yticaonmifblnbaa
open Go Go.RowKit Go.Lib
set_option linter.unusedVariables false

set_option maxHeartbeats 400000 in
theorem inNumber_nil (n : Int) (w : World) :
    Calls Try.prog 43 #[.pointer none, .int .i64 n] w fun e w' => e = .returned (.int .u64 0) ∧ w = w' := by
  go_enter Try.func43, Try.ntmps43
  go_wp2_with fail
  refine (next_nil n w).mono ?_
  rintro e w' ⟨rfl, rfl⟩
  go_wp2_with fail
  refine wp_loop_rounds 1 ?_
  rw [rounds_succ]
  go_wp2
  go_ret
  exact ⟨rfl, rfl⟩

set_option maxHeartbeats 400000 in
theorem inU8_nil (w : World) :
    Calls Try.prog 29 #[.pointer none] w fun e w' => e = .returned (.int .u8 0) ∧ w = w' := by
  go_enter Try.func29, Try.ntmps29
  go_wp2_with fail
  refine (inNumber_nil 1 w).mono ?_
  rintro e w' ⟨rfl, rfl⟩
  go_wp2
  go_ret
  exact ⟨rfl, rfl⟩

set_option maxHeartbeats 400000 in
theorem inDone_nil (w : World) :
    Calls Try.prog 20 #[.pointer none] w fun e w' => e = .returned (.bool false) ∧ w = w' := by
  go_enter Try.func20, Try.ntmps20
  go_wp2_with fail
  refine (bad_nil w).mono ?_
  rintro e w' ⟨rfl, rfl⟩
  go_wp2
  go_ret
  exact ⟨rfl, rfl⟩

set_option maxHeartbeats 400000 in
theorem inText_nil (w : World) :
    Calls Try.prog 31 #[.pointer none] w fun e w' => e = .returned (.string ⟨#[]⟩) ∧ w = w' := by
  go_enter Try.func31, Try.ntmps31
  go_wp2_with fail
  refine (bad_nil w).mono ?_
  rintro e w' ⟨rfl, rfl⟩
  go_wp2
  go_ret
  exact ⟨rfl, rfl⟩

theorem giU32 {w0 w : World} {p x : Nat} {ys : List UInt8} (h : InG w0 w p (beB 4 x ++ ys) false) (hx : x < 4294967296) :
    Calls Try.prog 32 #[.pointer (some ⟨p, 0, none⟩)] w fun e w' => e = .returned (.int .u32 x) ∧ InG w0 w' p ys false ∧ Only (fun k => k = p) w w' := by
  obtain ⟨v, hI⟩ := h.inn
  refine (inU32 p v _ false w hI).mono ?_
  rintro e w' ⟨v', rfl, hI', ho⟩
  obtain ⟨e1, e2, e3⟩ := take_be (n := 4) (x := x) (ys := ys)
  rw [e2, e3] at hI'
  refine ⟨?_, h.of hI' ho, ho⟩
  rw [e1, numB_be]
  congr 3
  omega
theorem ibU32 {w0 w : World} {p x : Nat} {ys : List UInt8} {v : Value} {bs : List UInt8} (h : InB w0 w p (beB 4 x ++ ys) v bs) (hx : x < 4294967296) :
    Calls Try.prog 32 #[.pointer (some ⟨p, 0, none⟩)] w fun e w' => e = .returned (.int .u32 x) ∧ InB w0 w' p ys v bs :=
  (giU32 h.ing hx).mono fun e w' ⟨he, hi, ho⟩ => ⟨he, h.of hi ho⟩
theorem giU32_short {w0 w : World} {p : Nat} (h : InG w0 w p [0, 0, 0] false) :
    Calls Try.prog 32 #[.pointer (some ⟨p, 0, none⟩)] w fun e w' => e = .returned (.int .u32 0) ∧ InG w0 w' p [0, 0, 0] true := by
  obtain ⟨v, hI⟩ := h.inn
  refine (inU32 p v _ false w hI).mono ?_
  rintro e w' ⟨v', rfl, hI', ho⟩
  have e1 : numB (nextR 4 [0, 0, 0] false) = 0 := by decide
  have e2 : nextL 4 [0, 0, 0] false = [0, 0, 0] := by decide
  have e3 : (!can 4 [0, 0, 0] false) = true := by decide
  rw [e2, e3] at hI'
  exact ⟨by rw [e1]; rfl, h.of hI' ho⟩
theorem giBad {w0 w : World} {p : Nat} {xs : List UInt8} {bd : Bool} (h : InG w0 w p xs bd) :
    Calls Try.prog 17 #[.pointer (some ⟨p, 0, none⟩)] w fun e w' => e = .returned (.bool bd) ∧ w = w' := by
  obtain ⟨v, hI⟩ := h.inn
  exact bad_any p bd w hI.cell1
theorem giDone {w0 w : World} {p : Nat} {xs : List UInt8} {bd : Bool} (h : InG w0 w p xs bd) :
    Calls Try.prog 20 #[.pointer (some ⟨p, 0, none⟩)] w fun e w' => e = .returned (.bool (!bd && xs.isEmpty)) ∧ w = w' := by
  obtain ⟨v, hI⟩ := h.inn
  exact inDone p v xs bd w hI

/-- A slice cut short. -/
theorem SlB.short {w : World} {g off cap : Nat} {bs : List UInt8} (h : SlB w (.slice (some ⟨g, off, none⟩) bs.length cap) bs) {m : Nat} (hm : m ≤ bs.length) : SlB w (.slice (some ⟨g, off, none⟩) m cap) (bs.take m) := by
  rcases h with ⟨hv, _⟩ | ⟨g', off', cap', cur, hv, h1, h2, h3, h4⟩
  · simp at hv
  · simp only [Value.slice.injEq, Option.some.injEq, Addr.mk.injEq, and_true] at hv
    obtain ⟨⟨rfl, rfl⟩, _, rfl⟩ := hv
    exact SlB.take h1 h2 h3 h4 hm
theorem SlB.some {w : World} {bo : Option Addr} {n cap : Nat} {bs : List UInt8} (h : SlB w (.slice bo n cap) bs) (hn : 0 < bs.length) : ∃ g off, bo = .some ⟨g, off, none⟩ ∧ bs.length ≤ cap ∧ cap ≤ 9223372036854775807 := by
  rcases h with ⟨_, rfl⟩ | ⟨g, off, cap', cur, hv, h1, h2, h3, h4⟩
  · simp at hn
  · simp only [Value.slice.injEq] at hv
    obtain ⟨rfl, _, rfl⟩ := hv
    exact ⟨g, off, rfl, h1, by unfold maxLen at h2; omega⟩

end Go.Proofs.Yticaonmifblnbaa
