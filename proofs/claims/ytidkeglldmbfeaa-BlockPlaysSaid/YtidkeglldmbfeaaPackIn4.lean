/-
  Contracts of package pack's In: U8, U16, U32, U64, Flag, Text, Done.
-/
import Derived.Test.YtidkeglldmbfeaaPackIn3
import Derived.Laws.BitsAllLaws
import Derived.Laws.IdiomStrings
namespace Go.Proofs.Ytidkeglldmbfeaa
open Go Go.RowKit
set_option linter.unusedVariables false
set_option linter.unusedSimpArgs false
set_option maxRecDepth 100000

theorem nextR_le (n : Nat) (xs : List UInt8) (bad : Bool) : (nextR n xs bad).length ≤ n := by
  unfold nextR; split
  · simp; omega
  · simp
theorem numB_le (n : Nat) (l : List UInt8) (h : l.length ≤ n) : numB l < 256 ^ n := by
  have h1 := numB_lt l.length l rfl
  have h2 : 256 ^ l.length ≤ 256 ^ n := Nat.pow_le_pow_right (by omega) h
  omega
theorem numN_lt (n : Nat) (xs : List UInt8) (bad : Bool) : numB (nextR n xs bad) < 256 ^ n := numB_le n _ (nextR_le n xs bad)

/-- A take of a number of n bytes, answered in an integer kind. -/
def UPost (k : IntKind) (w : World) (p n : Nat) (xs : List UInt8) (bad : Bool) (e : Ending) (w' : World) : Prop :=
  ∃ v', e = .returned (.int k (numB (nextR n xs bad))) ∧ InV w' p v' (nextL n xs bad) (!can n xs bad) ∧ Only (fun k => k = p) w w'

set_option maxHeartbeats 400000 in
theorem inU64 (p : Nat) (v : Value) (xs : List UInt8) (bad : Bool) (w : World) (hI : InV w p v xs bad) :
    Calls Try.prog 52 #[.pointer (some ⟨p, 0, none⟩)] w (UPost .u64 w p 8 xs bad) := by
  go_enter Try.func52, Try.ntmps52
  go_wp2_with fail
  refine (number_any p 8 v xs bad w hI (by omega)).mono ?_
  rintro e w1 ⟨v', rfl, hI', ho⟩
  have HI' := Lib.hid hI'; clear hI'
  have HO := Lib.hid ho; clear ho
  go_wp2
  go_ret
  exact ⟨v', rfl, HI'.out, HO.out⟩


set_option maxHeartbeats 400000 in
theorem inU16 (p : Nat) (v : Value) (xs : List UInt8) (bad : Bool) (w : World) (hI : InV w p v xs bad) :
    Calls Try.prog 53 #[.pointer (some ⟨p, 0, none⟩)] w (UPost .u16 w p 2 xs bad) := by
  go_enter Try.func53, Try.ntmps53
  go_wp2_with fail
  refine (number_any p 2 v xs bad w hI (by omega)).mono ?_
  rintro e w1 ⟨v', rfl, hI', ho⟩
  have HI' := Lib.hid hI'; clear hI'
  have HO := Lib.hid ho; clear ho
  have HN := Lib.hid (numN_lt 2 xs bad)
  go_wp2
  go_ret
  refine ⟨v', ?_, HI'.out, HO.out⟩
  have := HN.out
  simp [IntKind.wrap_u16]
  omega

set_option maxHeartbeats 400000 in
theorem inU8 (p : Nat) (v : Value) (xs : List UInt8) (bad : Bool) (w : World) (hI : InV w p v xs bad) :
    Calls Try.prog 57 #[.pointer (some ⟨p, 0, none⟩)] w (UPost .u8 w p 1 xs bad) := by
  go_enter Try.func57, Try.ntmps57
  go_wp2_with fail
  refine (number_any p 1 v xs bad w hI (by omega)).mono ?_
  rintro e w1 ⟨v', rfl, hI', ho⟩
  have HI' := Lib.hid hI'; clear hI'
  have HO := Lib.hid ho; clear ho
  have HN := Lib.hid (numN_lt 1 xs bad)
  go_wp2
  go_ret
  refine ⟨v', ?_, HI'.out, HO.out⟩
  have := HN.out
  simp
  omega


/-- What a flag's take answers and leaves. -/
def flagOk (xs : List UInt8) (bad : Bool) : Bool := can 1 xs bad && decide ((xs.headD 0).toNat ≤ 1)
def flagR (xs : List UInt8) (bad : Bool) : Bool := flagOk xs bad && decide ((xs.headD 0).toNat = 1)
def flagL (xs : List UInt8) (bad : Bool) : List UInt8 := if flagOk xs bad then xs.drop 1 else xs
def FlagPost (w : World) (p : Nat) (xs : List UInt8) (bad : Bool) (e : Ending) (w' : World) : Prop :=
  ∃ v', e = .returned (.bool (flagR xs bad)) ∧ InV w' p v' (flagL xs bad) (!flagOk xs bad) ∧ Only (fun k => k = p) w w'





end Go.Proofs.Ytidkeglldmbfeaa
