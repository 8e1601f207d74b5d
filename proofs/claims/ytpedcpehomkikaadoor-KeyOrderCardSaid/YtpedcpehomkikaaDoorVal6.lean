/-
  Names: package value's Name and the reference's.
-/
import Derived.Test.YtpedcpehomkikaaDoorVal5
namespace Go.Proofs.YtpedcpehomkikaaDoor
open Go Go.RowKit
set_option linter.unusedVariables false
set_option linter.unusedSimpArgs false
set_option maxRecDepth 100000

def letZ (z : Int) : Bool := decide (97 ≤ z) && decide (z ≤ 122)
def digZ (z : Int) : Bool := decide (48 ≤ z) && decide (z ≤ 57)
def nmc (c : UInt8) : Bool := letZ c.toNat || (digZ c.toNat || decide ((c.toNat : Int) = 95))
def nameB (l : List UInt8) : Bool := decide (1 ≤ l.length) && (decide (l.length ≤ 16) && (letZ (l.getD 0 0).toNat && l.all nmc))


theorem all_step (s : ByteArray) (k : Nat) (h : k < s.size) (p : UInt8 → Bool) : (s.toList.take (k + 1)).all p = ((s.toList.take k).all p && p s[k]) := by
  rw [take_step s k h, List.all_append]; simp
theorem all_no (s : ByteArray) (k : Nat) (h : k < s.size) (p : UInt8 → Bool) (hp : p s[k] = false) : s.toList.all p = false := by
  rw [List.all_eq_false]
  exact ⟨s[k], List.mem_of_getElem? (ba_get s k h), by simp [hp]⟩
theorem ba_first (s : ByteArray) (h : 0 < s.size) : s.toList.getD 0 0 = s[0] := by
  rw [List.getD_eq_getElem?_getD, ba_get s 0 h]; rfl




theorem empty_of {s : ByteArray} (h : s.size = 0) : s.toList.isEmpty = true := by
  have := ba_size s
  rw [h] at this
  rw [List.isEmpty_iff]
  exact List.eq_nil_of_length_eq_zero this
theorem nonempty_of {s : ByteArray} (h : 0 < s.size) : s.toList.isEmpty = false := by
  have := ba_size s
  cases hl : s.toList with
  | nil => rw [hl] at this; simp at this; omega
  | cons => rfl


end Go.Proofs.YtpedcpehomkikaaDoor
