/-
  The digits of bytes: package value's hex and escape.
-/
import Derived.Test.YtpedcpehomkikaaDoorValSt2
import Derived.Test.YtpedcpehomkikaaDoorVal2
import Derived.Laws.BitsAllLaws
namespace Go.Proofs.YtpedcpehomkikaaDoor
open Go Go.RowKit
set_option linter.unusedVariables false
set_option linter.unusedSimpArgs false
set_option maxRecDepth 100000

theorem dig_nat (i : Nat) (hi : i < ByteArray.size { data := #[48, 49, 50, 51, 52, 53, 54, 55, 56, 57, 97, 98, 99, 100, 101, 102] }) :
    (({ data := #[48, 49, 50, 51, 52, 53, 54, 55, 56, 57, 97, 98, 99, 100, 101, 102] } : ByteArray)[i]'hi).toNat = (hexd i).toNat := by
  have h16 : i < 16 := hi
  have : i = 0 ∨ i = 1 ∨ i = 2 ∨ i = 3 ∨ i = 4 ∨ i = 5 ∨ i = 6 ∨ i = 7 ∨ i = 8 ∨ i = 9 ∨ i = 10 ∨ i = 11 ∨ i = 12 ∨ i = 13 ∨ i = 14 ∨ i = 15 := by omega
  rcases this with h | h | h | h | h | h | h | h | h | h | h | h | h | h | h | h <;> subst h <;> rfl
theorem dig_int {z : Int} {i : Nat} (hi : i < ByteArray.size { data := #[48, 49, 50, 51, 52, 53, 54, 55, 56, 57, 97, 98, 99, 100, 101, 102] })
    (hz : z = ((({ data := #[48, 49, 50, 51, 52, 53, 54, 55, 56, 57, 97, 98, 99, 100, 101, 102] } : ByteArray)[i]'hi).toNat : Int)) : z = ((hexd i).toNat : Int) := by rw [hz, dig_nat]
theorem dig_index (z : Int) (i : Nat) (hz : z = (i : Int)) (hi : i < 16) (w : World) : (Instr.index 9 (.string { data := #[48, 49, 50, 51, 52, 53, 54, 55, 56, 57, 97, 98, 99, 100, 101, 102] }) (.int .u8 z)).run Tryd.prog w = .ok (.int .u8 ((hexd i).toNat : Int)) w := by
  subst hz
  rw [run_index_string w _ _ _ _ Tryd.underlying9, dif_pos ⟨by omega, by show (i : Int) < 16; omega⟩]
  rw [dig_nat (i := ((i : Int)).toNat) (by show _ < 16; omega)]
  rfl
theorem ret_s {a b : List UInt8} (h : a = b) : Ending.returned (Value.string ⟨a.toArray⟩) = .returned (.string ⟨b.toArray⟩) := by rw [h]
theorem and15 (x : UInt8) : bits .and .u8 (x.toNat : Int) 15 = ((x.toNat % 16 : Nat) : Int) := by
  have h : ∀ y : Fin 256, bits .and .u8 (y.val : Int) 15 = ((y.val % 16 : Nat) : Int) := by decide
  exact h ⟨x.toNat, x.toNat_lt⟩
theorem hexB_snoc : ∀ (l : List UInt8) (c : UInt8), hexB (l ++ [c]) = hexB l ++ [hexd (c.toNat / 16)] ++ [hexd (c.toNat % 16)]
  | [], c => rfl
  | d :: r, c => by show _ :: _ :: hexB (r ++ [c]) = _; rw [hexB_snoc r c]; rfl
theorem hexB_length : ∀ l, (hexB l).length = 2 * l.length
  | [] => rfl
  | c :: r => by simp only [hexB, List.length_cons, hexB_length r]; omega
theorem ba_size (s : ByteArray) : s.toList.length = s.size := by rw [ByteArray.toList_eq]; rfl
theorem ba_get (s : ByteArray) (k : Nat) (h : k < s.size) : s.toList[k]? = some s[k] := by
  rw [ByteArray.toList_eq]
  have h2 : k < s.data.size := h
  rw [List.getElem?_eq_getElem (by simpa using h2)]
  rfl
theorem take_step (s : ByteArray) (k : Nat) (h : k < s.size) : s.toList.take (k + 1) = s.toList.take k ++ [s[k]] := by
  rw [List.take_add_one, ba_get s k h]; rfl


theorem ba_append (a b : ByteArray) : (a ++ b).toList = a.toList ++ b.toList := by
  rw [ByteArray.toList_eq, ByteArray.toList_eq, ByteArray.toList_eq]; simp
theorem ba92 : (ByteArray.mk #[92]).toList = [92] := ByteArray.toList_mk [92]
theorem ba92s : (ByteArray.mk #[92]).size = 1 := rfl
theorem ba_one (s : ByteArray) (k : Nat) (h : k < s.size) : (s.extract k (k + 1)).toList = [s[k]] := by
  have h2 : k < s.data.size := h
  rw [ByteArray.toList_eq, ByteArray.data_extract]
  apply List.ext_getElem
  · simp; omega
  · intro i h1 h3
    simp at h3
    subst h3
    simp
    rfl
theorem escB_snoc : ∀ (l : List UInt8) (c : UInt8), escB (l ++ [c]) = escB l ++ (if escd c = true then 92 :: hexB [c] else [c])
  | [], c => by simp only [List.nil_append, escB]; split <;> rfl
  | d :: r, c => by
    rw [List.cons_append, escB, escB_snoc r c, escB]
    by_cases h : escd d = true <;> simp [h]
theorem escB_length : ∀ l, (escB l).length ≤ 3 * l.length
  | [] => Nat.le_refl _
  | c :: r => by
    have := escB_length r
    rw [escB]
    split <;> simp only [List.length_cons] <;> omega


end Go.Proofs.YtpedcpehomkikaaDoor
