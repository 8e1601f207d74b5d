/-
  The digits of bytes: package value's hex and escape.
-/
import Derived.Test.YtcpfohjejhkgbaaDoorValSt2
import Derived.Test.YtcpfohjejhkgbaaDoorVal2
import Derived.Laws.BitsAllLaws
namespace Go.Proofs.YtcpfohjejhkgbaaDoor
open Go Go.RowKit
set_option linter.unusedVariables false
set_option linter.unusedSimpArgs false
set_option maxRecDepth 100000

theorem dig_nat (i : Nat) (hi : i < ByteArray.size { data := #[48, 49, 50, 51, 52, 53, 54, 55, 56, 57, 97, 98, 99, 100, 101, 102] }) :
    (({ data := #[48, 49, 50, 51, 52, 53, 54, 55, 56, 57, 97, 98, 99, 100, 101, 102] } : ByteArray)[i]'hi).toNat = (hexd i).toNat := by
  have h16 : i < 16 := hi
  have : i = 0 ∨ i = 1 ∨ i = 2 ∨ i = 3 ∨ i = 4 ∨ i = 5 ∨ i = 6 ∨ i = 7 ∨ i = 8 ∨ i = 9 ∨ i = 10 ∨ i = 11 ∨ i = 12 ∨ i = 13 ∨ i = 14 ∨ i = 15 := by omega
  rcases this with h | h | h | h | h | h | h | h | h | h | h | h | h | h | h | h <;> subst h <;> rfl
theorem dig_int {z : Int} {i : Nat} (hi : i < ByteArray.size { data := #[48, 49, 50, 51, 52, 53, 54, 55, 56, 57, 97, 98, 99, 100, 101, 102] })
    (hz : z = ((({ data := #[48, 49, 50, 51, 52, 53, 54, 55, 56, 57, 97, 98, 99, 100, 101, 102] } : ByteArray)[i]'hi).toNat : Int)) : z = ((hexd i).toNat : Int) := by rw [hz, dig_nat]
theorem dig_index (z : Int) (i : Nat) (hz : z = (i : Int)) (hi : i < 16) (w : World) : (Instr.index 9 (.string { data := #[48, 49, 50, 51, 52, 53, 54, 55, 56, 57, 97, 98, 99, 100, 101, 102] }) (.int .u8 z)).run Tryd.prog w = .ok (.int .u8 ((hexd i).toNat : Int)) w := by
  subst hz
  rw [run_index_string w _ _ _ _ Tryd.underlying9, dif_pos ⟨by omega, by show (i : Int) < 16; omega⟩]
  rw [dig_nat (i := ((i : Int)).toNat) (by show _ < 16; omega)]
  rfl
theorem ret_s {a b : List UInt8} (h : a = b) : Ending.returned (Value.string ⟨a.toArray⟩) = .returned (.string ⟨b.toArray⟩) := by rw [h]
theorem and15 (x : UInt8) : bits .and .u8 (x.toNat : Int) 15 = ((x.toNat % 16 : Nat) : Int) := by
  have h : ∀ y : Fin 256, bits .and .u8 (y.val : Int) 15 = ((y.val % 16 : Nat) : Int) := by decide
  exact h ⟨x.toNat, x.toNat_lt⟩
theorem hexB_snoc : ∀ (l : List UInt8) (c : UInt8), hexB (l ++ [c]) = hexB l ++ [hexd (c.toNat / 16)] ++ [hexd (c.toNat % 16)]
  | [], c => rfl
  | d :: r, c => by show _ :: _ :: hexB (r ++ [c]) = _; rw [hexB_snoc r c]; rfl
theorem hexB_length : ∀ l, (hexB l).length = 2 * l.length
  | [] => rfl
  | c :: r => by simp only [hexB, List.length_cons, hexB_length r]; omega
theorem ba_size (s : ByteArray) : s.toList.length = s.size := by rw [ByteArray.toList_eq]; rfl
theorem ba_get (s : ByteArray) (k : Nat) (h : k < s.size) : s.toList[k]? = some s[k] := by
  rw [ByteArray.toList_eq]
  have h2 : k < s.data.size := h
  rw [List.getElem?_eq_getElem (by simpa using h2)]
  rfl
theorem take_step (s : ByteArray) (k : Nat) (h : k < s.size) : s.toList.take (k + 1) = s.toList.take k ++ [s[k]] := by
  rw [List.take_add_one, ba_get s k h]; rfl

theorem hex_any (s : ByteArray) (w : World) (hs : s.size ≤ 4096) :
    Calls Tryd.prog 16 #[.string s] w fun e w' => e = .returned (.string ⟨(hexB s.toList).toArray⟩) ∧ Below w.heap.size w w' := by
  go_enter Tryd.func16, Tryd.ntmps16
  go_wp2
  go_loopw [4, 7] (fun _ i wr => ∃ k : Nat, k ≤ s.size ∧ i = .int .i64 k ∧ Hid (Bld w w.heap.size (hexB (s.toList.take k)) wr)) (fun _ i _ => s.size - (intOf i).toNat)
  case atStart => exact ⟨0, Nat.zero_le _, rfl, Lib.hid (Bld.fresh w)⟩
  case round =>
    obtain ⟨k, hk, rfl, HB⟩ := hrel
    by_cases hlt : k < s.size
    · obtain ⟨c, hc⟩ : ∃ c, c = s[k] := ⟨_, rfl⟩
      have HC := Lib.hid hc
      have h1 := dig_index ((c.toNat : Int) / 16) (c.toNat / 16) (by omega) (by have := c.toNat_lt; omega)
      have h2 := dig_index ((c.toNat % 16 : Nat) : Int) (c.toNat % 16) rfl (by omega)
      have ha := and15 c
      have hlen : (hexB (s.toList.take k)).length ≤ 8192 := by rw [hexB_length]; have := List.length_take_le k s.toList; omega
      have HL := Lib.hid hlen
      obtain ⟨l, hl⟩ : ∃ l, hexB (s.toList.take k) = l := ⟨_, rfl⟩
      rw [hl] at HB HL
      have HLe := Lib.hid hl
      clear hlen hl
      rw [hc] at ha h1 h2
      clear hc
      go_wp2_with fail
      refine (HB.out.wbyte (by have := HL.out; omega) (hexd (c.toNat / 16)) _ (by first | (rw [HC.out]; done) | (rw [HC.out]; exact dig_int _ rfl))).mono ?_
      rintro e w1 ⟨rfl, hb1⟩
      have H1 := Lib.hid hb1
      clear hb1 HB
      go_wp2_with fail
      refine (H1.out.wbyte (by have := HL.out; simp; omega) (hexd (c.toNat % 16)) _ (by first | (rw [HC.out]; done) | (rw [HC.out]; exact dig_int _ rfl))).mono ?_
      rintro e w2 ⟨rfl, hb2⟩
      have H2 := Lib.hid hb2
      clear hb2 H1
      go_wp2_with fail
      go_roundw
      case rel => exact ⟨k + 1, by omega, by go_num, Lib.hid (by rw [take_step s k hlt, hexB_snoc, HLe.out, ← HC.out]; exact H2.out)⟩
      case measure => simp [intOf]; omega
    · go_wp2_with fail
      refine (HB.out.string).mono ?_
      rintro e w1 ⟨rfl, hb⟩
      have H := Lib.hid hb
      clear hb HB
      go_wp2_with fail
      go_ret
      exact ⟨ret_s (by rw [List.take_of_length_le (by rw [ba_size]; omega)]), H.out⟩

theorem ba_append (a b : ByteArray) : (a ++ b).toList = a.toList ++ b.toList := by
  rw [ByteArray.toList_eq, ByteArray.toList_eq, ByteArray.toList_eq]; simp
theorem ba92 : (ByteArray.mk #[92]).toList = [92] := ByteArray.toList_mk [92]
theorem ba92s : (ByteArray.mk #[92]).size = 1 := rfl
theorem ba_one (s : ByteArray) (k : Nat) (h : k < s.size) : (s.extract k (k + 1)).toList = [s[k]] := by
  have h2 : k < s.data.size := h
  rw [ByteArray.toList_eq, ByteArray.data_extract]
  apply List.ext_getElem
  · simp; omega
  · intro i h1 h3
    simp at h3
    subst h3
    simp
    rfl
theorem escB_snoc : ∀ (l : List UInt8) (c : UInt8), escB (l ++ [c]) = escB l ++ (if escd c = true then 92 :: hexB [c] else [c])
  | [], c => by simp only [List.nil_append, escB]; split <;> rfl
  | d :: r, c => by
    rw [List.cons_append, escB, escB_snoc r c, escB]
    by_cases h : escd d = true <;> simp [h]
theorem escB_length : ∀ l, (escB l).length ≤ 3 * l.length
  | [] => Nat.le_refl _
  | c :: r => by
    have := escB_length r
    rw [escB]
    split <;> simp only [List.length_cons] <;> omega

set_option maxHeartbeats 2000000 in
theorem escape_any (s : ByteArray) (w : World) (hs : s.size ≤ 4096) :
    Calls Tryd.prog 17 #[.string s] w fun e w' => e = .returned (.string ⟨(escB s.toList).toArray⟩) ∧ Below w.heap.size w w' := by
  go_enter Tryd.func17, Tryd.ntmps17
  go_wp2
  go_loopw [4, 5, 8] (fun _ _ i wr => ∃ k : Nat, k ≤ s.size ∧ i = .int .i64 k ∧ Hid (Bld w w.heap.size (escB (s.toList.take k)) wr)) (fun _ _ i _ => s.size - (intOf i).toNat)
  case atStart => exact ⟨0, Nat.zero_le _, rfl, Lib.hid (Bld.fresh w)⟩
  case round =>
    obtain ⟨k, hk, rfl, HB⟩ := hrel
    by_cases hlt : k < s.size
    · obtain ⟨c, hc⟩ : ∃ c, c = s[k] := ⟨_, rfl⟩
      have HC := Lib.hid hc
      have hlen : (escB (s.toList.take k)).length ≤ 16384 := by have := escB_length (s.toList.take k); have := List.length_take_le k s.toList; omega
      have HL := Lib.hid hlen
      have HS : Hid (escB (s.toList.take (k + 1)) = escB (s.toList.take k) ++ (if escd c = true then 92 :: hexB [c] else [c])) := Lib.hid (by rw [take_step s k hlt, escB_snoc, hc])
      obtain ⟨l, hl⟩ : ∃ l, escB (s.toList.take k) = l := ⟨_, rfl⟩
      rw [hl] at HB HL HS
      obtain ⟨z, hz⟩ : ∃ z : Int, (s[k].toNat : Int) = z := ⟨_, rfl⟩
      have HZ : Hid (z = (c.toNat : Int)) := Lib.hid (by rw [hc, hz])
      have h256 : 0 ≤ z ∧ z < 256 := by have := c.toNat_lt; have := HZ.out; omega
      have HONE := Lib.hid (ba_one s k hlt)
      have hk1 : (k : Int) + 1 ≤ s.size := by omega
      clear hc hlen hl
      by_cases he : escd c = true
      · have HT : Hid (escB (s.toList.take (k + 1)) = l ++ (92 :: hexB [c])) := Lib.hid (by rw [HS.out, if_pos he])
        have hways : z < 33 ∨ (¬ z < 33 ∧ 126 < z) ∨ (¬ z < 33 ∧ ¬ 126 < z ∧ z = 34) ∨ (¬ z < 33 ∧ ¬ 126 < z ∧ z ≠ 34 ∧ z = 92) := by
          have := HZ.out
          simp [escd] at he
          omega
        have HX : Hid ((s.extract k (k + 1)).size = 1) := Lib.hid (by rw [← ba_size, HONE.out]; rfl)
        clear he HS
        obtain ⟨x, hx⟩ : ∃ x, s.extract k (k + 1) = x := ⟨_, rfl⟩
        have HX1 : Hid (x.size = 1) := Lib.hid (by rw [← hx]; exact HX.out)
        have HX2 : Hid (x.toList = [c]) := Lib.hid (by rw [← hx, HONE.out, ← HC.out])
        rcases hways with h | ⟨h1, h2⟩ | ⟨h1, h2, h3⟩ | ⟨h1, h2, h3, h4⟩
        all_goals
          (try have hb3 : (z == 34) = true := by simpa using h3)
          (try have hb3 : (z == 34) = false := by simpa using h3)
          (try have hb4 : (z == 92) = true := by simpa using h4)
          (try clear h3)
          (try clear h4)
          go_wp2_with fail
          refine (hex_any x _ (by rw [HX1.out]; decide)).mono ?_
          rintro e w1 ⟨rfl, hb1⟩
          have H1 := Lib.hid (HB.out.old hb1)
          clear hb1 HB
          obtain ⟨y, hy⟩ : ∃ y : ByteArray, (⟨(hexB x.toList).toArray⟩ : ByteArray) = y := ⟨_, rfl⟩
          have HY : Hid (y.toList = hexB [c]) := Lib.hid (by rw [← hy, HX2.out, ByteArray.toList_mk])
          have hys : y.size = 2 := by rw [← ba_size, HY.out]; rfl
          rw [hy]
          have HYS := Lib.hid hys
          have hyi : (y.size : Int) ≤ 8388608 := by omega
          clear hy hys
          go_wp2_with fail
          refine (H1.out.wstr _ (by have := HL.out; have := HYS.out; rw [ByteArray.size_append, ba92s]; omega)).mono ?_
          rintro e w2 ⟨rfl, hb2⟩
          have H2 := Lib.hid hb2
          clear hb2 H1
          go_wp2_with fail
          go_roundw
          case rel => exact ⟨k + 1, by omega, by go_num, Lib.hid (by have h := H2.out; rw [ba_append, HY.out, ba92] at h; rw [HT.out]; exact h)⟩
          case measure => simp [intOf]; omega
      · have HT : Hid (escB (s.toList.take (k + 1)) = l ++ [c]) := Lib.hid (by rw [HS.out, if_neg he])
        have hw : ¬ z < 33 ∧ ¬ 126 < z ∧ z ≠ 34 ∧ z ≠ 92 := by
          have := HZ.out
          simp [escd] at he
          omega
        obtain ⟨h1, h2, h3, h4⟩ := hw
        have hb3 : (z == 34) = false := by simpa using h3
        have hb4 : (z == 92) = false := by simpa using h4
        clear he HS h3 h4
        go_wp2_with fail
        refine (HB.out.wbyte (by have := HL.out; omega) c _ HZ.out).mono ?_
        rintro e w1 ⟨rfl, hb1⟩
        have H1 := Lib.hid hb1
        clear hb1 HB
        go_wp2_with fail
        go_roundw
        case rel => exact ⟨k + 1, by omega, by go_num, Lib.hid (by rw [HT.out]; exact H1.out)⟩
        case measure => simp [intOf]; omega
    · go_wp2_with fail
      refine (HB.out.string).mono ?_
      rintro e w1 ⟨rfl, hb⟩
      have H := Lib.hid hb
      clear hb HB
      go_wp2_with fail
      go_ret
      exact ⟨ret_s (by rw [List.take_of_length_le (by rw [ba_size]; omega)]), H.out⟩

end Go.Proofs.YtcpfohjejhkgbaaDoor
