/-
  Names: package value's Name and the reference's.
-/
import Derived.Test.YtcpfohjejhkgbaaDoorVal5
namespace Go.Proofs.YtcpfohjejhkgbaaDoor
open Go Go.RowKit
set_option linter.unusedVariables false
set_option linter.unusedSimpArgs false
set_option maxRecDepth 100000

def letZ (z : Int) : Bool := decide (97 ≤ z) && decide (z ≤ 122)
def digZ (z : Int) : Bool := decide (48 ≤ z) && decide (z ≤ 57)
def nmc (c : UInt8) : Bool := letZ c.toNat || (digZ c.toNat || decide ((c.toNat : Int) = 95))
def nameB (l : List UInt8) : Bool := decide (1 ≤ l.length) && (decide (l.length ≤ 16) && (letZ (l.getD 0 0).toNat && l.all nmc))
theorem letter_any (z : Int) (w : World) : Calls Tryd.prog 28 #[.int .u8 z] w fun e w' => e = .returned (.bool (letZ z)) ∧ w = w' := by
  obtain ⟨b, hb⟩ : ∃ b, letZ z = b := ⟨_, rfl⟩
  rw [hb]
  unfold letZ at hb
  by_cases h1 : 97 ≤ z
  · have h2 : decide (97 ≤ z) = true := decide_eq_true h1
    rw [h2, Bool.true_and] at hb
    clear h2
    have H := Lib.hid hb
    clear hb
    go_enter Tryd.func28, Tryd.ntmps28
    go_wp2
    go_ret
    exact ⟨ret_b H.out, rfl⟩
  · have h2 : decide (97 ≤ z) = false := decide_eq_false h1
    rw [h2, Bool.false_and] at hb
    clear h2
    subst hb
    go_enter Tryd.func28, Tryd.ntmps28
    go_wp2
    go_ret
    exact ⟨rfl, rfl⟩
theorem digit_any (z : Int) (w : World) : Calls Tryd.prog 29 #[.int .u8 z] w fun e w' => e = .returned (.bool (digZ z)) ∧ w = w' := by
  obtain ⟨b, hb⟩ : ∃ b, digZ z = b := ⟨_, rfl⟩
  rw [hb]
  unfold digZ at hb
  by_cases h1 : 48 ≤ z
  · have h2 : decide (48 ≤ z) = true := decide_eq_true h1
    rw [h2, Bool.true_and] at hb
    clear h2
    have H := Lib.hid hb
    clear hb
    go_enter Tryd.func29, Tryd.ntmps29
    go_wp2
    go_ret
    exact ⟨ret_b H.out, rfl⟩
  · have h2 : decide (48 ≤ z) = false := decide_eq_false h1
    rw [h2, Bool.false_and] at hb
    clear h2
    subst hb
    go_enter Tryd.func29, Tryd.ntmps29
    go_wp2
    go_ret
    exact ⟨rfl, rfl⟩
theorem all_step (s : ByteArray) (k : Nat) (h : k < s.size) (p : UInt8 → Bool) : (s.toList.take (k + 1)).all p = ((s.toList.take k).all p && p s[k]) := by
  rw [take_step s k h, List.all_append]; simp
theorem all_no (s : ByteArray) (k : Nat) (h : k < s.size) (p : UInt8 → Bool) (hp : p s[k] = false) : s.toList.all p = false := by
  rw [List.all_eq_false]
  exact ⟨s[k], List.mem_of_getElem? (ba_get s k h), by simp [hp]⟩
theorem ba_first (s : ByteArray) (h : 0 < s.size) : s.toList.getD 0 0 = s[0] := by
  rw [List.getD_eq_getElem?_getD, ba_get s 0 h]; rfl
theorem letter_y (z : Int) (h : letZ z = true) (w : World) : Calls Tryd.prog 28 #[.int .u8 z] w fun e w' => e = .returned (.bool true) ∧ w = w' := by
  have := letter_any z w; rw [h] at this; exact this
theorem letter_n (z : Int) (h : letZ z = false) (w : World) : Calls Tryd.prog 28 #[.int .u8 z] w fun e w' => e = .returned (.bool false) ∧ w = w' := by
  have := letter_any z w; rw [h] at this; exact this
theorem digit_y (z : Int) (h : digZ z = true) (w : World) : Calls Tryd.prog 29 #[.int .u8 z] w fun e w' => e = .returned (.bool true) ∧ w = w' := by
  have := digit_any z w; rw [h] at this; exact this
theorem digit_n (z : Int) (h : digZ z = false) (w : World) : Calls Tryd.prog 29 #[.int .u8 z] w fun e w' => e = .returned (.bool false) ∧ w = w' := by
  have := digit_any z w; rw [h] at this; exact this
theorem empty_of {s : ByteArray} (h : s.size = 0) : s.toList.isEmpty = true := by
  have := ba_size s
  rw [h] at this
  rw [List.isEmpty_iff]
  exact List.eq_nil_of_length_eq_zero this
theorem nonempty_of {s : ByteArray} (h : 0 < s.size) : s.toList.isEmpty = false := by
  have := ba_size s
  cases hl : s.toList with
  | nil => rw [hl] at this; simp at this; omega
  | cons => rfl

set_option maxHeartbeats 1000000 in
theorem name_any (s : ByteArray) (w : World) : Calls Tryd.prog 11 #[.string s] w fun e w' => e = .returned (.bool (nameB s.toList)) ∧ w = w' := by
  obtain ⟨B, hB⟩ : ∃ B, nameB s.toList = B := ⟨_, rfl⟩
  rw [hB]
  have hsz := ba_size s
  unfold nameB at hB
  rw [hsz] at hB
  by_cases h0 : s.size = 0
  · have he := empty_of h0
    rw [decide_eq_false (show ¬ 1 ≤ s.size by omega), Bool.false_and] at hB
    subst hB
    clear hsz h0
    go_enter Tryd.func11, Tryd.ntmps11
    go_wp2
    go_ret
    exact ⟨rfl, rfl⟩
  have hp0 : 0 < s.size := by omega
  have he := nonempty_of hp0
  have hpos : (0 : Int) < s.size := by omega
  rw [decide_eq_true (show 1 ≤ s.size by omega), Bool.true_and] at hB
  by_cases h16 : s.size ≤ 16
  case neg =>
    rw [decide_eq_false h16, Bool.false_and] at hB
    subst hB
    have hgt : (16 : Int) < s.size := by omega
    clear hsz h0 h16
    go_enter Tryd.func11, Tryd.ntmps11
    go_wp2
    go_ret
    exact ⟨rfl, rfl⟩
  rw [decide_eq_true h16, Bool.true_and, ba_first s hp0] at hB
  have hle : (s.size : Int) ≤ 16 := by omega
  obtain ⟨z, hz⟩ : ∃ z : Int, ((s[0]'hp0).toNat : Int) = z := ⟨_, rfl⟩
  rw [hz] at hB
  by_cases hl : letZ z = true
  case neg =>
    have hl : letZ z = false := by simpa using hl
    rw [hl, Bool.false_and] at hB
    subst hB
    have HL := Lib.hid hl
    clear hsz h0 h16 hl
    go_enter Tryd.func11, Tryd.ntmps11
    go_wp2_with fail
    refine (letter_n z HL.out _).mono ?_
    rintro e w' ⟨rfl, rfl⟩
    go_wp2
    go_ret
    exact ⟨rfl, rfl⟩
  rw [hl, Bool.true_and] at hB
  have HL := Lib.hid hl
  have HBE := Lib.hid hB
  have H16 := Lib.hid h16
  clear hsz h0 h16 hl hB
  go_enter Tryd.func11, Tryd.ntmps11
  go_wp2_with fail
  refine (letter_y z HL.out _).mono ?_
  rintro e w' ⟨rfl, rfl⟩
  go_wp2_with fail
  go_loop [3, 4, 20] (fun _ _ i => ∃ k : Nat, k ≤ s.size ∧ i = .int .i64 k ∧ Hid ((s.toList.take k).all nmc = true)) (fun _ _ i => s.size - (intOf i).toNat)
  case atStart => exact ⟨0, Nat.zero_le _, rfl, Lib.hid rfl⟩
  case round =>
    obtain ⟨k, hk, rfl, HA⟩ := hrel
    clear hz
    by_cases hlt : k < s.size
    · obtain ⟨y, hy⟩ : ∃ y : Int, (s[k].toNat : Int) = y := ⟨_, rfl⟩
      have HN : Hid (nmc s[k] = (letZ y || (digZ y || decide (y = 95)))) := Lib.hid (by rw [nmc, hy])
      have HST := Lib.hid (all_step s k hlt nmc)
      by_cases hl : letZ y = true
      · have HLY := Lib.hid hl
        clear hl
        go_wp2_with fail
        refine (letter_y y HLY.out _).mono ?_
        rintro e w' ⟨rfl, rfl⟩
        go_wp2_with fail
        go_round
        case rel => exact ⟨k + 1, by omega, by go_num, Lib.hid (by rw [HST.out, HA.out, HN.out, HLY.out]; rfl)⟩
        case measure => simp [intOf]; omega
      have HLY := Lib.hid (show letZ y = false by simpa using hl)
      clear hl
      by_cases hd : digZ y = true
      · have HDY := Lib.hid hd
        clear hd
        go_wp2_with fail
        refine (letter_n y HLY.out _).mono ?_
        rintro e w' ⟨rfl, rfl⟩
        go_wp2_with fail
        refine (digit_y y HDY.out _).mono ?_
        rintro e w' ⟨rfl, rfl⟩
        go_wp2_with fail
        go_round
        case rel => exact ⟨k + 1, by omega, by go_num, Lib.hid (by rw [HST.out, HA.out, HN.out, HLY.out, HDY.out]; rfl)⟩
        case measure => simp [intOf]; omega
      have HDY := Lib.hid (show digZ y = false by simpa using hd)
      clear hd
      by_cases hu : y = 95
      · have hub : (y != 95) = false := by simpa using hu
        have HU := Lib.hid hu
        clear hu
        go_wp2_with fail
        refine (letter_n y HLY.out _).mono ?_
        rintro e w' ⟨rfl, rfl⟩
        go_wp2_with fail
        refine (digit_n y HDY.out _).mono ?_
        rintro e w' ⟨rfl, rfl⟩
        go_wp2_with fail
        go_round
        case rel => exact ⟨k + 1, by omega, by go_num, Lib.hid (by rw [HST.out, HA.out, HN.out, HLY.out, HDY.out, decide_eq_true HU.out]; rfl)⟩
        case measure => simp [intOf]; omega
      · have hub : (y != 95) = true := by simpa using hu
        have HNO : Hid (B = false) := Lib.hid (by rw [← HBE.out]; exact all_no s k hlt nmc (by rw [HN.out, HLY.out, HDY.out, decide_eq_false hu]; rfl))
        clear hu
        go_wp2_with fail
        refine (letter_n y HLY.out _).mono ?_
        rintro e w' ⟨rfl, rfl⟩
        go_wp2_with fail
        refine (digit_n y HDY.out _).mono ?_
        rintro e w' ⟨rfl, rfl⟩
        go_wp2_with fail
        go_ret
        exact ⟨ret_b HNO.out.symm, rfl⟩
    · have HY : Hid (B = true) := Lib.hid (by rw [← HBE.out, ← HA.out, List.take_of_length_le (by rw [ba_size]; omega)])
      go_wp2
      go_ret
      exact ⟨ret_b HY.out.symm, rfl⟩

end Go.Proofs.YtcpfohjejhkgbaaDoor
