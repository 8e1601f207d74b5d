/-
  The reference's half: of a byte the digit that it is.
-/
import Derived.Test.YtcpfohjejhkgbaaDoorValR3
namespace Go.Proofs.YtcpfohjejhkgbaaDoor
open Go Go.RowKit
set_option linter.unusedVariables false
set_option linter.unusedSimpArgs false
set_option maxRecDepth 100000

abbrev hexT : ByteArray := ⟨#[48, 49, 50, 51, 52, 53, 54, 55, 56, 57, 97, 98, 99, 100, 101, 102]⟩
theorem hexT_get : ∀ i : Fin 16, (hexT[i.val]'(by have := i.isLt; show i.val < 16; exact this)) = hexd i.val := by decide
theorem half_not {c : UInt8} {k : Nat} (h : ∀ i, i < k → hexd i ≠ c) (hk : k = 16) : half c = 16 := by
  subst hk
  unfold half
  by_cases h1 : 48 ≤ c.toNat ∧ c.toNat ≤ 57
  · exact absurd (show hexd (c.toNat - 48) = c by
      unfold hexd; rw [if_pos (by omega)]; apply UInt8.toNat_inj.1; simp; omega) (h _ (by omega))
  rw [if_neg h1]
  by_cases h2 : 97 ≤ c.toNat ∧ c.toNat ≤ 102
  · exact absurd (show hexd (c.toNat - 87) = c by
      unfold hexd; rw [if_neg (by omega)]; apply UInt8.toNat_inj.1; simp; omega) (h _ (by omega))
  rw [if_neg h2]

set_option maxHeartbeats 2000000 in
theorem rhalf_any (c : UInt8) (w : World) :
    Calls Tryd.prog 44 #[.int .u8 (c.toNat : Int)] w fun e w' => e = .returned (.int .i64 ((half c : Nat) : Int)) ∧ w = w' := by
  obtain ⟨z, hz⟩ : ∃ z : Int, (c.toNat : Int) = z := ⟨_, rfl⟩
  have HZ := Lib.hid hz
  obtain ⟨H, hH⟩ : ∃ H : Int, ((half c : Nat) : Int) = H := ⟨_, rfl⟩
  rw [hz, hH]
  have HH := Lib.hid hH
  clear hz hH
  go_enter Tryd.func44, Tryd.ntmps44
  go_wp2_with fail
  go_loop [3] (fun i => ∃ k : Nat, k ≤ 16 ∧ i = .int .i64 k ∧ Hid (∀ i, i < k → hexd i ≠ c)) (fun i => 16 - (intOf i).toNat)
  case atStart => exact ⟨0, by omega, rfl, Lib.hid (fun i h => absurd h (by omega))⟩
  case round =>
    obtain ⟨k, hk, rfl, HA⟩ := hrel
    by_cases hlt : k < 16
    · obtain ⟨y, hy⟩ : ∃ y : Int, ((hexd k).toNat : Int) = y := ⟨_, rfl⟩
      have hltI : (k : Int) < 16 := by omega
      have hix : ∀ W, (Instr.index 9 (.string hexT) (.int .i64 (k : Int))).run Tryd.prog W = .ok (.int .u8 y) W := fun W => by
        rw [run_index_string W _ _ _ _ Tryd.underlying9, dif_pos ⟨by omega, by show ((k : Int)) < ((16 : Nat) : Int); omega⟩]
        have h3 : ((k : Int)).toNat = k := by omega
        simp only [h3]
        have h4 := hexT_get ⟨k, hlt⟩
        rw [← hy, ← h4]
      by_cases he : y = z
      · have HE : Hid ((k : Int) = H) := Lib.hid (by
          rw [← HH.out]
          have : hexd k = c := UInt8.toNat_inj.1 (by have := HZ.out; omega)
          rw [← this, half_hex hlt])
        subst he
        clear hy
        go_wp2_with fail
        go_ret
        exact ⟨ret_i HE.out, rfl⟩
      · have hb : (y == z) = false := by simpa using he
        have HN : Hid (∀ i, i < k + 1 → hexd i ≠ c) := Lib.hid (fun i hi => by
          by_cases h : i < k
          · exact HA.out i h
          · obtain rfl : i = k := by omega
            rintro rfl
            exact he (by rw [← hy, HZ.out]))
        clear hy he
        go_wp2_with fail
        go_round
        case rel => exact ⟨k + 1, by omega, by go_num, HN⟩
        case measure => simp [intOf]; omega
    · have hkk : k = 16 := by omega
      have HE : Hid (16 = H) := Lib.hid (by rw [← HH.out, half_not HA.out hkk]; rfl)
      subst hkk
      go_wp2_with fail
      go_ret
      exact ⟨ret_i HE.out, rfl⟩

end Go.Proofs.YtcpfohjejhkgbaaDoor
