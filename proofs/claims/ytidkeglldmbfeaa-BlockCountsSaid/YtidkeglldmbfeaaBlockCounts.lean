/-
  The walk of the statement BlockCounts.
-/
import Derived.Test.YtidkeglldmbfeaaBlk5
namespace Go.Proofs.Ytidkeglldmbfeaa
open Go Go.RowKit
set_option linter.unusedVariables false
set_option linter.unusedSimpArgs false
set_option maxRecDepth 100000

set_option maxHeartbeats 2000000 in
theorem counts_walk (n : Int) (w : World) :
    Calls Try.prog 8 #[.int .i64 n] w fun e w' => e = .returned (.bool true) ∧ Quiet w w' := by
  by_cases hout : n < 0 ∨ 32768 < n
  · have hc := (cnt_zero n).2 hout
    have HC := Lib.hid hc
    clear hc
    rcases hout with h | h
    · go_enter Try.func8, Try.ntmps8
      go_wp2_with fail
      refine (awake3_any w).mono ?_
      rintro e w0 ⟨rfl, hq⟩
      have HQ := Lib.hid hq; clear hq
      go_wp2_with fail
      refine (count_all n w0).mono ?_
      rintro e w' ⟨rfl, rfl⟩
      rw [HC.out]
      go_wp2
      go_ret
      exact ⟨rfl, HQ.out⟩
    · go_enter Try.func8, Try.ntmps8
      go_wp2_with fail
      refine (awake3_any w).mono ?_
      rintro e w0 ⟨rfl, hq⟩
      have HQ := Lib.hid hq; clear hq
      go_wp2_with fail
      refine (count_all n w0).mono ?_
      rintro e w' ⟨rfl, rfl⟩
      rw [HC.out]
      go_wp2
      go_ret
      exact ⟨rfl, HQ.out⟩
  · obtain ⟨k, rfl⟩ := Int.eq_ofNat_of_zero_le (show 0 ≤ n by omega)
    have hk : k ≤ 32768 := by omega
    obtain ⟨a, ha⟩ : ∃ a : Int, a = (cnt (k : Int) : Int) := ⟨_, rfl⟩
    obtain ⟨b, hb⟩ : ∃ b : Int, b = (cnt ((k : Int) + 1) : Int) := ⟨_, rfl⟩
    obtain ⟨c, hc⟩ : ∃ c : Int, c = (cnt ((k : Int) + 50) : Int) := ⟨_, rfl⟩
    have h1 : 1 ≤ a ∧ a ≤ 656 ∧ (k : Int) ≤ 50 * a ∧ (a = 1 ∨ 50 * (a - 1) < (k : Int)) := by
      rw [ha, cnt_nat hk]
      unfold cntN
      split <;> omega
    have h2 : (k : Int) = 32768 ∨ b = a ∨ b = a + 1 := by
      rw [ha, hb]
      by_cases h : k = 32768
      · left; omega
      · right
        rw [cnt_nat hk, show (k : Int) + 1 = ((k + 1 : Nat) : Int) by omega, cnt_nat (by omega)]
        unfold cntN
        split <;> split <;> omega
    have h3 : 32768 < (k : Int) + 50 ∨ c = a + 1 ∨ (k : Int) = 0 ∧ c = 1 := by
      rw [ha, hc]
      by_cases h : 32768 < k + 50
      · left; omega
      · right
        rw [cnt_nat hk, show (k : Int) + 50 = ((k + 50 : Nat) : Int) by omega, cnt_nat (by omega)]
        unfold cntN
        split <;> split <;> omega
    obtain ⟨z, hz⟩ : ∃ z : Int, z = (k : Int) := ⟨_, rfl⟩
    rw [← hz] at ha hb hc h1 h2 h3 ⊢
    have hz0 : 0 ≤ z := by omega
    have hz1 : z ≤ 32768 := by omega
    have HA := Lib.hid ha
    have HB := Lib.hid hb
    have HC := Lib.hid hc
    clear ha hb hc hz hk hout
    obtain ⟨a1, a2, a3, a4⟩ := h1
    have t1 : decide (z < 0) = false := by simp; omega
    have t2 : decide (32768 < z) = false := by simp; omega
    have t3 : decide (a < 1) = false := by simp; omega
    have t4 : decide (656 < a) = false := by simp; omega
    have t5 : decide (50 * a < z) = false := by simp; omega
    have H2 := Lib.hid h2
    have H3 := Lib.hid h3
    have H4 := Lib.hid a4
    clear h2 h3 a4
    go_enter Try.func8, Try.ntmps8
    go_wp2_with fail
    refine (awake3_any w).mono ?_
    rintro e w0 ⟨rfl, hq⟩
    have HQ := Lib.hid hq; clear hq
    go_wp2_with fail
    refine (count_any z (by omega) w0).mono ?_
    rintro e w' ⟨rfl, rfl⟩
    rw [← HA.out]
    go_wp2_with fail
    refine (count_any (z + 1) (by omega) w0).mono ?_
    rintro e w' ⟨rfl, rfl⟩
    rw [← HB.out]
    go_wp2_with fail
    refine (count_any (z + 50) (by omega) w0).mono ?_
    rintro e w' ⟨rfl, rfl⟩
    rw [← HC.out]
    go_wp2
    all_goals
      have h2 := H2.out
      have h3 := H3.out
      have h4 := H4.out
      clear t1 t2 t3 t4 t5 HA HB HC H2 H3 H4
      first
        | (exfalso; omega)
        | (go_ret; exact ⟨rfl, HQ.out⟩)
        | (go_ret; refine ⟨congrArg (fun b => Ending.returned (.bool b)) (show (c == a + 1 || c == 1) = true from ?_), HQ.out⟩; simp; omega)

end Go.Proofs.Ytidkeglldmbfeaa
