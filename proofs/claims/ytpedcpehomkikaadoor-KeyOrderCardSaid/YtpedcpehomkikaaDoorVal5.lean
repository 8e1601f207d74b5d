/-
  Which are values: package value's Valid.
-/
import Derived.Test.YtpedcpehomkikaaDoorVal4
import Derived.Test.YtpedcpehomkikaaDoorValU
namespace Go.Proofs.YtpedcpehomkikaaDoor
open Go Go.RowKit
set_option linter.unusedVariables false
set_option linter.unusedSimpArgs false
set_option maxRecDepth 100000


theorem ret_b {a b : Bool} (h : a = b) : Ending.returned (Value.bool a) = .returned (.bool b) := by rw [h]
theorem validstr_any (s : ByteArray) (w : World) (hs : s.size ≤ 9223372036854775807) (hT : Tabs w) :
    Calls Tryd.prog 36 #[.string s] w fun e w' => e = .returned (.bool (utf8B s.toList)) ∧ Below w.heap.size w w' := by
  have h := Any.utf8_ValidString Tryd.laysValid s w hs hT.utf
  rw [utf8_valid, ← ByteArray.toList_eq] at h
  exact h
theorem valid_any {K N : Int} {s : ByteArray} (hN : U64 N) (w : World) (hT : Tabs w) :
    Calls Tryd.prog 25 #[vlv K N s] w fun e w' => e = .returned (.bool (vl K N s).okB) ∧ Below w.heap.size w w' := by
  have h0 := hN.lo
  have HB := Lib.hid (fun o => (Below.refl w.heap.size w).alloc (Nat.le_refl _) o)
  have HT := Lib.hid (fun o => hT.keep (HB.out o))
  clear hT
  have hsz := ba_size s
  by_cases k0 : K = 0
  · subst k0
    have hok : (vl 0 N s).okB = (decide (N.toNat = 0) && s.toList.isEmpty) := rfl
    by_cases hn : N = 0
    · subst hn
      have hr : (vl 0 0 s).okB = s.toList.isEmpty := rfl
      rw [hr]
      clear hok hr hsz
      go_enter Tryd.func25, Tryd.ntmps25
      go_wp2
      all_goals go_ret
      all_goals exact ⟨ret_b (by simp_all), HB.out _⟩
    · have hb : (N == 0) = false := by simpa using hn
      have hr : (vl 0 N s).okB = false := by rw [hok, decide_eq_false (show ¬ N.toNat = 0 by omega)]; rfl
      rw [hr]
      clear hok hr hsz hn
      go_enter Tryd.func25, Tryd.ntmps25
      go_wp2
      go_ret
      exact ⟨rfl, HB.out _⟩
  by_cases k1 : K = 1
  · subst k1
    have hr : (vl 1 N s).okB = s.toList.isEmpty := rfl
    rw [hr]
    clear hr hsz
    · skip
      go_enter Tryd.func25, Tryd.ntmps25
      go_wp2
      all_goals go_ret
      all_goals exact ⟨ret_b (by simp_all), HB.out _⟩
  by_cases k2 : K = 2
  · subst k2
    have hr : (vl 2 N s).okB = s.toList.isEmpty := rfl
    rw [hr]
    clear hr hsz
    · skip
      go_enter Tryd.func25, Tryd.ntmps25
      go_wp2
      all_goals go_ret
      all_goals exact ⟨ret_b (by simp_all), HB.out _⟩
  by_cases k3 : K = 3
  · subst k3
    have hok : (vl 3 N s).okB = (decide (N.toNat < 2) && s.toList.isEmpty) := rfl
    by_cases hn : N ≤ 1
    · have hr : (vl 3 N s).okB = s.toList.isEmpty := by rw [hok, decide_eq_true (show N.toNat < 2 by omega)]; rfl
      have hn2 : N < 2 := by omega
      rw [hr]
      clear hok hr hsz
      go_enter Tryd.func25, Tryd.ntmps25
      go_wp2
      all_goals go_ret
      all_goals exact ⟨ret_b (by simp_all), HB.out _⟩
    · have hr : (vl 3 N s).okB = false := by rw [hok, decide_eq_false (show ¬ N.toNat < 2 by omega)]; rfl
      have hn1 : 1 < N := by omega
      have hn2 : ¬ N < 2 := by omega
      rw [hr]
      clear hok hr hsz
      go_enter Tryd.func25, Tryd.ntmps25
      go_wp2
      go_ret
      exact ⟨rfl, HB.out _⟩
  by_cases k4 : K = 4
  · subst k4
    have hok : (vl 4 N s).okB = (decide (N.toNat = 0) && decide (s.toList.length ≤ 64)) := rfl
    by_cases hn : N = 0
    · subst hn
      by_cases hl : (s.size : Int) ≤ 64
      · have hr : (vl 4 0 s).okB = true := by rw [hok, decide_eq_true (show s.toList.length ≤ 64 by omega)]; rfl
        rw [hr]
        clear hok hr hsz
        go_enter Tryd.func25, Tryd.ntmps25
        go_wp2
        go_ret
        exact ⟨rfl, HB.out _⟩
      · have hr : (vl 4 0 s).okB = false := by rw [hok, decide_eq_false (show ¬ s.toList.length ≤ 64 by omega)]; rfl
        have hl2 : (64 : Int) < s.size := by omega
        rw [hr]
        clear hok hr hsz
        go_enter Tryd.func25, Tryd.ntmps25
        go_wp2
        go_ret
        exact ⟨rfl, HB.out _⟩
    · have hb : (N == 0) = false := by simpa using hn
      have hr : (vl 4 N s).okB = false := by rw [hok, decide_eq_false (show ¬ N.toNat = 0 by omega)]; rfl
      rw [hr]
      clear hok hr hsz hn
      go_enter Tryd.func25, Tryd.ntmps25
      go_wp2
      go_ret
      exact ⟨rfl, HB.out _⟩
  by_cases k5 : K = 5
  · subst k5
    have hok : (vl 5 N s).okB = (decide (N.toNat = 0) && (decide (s.toList.length ≤ 64) && utf8B s.toList)) := rfl
    by_cases hn : N = 0
    · subst hn
      by_cases hl : (s.size : Int) ≤ 64
      · have hr : (vl 5 0 s).okB = utf8B s.toList := by rw [hok, decide_eq_true (show s.toList.length ≤ 64 by omega)]; rfl
        obtain ⟨B, hB⟩ : ∃ B, utf8B s.toList = B := ⟨_, rfl⟩
        have HS : Hid (s.size ≤ 64) := Lib.hid (by omega)
        have HU := Lib.hid hB
        rw [hr, hB]
        clear hok hr hsz hB
        go_enter Tryd.func25, Tryd.ntmps25
        go_wp2_with fail
        refine (validstr_any s _ (by have := HS.out; omega) (HT.out _)).mono ?_
        rintro e w1 ⟨rfl, hb1⟩
        rw [HU.out]
        have H1 := Lib.hid ((HB.out _).trans (hb1.mono (by simp)))
        clear hb1
        go_wp2
        all_goals go_ret
        all_goals exact ⟨ret_b (by simp_all), H1.out⟩
      · have hr : (vl 5 0 s).okB = false := by rw [hok, decide_eq_false (show ¬ s.toList.length ≤ 64 by omega)]; rfl
        have hl2 : (64 : Int) < s.size := by omega
        rw [hr]
        clear hok hr hsz
        go_enter Tryd.func25, Tryd.ntmps25
        go_wp2
        go_ret
        exact ⟨rfl, HB.out _⟩
    · have hb : (N == 0) = false := by simpa using hn
      have hr : (vl 5 N s).okB = false := by rw [hok, decide_eq_false (show ¬ N.toNat = 0 by omega)]; rfl
      rw [hr]
      clear hok hr hsz hn
      go_enter Tryd.func25, Tryd.ntmps25
      go_wp2
      go_ret
      exact ⟨rfl, HB.out _⟩
  have hr : (vl K N s).okB = false := by
    simp [Vl.okB, k0, k1, k2, k3, k4, k5]
  have b0 : (K == 0) = false := by simpa using k0
  have b1 : (K == 1) = false := by simpa using k1
  have b2 : (K == 2) = false := by simpa using k2
  have b3 : (K == 3) = false := by simpa using k3
  have b4 : (K == 4) = false := by simpa using k4
  have b5 : (K == 5) = false := by simpa using k5
  rw [hr]
  clear hr hsz k0 k1 k2 k3 k4 k5
  · skip
    go_enter Tryd.func25, Tryd.ntmps25
    go_wp2
    go_ret
    exact ⟨rfl, HB.out _⟩

end Go.Proofs.YtpedcpehomkikaaDoor
