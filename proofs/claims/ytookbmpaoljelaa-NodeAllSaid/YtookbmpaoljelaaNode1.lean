/-
  Package node: its small functions.
-/
import Derived.Test.YtookbmpaoljelaaNodeMem
import Derived.Deep.RegionHeld3
import Derived.StillTailTactics
import Derived.BigQuiet
import Derived.Deep.QuietTactic
import Derived.Deep.CutBlock
import Derived.Deep.DeepCutAuto
import Derived.Laws.StructEq
namespace Go.Proofs.Ytookbmpaoljelaa
open Go Go.RowKit
set_option linter.unusedVariables false
set_option linter.unusedSimpArgs false
set_option maxRecDepth 100000

theorem gone_any (e : En) (w : World) : Calls Try.prog 79 #[env e] w fun r w' => r = .returned (.bool (goneE e)) ∧ Only (fun _ => False) w w' := by
  have HB := Lib.hid (fun o => (Only.refl (fun _ => False) w).alloc o)
  obtain ⟨k, h, v, x, n, nv⟩ := e
  cases h <;> by_cases hx : x = 0
  all_goals
    have hb : (x == 0) = decide (x = 0) := by rw [Bool.eq_iff_iff]; simp
    simp only [hx, decide_true, decide_false] at hb
    try subst hx
    go_enter Try.func79, Try.ntmps79
    go_wp2
    go_ret
    exact ⟨by simp [goneE, *], HB.out _⟩

theorem keyfits_any (s : ByteArray) (w : World) : Calls Try.prog 56 #[.string s] w fun r w' => r = .returned (.bool (decide (s.size ≤ 256))) ∧ w = w' := by
  by_cases h : s.size ≤ 256
  · have hI : (s.size : Int) ≤ 256 := by omega
    go_enter Try.func56, Try.ntmps56
    go_wp2
    go_ret
    exact ⟨by simp [h], rfl⟩
  · have hI : ¬ (s.size : Int) ≤ 256 := by omega
    go_enter Try.func56, Try.ntmps56
    go_wp2
    go_ret
    exact ⟨by simp [h], rfl⟩

theorem nan_any (s : ByteArray) (w : World) : Calls Try.prog 81 #[.string s] w fun r w' => r = .returned (.bool false) ∧ w = w' := by
  go_enter Try.func81, Try.ntmps81
  go_wp2
  go_ret
  exact ⟨by simp, rfl⟩
theorem less_any (a b : ByteArray) (w : World) : Calls Try.prog 54 #[.string a, .string b] w fun r w' => r = .returned (.bool (blt a b)) ∧ w = w' := by
  obtain ⟨c, hc⟩ : ∃ c, Op.bytesLess a.toList b.toList = c := ⟨_, rfl⟩
  unfold blt
  rw [hc]
  go_enter Try.func54, Try.ntmps54
  go_wp2_with (go_at_call 81; refine (nan_any _ _).mono ?_; rintro e w' ⟨rfl, rfl⟩)
  go_ret
  exact ⟨by simp [hc], rfl⟩
theorem elt_any (a b : En) (w : World) : Calls Try.prog 48 #[env a, env b] w fun r w' => r = .returned (.bool (entryLt a b)) ∧ Only (fun _ => False) w w' := by
  obtain ⟨c, hc⟩ : ∃ c, Op.bytesLess a.k.toList b.k.toList = c := ⟨_, rfl⟩
  have HB := Lib.hid (fun o p => ((Only.refl (fun _ => False) w).alloc o).alloc p)
  unfold entryLt blt
  rw [hc]
  obtain ⟨k, h, v, x, n, nv⟩ := a
  obtain ⟨k2, h2, v2, x2, n2, nv2⟩ := b
  go_enter Try.func48, Try.ntmps48
  go_wp2
  go_ret
  exact ⟨by simp [hc], HB.out _ _⟩
theorem mlt_any (a b : Ms) (w : World) : Calls Try.prog 84 #[msv a, msv b] w fun r w' => r = .returned (.bool (msgLt a b)) ∧ Only (fun _ => False) w w' := by
  have HB := Lib.hid (fun o p => ((Only.refl (fun _ => False) w).alloc o).alloc p)
  obtain ⟨s, K, k, x, v, o, n⟩ := a
  obtain ⟨s2, K2, k2, x2, v2, o2, n2⟩ := b
  go_enter Try.func84, Try.ntmps84
  go_wp2
  go_ret
  exact ⟨rfl, HB.out _ _⟩

theorem ba_emp (v : ByteArray) : v.toList.isEmpty = decide (v.size = 0) := by
  rw [Bool.eq_iff_iff, List.isEmpty_iff, decide_eq_true_eq]
  have : v.toList.length = v.size := by rw [ByteArray.toList_eq]; rfl
  rw [← this, List.length_eq_zero_iff]
theorem ba_nil0 {v : ByteArray} (h : v.size = 0) : v.toList = [] := by
  have := ba_emp v
  rw [h] at this
  simpa using this
theorem ba_cons0 {v : ByteArray} (h : ¬ v.size = 0) : v.toList.isEmpty = false := by
  rw [ba_emp]
  simpa using h
theorem bare_any (m : Ms) (w : World) : Calls Try.prog 102 #[msv m] w fun r w' => r = .returned (.bool (decide (m.off = 0) && decide (m.num = 0) && decide (m.v.size = 0))) ∧ Only (fun _ => False) w w' := by
  have HB := Lib.hid (fun o => (Only.refl (fun _ => False) w).alloc o)
  obtain ⟨s, K, k, x, v, o, n⟩ := m
  go_enter Try.func102, Try.ntmps102
  go_wp2
  all_goals
    go_ret
    exact ⟨by simp [*, ba_emp], HB.out _⟩
set_option maxHeartbeats 1000000 in
theorem efits_any (e : En) (w : World) : Calls Try.prog 51 #[env e] w fun r w' => r = .returned (.bool (entryB e)) ∧ Only (fun _ => False) w w' := by
  have HG := Lib.hid (fun W => gone_any e W)
  obtain ⟨g, hg⟩ : ∃ g, goneE e = g := ⟨_, rfl⟩
  have HGE := Lib.hid hg
  rw [hg] at HG
  have HB := Lib.hid (fun o => (Only.refl (fun _ => False) w).alloc o)
  clear hg
  obtain ⟨k, h, v, x, n, nv⟩ := e
  by_cases hk : k.size ≤ 256
  rotate_left
  · have hkI : (256 : Int) < (k.size : Int) := by omega
    go_enter Try.func51, Try.ntmps51
    go_wp2
    go_ret
    exact ⟨by simp [entryB, *], HB.out _⟩
  have hkI : ¬ (256 : Int) < (k.size : Int) := by omega
  by_cases hv : v.size ≤ 512
  rotate_left
  · have hvI : (512 : Int) < (v.size : Int) := by omega
    go_enter Try.func51, Try.ntmps51
    go_wp2
    go_ret
    exact ⟨by simp [entryB, *], HB.out _⟩
  have hvI : ¬ (512 : Int) < (v.size : Int) := by omega
  by_cases hn : nv.size ≤ 512
  rotate_left
  · have hnI : (512 : Int) < (nv.size : Int) := by omega
    go_enter Try.func51, Try.ntmps51
    go_wp2
    go_ret
    exact ⟨by simp [entryB, *], HB.out _⟩
  have hnI : ¬ (512 : Int) < (nv.size : Int) := by omega
  have hA : (h = true ∨ h = false ∧ v.size = 0) ∨ (h = false ∧ ¬ v.size = 0) := by cases h <;> by_cases v.size = 0 <;> simp [*]
  rcases hA with hA | ⟨rfl, h0⟩
  rotate_left
  · have h1 := ba_cons0 h0
    have h2 : ¬ v.toList = [] := by intro e; rw [e] at h1; cases h1
    go_enter Try.func51, Try.ntmps51
    go_wp2
    go_ret
    exact ⟨by simp [entryB, *], HB.out _⟩
  have hX : (¬ x = 0 ∨ x = 0 ∧ n = false) ∨ (x = 0 ∧ n = true) := by cases n <;> by_cases x = 0 <;> simp [*]
  rcases hX with hX | ⟨rfl, rfl⟩
  rotate_left
  · rcases hA with rfl | ⟨rfl, h0⟩
    · go_enter Try.func51, Try.ntmps51
      go_wp2
      go_ret
      exact ⟨by simp [entryB, *], HB.out _⟩
    · have h1 := ba_nil0 h0
      have h2 : v.toList.isEmpty = true := by rw [h1]; rfl
      go_enter Try.func51, Try.ntmps51
      go_wp2
      go_ret
      exact ⟨by simp [entryB, *], HB.out _⟩
  have hN : (n = true ∨ n = false ∧ nv.size = 0) ∨ (n = false ∧ ¬ nv.size = 0) := by cases n <;> by_cases nv.size = 0 <;> simp [*]
  have hA' : h = true ∨ h = false ∧ v.size = 0 ∧ v.toList = [] ∧ v.toList.isEmpty = true := hA.imp id (fun ⟨a, b⟩ => ⟨a, b, ba_nil0 b, by rw [ba_nil0 b]; rfl⟩)
  have hX' : (x == 0) = false ∧ ¬ x = 0 ∨ x = 0 ∧ n = false := hX.imp (fun a => ⟨by simpa using a, a⟩) id
  clear hA hX
  rcases hN with hN | ⟨rfl, h0⟩
  rotate_left
  · have h1 := ba_cons0 h0
    have h2 : ¬ nv.toList = [] := by intro e; rw [e] at h1; cases h1
    rcases hA' with rfl | ⟨rfl, q1, q2, q3⟩ <;> rcases hX' with ⟨q4, q5⟩ | ⟨rfl, _⟩
    all_goals
      go_enter Try.func51, Try.ntmps51
      go_wp2
      go_ret
      exact ⟨by simp [entryB, *], HB.out _⟩
  have hN' : n = true ∨ n = false ∧ nv.size = 0 ∧ nv.toList = [] ∧ nv.toList.isEmpty = true := hN.imp id (fun ⟨a, b⟩ => ⟨a, b, ba_nil0 b, by rw [ba_nil0 b]; rfl⟩)
  clear hN
  rcases hA' with rfl | ⟨rfl, q1, q2, q3⟩ <;> rcases hN' with rfl | ⟨rfl, q6, q7, q8⟩ <;> rcases hX' with ⟨q4, q5⟩ | ⟨rfl, hf⟩
  all_goals (try (exact absurd hf (by decide)))
  all_goals
    go_enter Try.func51, Try.ntmps51
    go_wp2_with fail
    refine (HG.out _).mono ?_
    rintro e w' ⟨rfl, hw⟩
    have HW := Lib.hid ((HB.out _).trans hw (fun _ _ h => h))
    clear hw HG
    go_wp2_with fail
    go_ret
    exact ⟨by simp [entryB, HGE.out, *], HW.out⟩

def fieldB (m : Ms) : Bool := if m.K = 1 then decide (m.off = 0 ∧ m.num = 0) else if m.K = 2 then decide (m.off = 0 ∧ m.num = 0 ∧ m.v.size = 0) else if m.K = 3 then decide (0 ≤ m.off ∧ m.off ≤ 504 ∧ m.v.size = 0) else
    if m.K = 4 then decide (0 ≤ m.off ∧ m.off ≤ 254 ∧ m.num = 0 ∧ m.k.size = 0 ∧ m.x = 0) else decide (m.off = 0 ∧ m.num = 0 ∧ m.v.size = 0 ∧ m.x ≠ 0)
theorem checkE_eq (m : Ms) : checkE m = if m.K < 1 ∨ 6 < m.K then 1 else if 256 < m.k.size ∨ 512 < m.v.size then 7 else if fieldB m = true then 0 else 1 := rfl
set_option maxHeartbeats 1000000 in
theorem field_any (m : Ms) (w : World) (h1 : 1 ≤ m.K) (h6 : m.K ≤ 6) : Calls Try.prog 100 #[msv m] w fun r w' => r = .returned (.bool (fieldB m)) ∧ Only (fun _ => False) w w' := by
  have HB := Lib.hid (fun o => (Only.refl (fun _ => False) w).alloc o)
  have HR := Lib.hid (fun W => bare_any m W)
  obtain ⟨b, hb⟩ : ∃ b, (decide (m.off = 0) && decide (m.num = 0) && decide (m.v.size = 0)) = b := ⟨_, rfl⟩
  rw [hb] at HR
  have HBE := Lib.hid hb
  clear hb
  obtain ⟨s, K, k, x, v, o, n⟩ := m
  have hK : K = 1 ∨ K = 2 ∨ K = 3 ∨ K = 4 ∨ K = 5 ∨ K = 6 := by simp only at h1 h6; omega
  clear h1 h6
  rcases hK with rfl | rfl | rfl | rfl | rfl | rfl
  · go_enter Try.func100, Try.ntmps100
    go_wp2
    all_goals
      go_ret
      exact ⟨by (first | (simp [fieldB, *, ba_emp, -ByteArray.size_eq_zero_iff]; done) | (simp [fieldB, ba_emp, -ByteArray.size_eq_zero_iff]; done) | (simp [fieldB, ba_emp, -ByteArray.size_eq_zero_iff]; omega) | (simp [fieldB, ba_emp, -ByteArray.size_eq_zero_iff]; rw [Bool.eq_iff_iff]; simp [-ByteArray.size_eq_zero_iff] <;> omega)), HB.out _⟩
  · go_enter Try.func100, Try.ntmps100
    go_wp2_with fail
    refine (HR.out _).mono ?_
    rintro e w' ⟨rfl, hw⟩
    have HW := Lib.hid ((HB.out _).trans hw (fun _ _ h => h))
    clear hw HR
    go_wp2_with fail
    go_ret
    exact ⟨by rw [← HBE.out]; simp [fieldB, Bool.and_assoc, -ByteArray.size_eq_zero_iff], HW.out⟩
  · by_cases h0 : 0 ≤ o
    · by_cases h5 : o ≤ 504
      · go_enter Try.func100, Try.ntmps100
        go_wp2
        all_goals
          go_ret
          exact ⟨by (first | (simp [fieldB, *, ba_emp, -ByteArray.size_eq_zero_iff]; done) | (simp [fieldB, ba_emp, -ByteArray.size_eq_zero_iff]; done) | (simp [fieldB, ba_emp, -ByteArray.size_eq_zero_iff]; omega) | (simp [fieldB, ba_emp, -ByteArray.size_eq_zero_iff]; rw [Bool.eq_iff_iff]; simp [-ByteArray.size_eq_zero_iff] <;> omega)), HB.out _⟩
      · go_enter Try.func100, Try.ntmps100
        go_wp2
        all_goals
          go_ret
          exact ⟨by (first | (simp [fieldB, *, ba_emp, -ByteArray.size_eq_zero_iff]; done) | (simp [fieldB, ba_emp, -ByteArray.size_eq_zero_iff]; done) | (simp [fieldB, ba_emp, -ByteArray.size_eq_zero_iff]; omega) | (simp [fieldB, ba_emp, -ByteArray.size_eq_zero_iff]; rw [Bool.eq_iff_iff]; simp [-ByteArray.size_eq_zero_iff] <;> omega)), HB.out _⟩
    · go_enter Try.func100, Try.ntmps100
      go_wp2
      all_goals
        go_ret
        exact ⟨by (first | (simp [fieldB, *, ba_emp, -ByteArray.size_eq_zero_iff]; done) | (simp [fieldB, ba_emp, -ByteArray.size_eq_zero_iff]; done) | (simp [fieldB, ba_emp, -ByteArray.size_eq_zero_iff]; omega) | (simp [fieldB, ba_emp, -ByteArray.size_eq_zero_iff]; rw [Bool.eq_iff_iff]; simp [-ByteArray.size_eq_zero_iff] <;> omega)), HB.out _⟩
  · by_cases h0 : 0 ≤ o ∧ o ≤ 254 ∧ n = 0
    · obtain ⟨h0, h5, rfl⟩ := h0
      by_cases hk : k.size = 0
      · have h7 := ba_nil0 hk
        have h8 : k.toList.isEmpty = true := by rw [h7]; rfl
        go_enter Try.func100, Try.ntmps100
        go_wp2
        all_goals
          go_ret
          exact ⟨by (first | (simp [fieldB, *, ba_emp, -ByteArray.size_eq_zero_iff]; done) | (simp [fieldB, ba_emp, -ByteArray.size_eq_zero_iff]; done) | (simp [fieldB, ba_emp, -ByteArray.size_eq_zero_iff]; omega) | (simp [fieldB, ba_emp, -ByteArray.size_eq_zero_iff]; rw [Bool.eq_iff_iff]; simp [-ByteArray.size_eq_zero_iff] <;> omega)), HB.out _⟩
      · have h7 := ba_cons0 hk
        have h8 : ¬ k.toList = [] := by intro e; rw [e] at h7; cases h7
        go_enter Try.func100, Try.ntmps100
        go_wp2
        all_goals
          go_ret
          exact ⟨by (first | (simp [fieldB, *, ba_emp, -ByteArray.size_eq_zero_iff]; done) | (simp [fieldB, ba_emp, -ByteArray.size_eq_zero_iff]; done) | (simp [fieldB, ba_emp, -ByteArray.size_eq_zero_iff]; omega) | (simp [fieldB, ba_emp, -ByteArray.size_eq_zero_iff]; rw [Bool.eq_iff_iff]; simp [-ByteArray.size_eq_zero_iff] <;> omega)), HB.out _⟩
    · by_cases h1 : 0 ≤ o
      · by_cases h2 : o ≤ 254
        · have h3 : ¬ n = 0 := fun e => h0 ⟨h1, h2, e⟩
          have h4 : (n == 0) = false := by simpa using h3
          go_enter Try.func100, Try.ntmps100
          go_wp2
          all_goals
            go_ret
            exact ⟨by (first | (simp [fieldB, *, ba_emp, -ByteArray.size_eq_zero_iff]; done) | (simp [fieldB, ba_emp, -ByteArray.size_eq_zero_iff]; done) | (simp [fieldB, ba_emp, -ByteArray.size_eq_zero_iff]; omega) | (simp [fieldB, ba_emp, -ByteArray.size_eq_zero_iff]; rw [Bool.eq_iff_iff]; simp [-ByteArray.size_eq_zero_iff] <;> omega)), HB.out _⟩
        · go_enter Try.func100, Try.ntmps100
          go_wp2
          all_goals
            go_ret
            exact ⟨by (first | (simp [fieldB, *, ba_emp, -ByteArray.size_eq_zero_iff]; done) | (simp [fieldB, ba_emp, -ByteArray.size_eq_zero_iff]; done) | (simp [fieldB, ba_emp, -ByteArray.size_eq_zero_iff]; omega) | (simp [fieldB, ba_emp, -ByteArray.size_eq_zero_iff]; rw [Bool.eq_iff_iff]; simp [-ByteArray.size_eq_zero_iff] <;> omega)), HB.out _⟩
      · go_enter Try.func100, Try.ntmps100
        go_wp2
        all_goals
          go_ret
          exact ⟨by (first | (simp [fieldB, *, ba_emp, -ByteArray.size_eq_zero_iff]; done) | (simp [fieldB, ba_emp, -ByteArray.size_eq_zero_iff]; done) | (simp [fieldB, ba_emp, -ByteArray.size_eq_zero_iff]; omega) | (simp [fieldB, ba_emp, -ByteArray.size_eq_zero_iff]; rw [Bool.eq_iff_iff]; simp [-ByteArray.size_eq_zero_iff] <;> omega)), HB.out _⟩
  all_goals
    cases b
    all_goals
      go_enter Try.func100, Try.ntmps100
      go_wp2_with fail
      refine (HR.out _).mono ?_
      rintro e w' ⟨rfl, hw⟩
      have hc := hw.cellq (p := ⟨w.heap.size, 3, none⟩) (v := .int .u64 x) (by go_simp)
      have HW := Lib.hid ((HB.out _).trans hw (fun _ _ h => h))
      clear hw HR
      go_wp2_with fail
      go_ret
      exact ⟨by have := HBE.out; simp only [Bool.and_eq_true, Bool.and_eq_false_imp, decide_eq_true_eq, decide_eq_false_iff_not] at this; (first | (simp [fieldB, *, ba_emp, -ByteArray.size_eq_zero_iff]; done) | (simp [fieldB, ba_emp, -ByteArray.size_eq_zero_iff]; done) | (simp [fieldB, ba_emp, -ByteArray.size_eq_zero_iff]; omega) | (simp [fieldB, ba_emp, -ByteArray.size_eq_zero_iff]; rw [Bool.eq_iff_iff]; simp [-ByteArray.size_eq_zero_iff] <;> omega)), HW.out⟩
set_option maxHeartbeats 1000000 in
theorem check_any (m : Ms) (w : World) : Calls Try.prog 88 #[msv m] w fun r w' => r = .returned (.int .i64 (checkE m)) ∧ Only (fun _ => False) w w' := by
  have HB := Lib.hid (fun o => (Only.refl (fun _ => False) w).alloc o)
  have HR := Lib.hid (fun W => field_any m W)
  obtain ⟨b, hb⟩ : ∃ b, fieldB m = b := ⟨_, rfl⟩
  rw [hb] at HR
  rw [checkE_eq, hb]
  clear hb
  obtain ⟨s, K, k, x, v, o, n⟩ := m
  by_cases h1 : K < 1
  · go_enter Try.func88, Try.ntmps88
    go_wp2
    go_ret
    exact ⟨by simp [*], HB.out _⟩
  by_cases h6 : 6 < K
  · go_enter Try.func88, Try.ntmps88
    go_wp2
    go_ret
    exact ⟨by simp [*], HB.out _⟩
  by_cases hk : 256 < k.size
  · have hkI : (256 : Int) < (k.size : Int) := by omega
    go_enter Try.func88, Try.ntmps88
    go_wp2
    go_ret
    exact ⟨by simp [*], HB.out _⟩
  by_cases hv : 512 < v.size
  · have hkI : ¬ (256 : Int) < (k.size : Int) := by omega
    have hvI : (512 : Int) < (v.size : Int) := by omega
    go_enter Try.func88, Try.ntmps88
    go_wp2
    go_ret
    exact ⟨by simp [*], HB.out _⟩
  have hkI : ¬ (256 : Int) < (k.size : Int) := by omega
  have hvI : ¬ (512 : Int) < (v.size : Int) := by omega
  cases b
  all_goals
    go_enter Try.func88, Try.ntmps88
    go_wp2_with fail
    refine (HR.out _ (by show 1 ≤ K; omega) (by show K ≤ 6; omega)).mono ?_
    rintro e w' ⟨rfl, hw⟩
    have HW := Lib.hid ((HB.out _).trans hw (fun _ _ h => h))
    clear hw HR
    go_wp2_with fail
    go_ret
    exact ⟨by simp [*], HW.out⟩

end Go.Proofs.Ytookbmpaoljelaa
