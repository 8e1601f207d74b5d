/-
  The reference: Gone, Entry, Check, Route, Waiting. (Written by wip/tools/gennodeq.py.)
-/
import Derived.Test.YtookbmpaoljelaaNode3
namespace Go.Proofs.Ytookbmpaoljelaa
open Go Go.RowKit
set_option linter.unusedVariables false
set_option linter.unusedSimpArgs false
set_option maxRecDepth 100000

theorem qgone_any (e : En) (w : World) : Calls Try.prog 89 #[env e] w fun r w' => r = .returned (.bool (goneE e)) ∧ Only (fun _ => False) w w' := by
  have HB := Lib.hid (fun o => (Only.refl (fun _ => False) w).alloc o)
  obtain ⟨k, h, v, x, n, nv⟩ := e
  cases h <;> by_cases hx : x = 0
  all_goals
    have hb : (x == 0) = decide (x = 0) := by rw [Bool.eq_iff_iff]; simp
    simp only [hx, decide_true, decide_false] at hb
    try subst hx
    go_enter Try.func89, Try.ntmps89
    go_wp2
    go_ret
    exact ⟨by simp [goneE, *], HB.out _⟩

set_option maxHeartbeats 1000000 in
theorem qentry_any (e : En) (w : World) : Calls Try.prog 58 #[env e] w fun r w' => r = .returned (.bool (entryB e)) ∧ Only (fun _ => False) w w' := by
  have HG := Lib.hid (fun W => qgone_any e W)
  obtain ⟨g, hg⟩ : ∃ g, goneE e = g := ⟨_, rfl⟩
  have HGE := Lib.hid hg
  rw [hg] at HG
  have HB := Lib.hid (fun o => (Only.refl (fun _ => False) w).alloc o)
  clear hg
  obtain ⟨k, h, v, x, n, nv⟩ := e
  by_cases hk : k.size ≤ 256
  rotate_left
  · have hkI : (256 : Int) < (k.size : Int) := by omega
    go_enter Try.func58, Try.ntmps58
    go_wp2
    go_ret
    exact ⟨by simp [entryB, *], HB.out _⟩
  have hkI : ¬ (256 : Int) < (k.size : Int) := by omega
  by_cases hv : v.size ≤ 512
  rotate_left
  · have hvI : (512 : Int) < (v.size : Int) := by omega
    go_enter Try.func58, Try.ntmps58
    go_wp2
    go_ret
    exact ⟨by simp [entryB, *], HB.out _⟩
  have hvI : ¬ (512 : Int) < (v.size : Int) := by omega
  by_cases hn : nv.size ≤ 512
  rotate_left
  · have hnI : (512 : Int) < (nv.size : Int) := by omega
    go_enter Try.func58, Try.ntmps58
    go_wp2
    go_ret
    exact ⟨by simp [entryB, *], HB.out _⟩
  have hnI : ¬ (512 : Int) < (nv.size : Int) := by omega
  have hA : (h = true ∨ h = false ∧ v.size = 0) ∨ (h = false ∧ ¬ v.size = 0) := by cases h <;> by_cases v.size = 0 <;> simp [*]
  rcases hA with hA | ⟨rfl, h0⟩
  rotate_left
  · have h1 := ba_cons0 h0
    have h2 : ¬ v.toList = [] := by intro e; rw [e] at h1; cases h1
    go_enter Try.func58, Try.ntmps58
    go_wp2
    go_ret
    exact ⟨by simp [entryB, *], HB.out _⟩
  have hX : (¬ x = 0 ∨ x = 0 ∧ n = false) ∨ (x = 0 ∧ n = true) := by cases n <;> by_cases x = 0 <;> simp [*]
  rcases hX with hX | ⟨rfl, rfl⟩
  rotate_left
  · rcases hA with rfl | ⟨rfl, h0⟩
    · go_enter Try.func58, Try.ntmps58
      go_wp2
      go_ret
      exact ⟨by simp [entryB, *], HB.out _⟩
    · have h1 := ba_nil0 h0
      have h2 : v.toList.isEmpty = true := by rw [h1]; rfl
      go_enter Try.func58, Try.ntmps58
      go_wp2
      go_ret
      exact ⟨by simp [entryB, *], HB.out _⟩
  have hN : (n = true ∨ n = false ∧ nv.size = 0) ∨ (n = false ∧ ¬ nv.size = 0) := by cases n <;> by_cases nv.size = 0 <;> simp [*]
  have hA' : h = true ∨ h = false ∧ v.size = 0 ∧ v.toList = [] ∧ v.toList.isEmpty = true := hA.imp id (fun ⟨a, b⟩ => ⟨a, b, ba_nil0 b, by rw [ba_nil0 b]; rfl⟩)
  have hX' : (x == 0) = false ∧ ¬ x = 0 ∨ x = 0 ∧ n = false := hX.imp (fun a => ⟨by simpa using a, a⟩) id
  clear hA hX
  rcases hN with hN | ⟨rfl, h0⟩
  rotate_left
  · have h1 := ba_cons0 h0
    have h2 : ¬ nv.toList = [] := by intro e; rw [e] at h1; cases h1
    rcases hA' with rfl | ⟨rfl, q1, q2, q3⟩ <;> rcases hX' with ⟨q4, q5⟩ | ⟨rfl, _⟩
    all_goals
      go_enter Try.func58, Try.ntmps58
      go_wp2
      go_ret
      exact ⟨by simp [entryB, *], HB.out _⟩
  have hN' : n = true ∨ n = false ∧ nv.size = 0 ∧ nv.toList = [] ∧ nv.toList.isEmpty = true := hN.imp id (fun ⟨a, b⟩ => ⟨a, b, ba_nil0 b, by rw [ba_nil0 b]; rfl⟩)
  clear hN
  rcases hA' with rfl | ⟨rfl, q1, q2, q3⟩ <;> rcases hN' with rfl | ⟨rfl, q6, q7, q8⟩ <;> rcases hX' with ⟨q4, q5⟩ | ⟨rfl, hf⟩
  all_goals (try (exact absurd hf (by decide)))
  all_goals
    go_enter Try.func58, Try.ntmps58
    go_wp2_with fail
    refine (HG.out _).mono ?_
    rintro e w' ⟨rfl, hw⟩
    have HW := Lib.hid ((HB.out _).trans hw (fun _ _ h => h))
    clear hw HG
    go_wp2_with fail
    go_ret
    exact ⟨by simp [entryB, HGE.out, *], HW.out⟩

/-- What a message's fields are, as the checks ask. -/
theorem fieldB_of (m : Ms) : checkE m = if m.K < 1 ∨ 6 < m.K then 1 else if 256 < m.k.size ∨ 512 < m.v.size then 7 else if fieldB m = true then 0 else 1 := rfl
set_option maxHeartbeats 4000000 in
theorem qcheck_any (m : Ms) (w : World) : Calls Try.prog 27 #[msv m] w fun r w' => r = .returned (.int .i64 (checkE m)) ∧ Only (fun _ => False) w w' := by
  have HB := Lib.hid (fun o => (Only.refl (fun _ => False) w).alloc o)
  rw [checkE_eq]
  obtain ⟨s, K, k, x, v, o, n⟩ := m
  by_cases h1 : K < 1
  · go_enter Try.func27, Try.ntmps27
    go_wp2
    go_ret
    exact ⟨by simp [*], HB.out _⟩
  by_cases h6 : 6 < K
  · go_enter Try.func27, Try.ntmps27
    go_wp2
    go_ret
    exact ⟨by simp [*], HB.out _⟩
  by_cases hk : 256 < k.size
  · have hkI : (256 : Int) < (k.size : Int) := by omega
    go_enter Try.func27, Try.ntmps27
    go_wp2
    go_ret
    exact ⟨by simp [*], HB.out _⟩
  by_cases hv : 512 < v.size
  · have hkI : ¬ (256 : Int) < (k.size : Int) := by omega
    have hvI : (512 : Int) < (v.size : Int) := by omega
    go_enter Try.func27, Try.ntmps27
    go_wp2
    go_ret
    exact ⟨by simp [*], HB.out _⟩
  have hkI : ¬ (256 : Int) < (k.size : Int) := by omega
  have hvI : ¬ (512 : Int) < (v.size : Int) := by omega
  have hKK : K = 1 ∨ K = 2 ∨ K = 3 ∨ K = 4 ∨ K = 5 ∨ K = 6 := by omega
  obtain ⟨z, hz⟩ : ∃ z : Int, (if K < 1 ∨ 6 < K then (1 : Int) else if 256 < k.size ∨ 512 < v.size then 7 else if fieldB ⟨s, K, k, x, v, o, n⟩ = true then 0 else 1) = z := ⟨_, rfl⟩
  have HSW : Hid (∀ r : Bool, fieldB ⟨s, K, k, x, v, o, n⟩ = r → z = if r = true then 0 else 1) := Lib.hid (fun r h => by rw [← hz, if_neg (by omega), if_neg (by omega), h])
  simp only
  rw [hz]
  clear hz
  clear h1 h6 hk hv
  rcases hKK with rfl | rfl | rfl | rfl | rfl | rfl
  · by_cases c0 : o = 0
    rotate_left
    · have e1 : (o == 0) = false := by simpa using c0
      go_enter Try.func27, Try.ntmps27
      go_wp2
      all_goals
        go_ret
        exact ⟨by rw [HSW.out false (by first | (simp [fieldB, *, -ByteArray.size_eq_zero_iff]; done) | (simp [fieldB, -ByteArray.size_eq_zero_iff]; intros; omega))]; first | rfl | simp, HB.out _⟩
    subst c0
    by_cases c1 : n = 0
    rotate_left
    · have e1 : (n == 0) = false := by simpa using c1
      go_enter Try.func27, Try.ntmps27
      go_wp2
      all_goals
        go_ret
        exact ⟨by rw [HSW.out false (by first | (simp [fieldB, *, -ByteArray.size_eq_zero_iff]; done) | (simp [fieldB, -ByteArray.size_eq_zero_iff]; intros; omega))]; first | rfl | simp, HB.out _⟩
    subst c1
    go_enter Try.func27, Try.ntmps27
    go_wp2
    all_goals
      go_ret
      exact ⟨by rw [HSW.out true (by first | (simp [fieldB, *, -ByteArray.size_eq_zero_iff]; done) | (simp [fieldB, -ByteArray.size_eq_zero_iff]; intros; omega))]; first | rfl | simp, HB.out _⟩
  · by_cases c0 : o = 0
    rotate_left
    · have e1 : (o == 0) = false := by simpa using c0
      go_enter Try.func27, Try.ntmps27
      go_wp2
      all_goals
        go_ret
        exact ⟨by rw [HSW.out false (by first | (simp [fieldB, *, -ByteArray.size_eq_zero_iff]; done) | (simp [fieldB, -ByteArray.size_eq_zero_iff]; intros; omega))]; first | rfl | simp, HB.out _⟩
    subst c0
    by_cases c1 : n = 0
    rotate_left
    · have e1 : (n == 0) = false := by simpa using c1
      go_enter Try.func27, Try.ntmps27
      go_wp2
      all_goals
        go_ret
        exact ⟨by rw [HSW.out false (by first | (simp [fieldB, *, -ByteArray.size_eq_zero_iff]; done) | (simp [fieldB, -ByteArray.size_eq_zero_iff]; intros; omega))]; first | rfl | simp, HB.out _⟩
    subst c1
    by_cases c2 : v.size = 0
    rotate_left
    · have e1 := ba_cons0 c2
      have e2 : ¬ v.toList = [] := by intro e; rw [e] at e1; cases e1
      go_enter Try.func27, Try.ntmps27
      go_wp2
      all_goals
        go_ret
        exact ⟨by rw [HSW.out false (by first | (simp [fieldB, *, -ByteArray.size_eq_zero_iff]; done) | (simp [fieldB, -ByteArray.size_eq_zero_iff]; intros; omega))]; first | rfl | simp, HB.out _⟩
    have f2 := ba_nil0 c2
    have g2 : v.toList.isEmpty = true := by rw [f2]; rfl
    go_enter Try.func27, Try.ntmps27
    go_wp2
    all_goals
      go_ret
      exact ⟨by rw [HSW.out true (by first | (simp [fieldB, *, -ByteArray.size_eq_zero_iff]; done) | (simp [fieldB, -ByteArray.size_eq_zero_iff]; intros; omega))]; first | rfl | simp, HB.out _⟩
  · by_cases c0 : 0 ≤ o
    rotate_left
    · skip
      go_enter Try.func27, Try.ntmps27
      go_wp2
      all_goals
        go_ret
        exact ⟨by rw [HSW.out false (by first | (simp [fieldB, *, -ByteArray.size_eq_zero_iff]; done) | (simp [fieldB, -ByteArray.size_eq_zero_iff]; intros; omega))]; first | rfl | simp, HB.out _⟩
    by_cases c1 : o ≤ 504
    rotate_left
    · skip
      go_enter Try.func27, Try.ntmps27
      go_wp2
      all_goals
        go_ret
        exact ⟨by rw [HSW.out false (by first | (simp [fieldB, *, -ByteArray.size_eq_zero_iff]; done) | (simp [fieldB, -ByteArray.size_eq_zero_iff]; intros; omega))]; first | rfl | simp, HB.out _⟩
    by_cases c2 : v.size = 0
    rotate_left
    · have e1 := ba_cons0 c2
      have e2 : ¬ v.toList = [] := by intro e; rw [e] at e1; cases e1
      go_enter Try.func27, Try.ntmps27
      go_wp2
      all_goals
        go_ret
        exact ⟨by rw [HSW.out false (by first | (simp [fieldB, *, -ByteArray.size_eq_zero_iff]; done) | (simp [fieldB, -ByteArray.size_eq_zero_iff]; intros; omega))]; first | rfl | simp, HB.out _⟩
    have f2 := ba_nil0 c2
    have g2 : v.toList.isEmpty = true := by rw [f2]; rfl
    go_enter Try.func27, Try.ntmps27
    go_wp2
    all_goals
      go_ret
      exact ⟨by rw [HSW.out true (by first | (simp [fieldB, *, -ByteArray.size_eq_zero_iff]; done) | (simp [fieldB, -ByteArray.size_eq_zero_iff]; intros; omega))]; first | rfl | simp, HB.out _⟩
  · by_cases c0 : 0 ≤ o
    rotate_left
    · skip
      go_enter Try.func27, Try.ntmps27
      go_wp2
      all_goals
        go_ret
        exact ⟨by rw [HSW.out false (by first | (simp [fieldB, *, -ByteArray.size_eq_zero_iff]; done) | (simp [fieldB, -ByteArray.size_eq_zero_iff]; intros; omega))]; first | rfl | simp, HB.out _⟩
    by_cases c1 : o ≤ 254
    rotate_left
    · skip
      go_enter Try.func27, Try.ntmps27
      go_wp2
      all_goals
        go_ret
        exact ⟨by rw [HSW.out false (by first | (simp [fieldB, *, -ByteArray.size_eq_zero_iff]; done) | (simp [fieldB, -ByteArray.size_eq_zero_iff]; intros; omega))]; first | rfl | simp, HB.out _⟩
    by_cases c2 : n = 0
    rotate_left
    · have e1 : (n == 0) = false := by simpa using c2
      go_enter Try.func27, Try.ntmps27
      go_wp2
      all_goals
        go_ret
        exact ⟨by rw [HSW.out false (by first | (simp [fieldB, *, -ByteArray.size_eq_zero_iff]; done) | (simp [fieldB, -ByteArray.size_eq_zero_iff]; intros; omega))]; first | rfl | simp, HB.out _⟩
    subst c2
    by_cases c3 : k.size = 0
    rotate_left
    · have e1 := ba_cons0 c3
      have e2 : ¬ k.toList = [] := by intro e; rw [e] at e1; cases e1
      go_enter Try.func27, Try.ntmps27
      go_wp2
      all_goals
        go_ret
        exact ⟨by rw [HSW.out false (by first | (simp [fieldB, *, -ByteArray.size_eq_zero_iff]; done) | (simp [fieldB, -ByteArray.size_eq_zero_iff]; intros; omega))]; first | rfl | simp, HB.out _⟩
    have f3 := ba_nil0 c3
    have g3 : k.toList.isEmpty = true := by rw [f3]; rfl
    by_cases c4 : x = 0
    rotate_left
    · have e1 : (x == 0) = false := by simpa using c4
      go_enter Try.func27, Try.ntmps27
      go_wp2
      all_goals
        go_ret
        exact ⟨by rw [HSW.out false (by first | (simp [fieldB, *, -ByteArray.size_eq_zero_iff]; done) | (simp [fieldB, -ByteArray.size_eq_zero_iff]; intros; omega))]; first | rfl | simp, HB.out _⟩
    subst c4
    go_enter Try.func27, Try.ntmps27
    go_wp2
    all_goals
      go_ret
      exact ⟨by rw [HSW.out true (by first | (simp [fieldB, *, -ByteArray.size_eq_zero_iff]; done) | (simp [fieldB, -ByteArray.size_eq_zero_iff]; intros; omega))]; first | rfl | simp, HB.out _⟩
  · by_cases c0 : o = 0
    rotate_left
    · have e1 : (o == 0) = false := by simpa using c0
      go_enter Try.func27, Try.ntmps27
      go_wp2
      all_goals
        go_ret
        exact ⟨by rw [HSW.out false (by first | (simp [fieldB, *, -ByteArray.size_eq_zero_iff]; done) | (simp [fieldB, -ByteArray.size_eq_zero_iff]; intros; omega))]; first | rfl | simp, HB.out _⟩
    subst c0
    by_cases c1 : n = 0
    rotate_left
    · have e1 : (n == 0) = false := by simpa using c1
      go_enter Try.func27, Try.ntmps27
      go_wp2
      all_goals
        go_ret
        exact ⟨by rw [HSW.out false (by first | (simp [fieldB, *, -ByteArray.size_eq_zero_iff]; done) | (simp [fieldB, -ByteArray.size_eq_zero_iff]; intros; omega))]; first | rfl | simp, HB.out _⟩
    subst c1
    by_cases c2 : v.size = 0
    rotate_left
    · have e1 := ba_cons0 c2
      have e2 : ¬ v.toList = [] := by intro e; rw [e] at e1; cases e1
      go_enter Try.func27, Try.ntmps27
      go_wp2
      all_goals
        go_ret
        exact ⟨by rw [HSW.out false (by first | (simp [fieldB, *, -ByteArray.size_eq_zero_iff]; done) | (simp [fieldB, -ByteArray.size_eq_zero_iff]; intros; omega))]; first | rfl | simp, HB.out _⟩
    have f2 := ba_nil0 c2
    have g2 : v.toList.isEmpty = true := by rw [f2]; rfl
    by_cases c3 : ¬ x = 0
    rotate_left
    · have c3' : x = 0 := Classical.not_not.1 c3
      subst c3'
      go_enter Try.func27, Try.ntmps27
      go_wp2
      all_goals
        go_ret
        exact ⟨by rw [HSW.out false (by first | (simp [fieldB, *, -ByteArray.size_eq_zero_iff]; done) | (simp [fieldB, -ByteArray.size_eq_zero_iff]; intros; omega))]; first | rfl | simp, HB.out _⟩
    have f3 : (x == 0) = false := by simpa using c3
    have g3 : (x != 0) = true := by simpa using c3
    go_enter Try.func27, Try.ntmps27
    go_wp2
    all_goals
      go_ret
      exact ⟨by rw [HSW.out true (by first | (simp [fieldB, *, -ByteArray.size_eq_zero_iff]; done) | (simp [fieldB, -ByteArray.size_eq_zero_iff]; intros; omega))]; first | rfl | simp, HB.out _⟩
  · by_cases c0 : o = 0
    rotate_left
    · have e1 : (o == 0) = false := by simpa using c0
      go_enter Try.func27, Try.ntmps27
      go_wp2
      all_goals
        go_ret
        exact ⟨by rw [HSW.out false (by first | (simp [fieldB, *, -ByteArray.size_eq_zero_iff]; done) | (simp [fieldB, -ByteArray.size_eq_zero_iff]; intros; omega))]; first | rfl | simp, HB.out _⟩
    subst c0
    by_cases c1 : n = 0
    rotate_left
    · have e1 : (n == 0) = false := by simpa using c1
      go_enter Try.func27, Try.ntmps27
      go_wp2
      all_goals
        go_ret
        exact ⟨by rw [HSW.out false (by first | (simp [fieldB, *, -ByteArray.size_eq_zero_iff]; done) | (simp [fieldB, -ByteArray.size_eq_zero_iff]; intros; omega))]; first | rfl | simp, HB.out _⟩
    subst c1
    by_cases c2 : v.size = 0
    rotate_left
    · have e1 := ba_cons0 c2
      have e2 : ¬ v.toList = [] := by intro e; rw [e] at e1; cases e1
      go_enter Try.func27, Try.ntmps27
      go_wp2
      all_goals
        go_ret
        exact ⟨by rw [HSW.out false (by first | (simp [fieldB, *, -ByteArray.size_eq_zero_iff]; done) | (simp [fieldB, -ByteArray.size_eq_zero_iff]; intros; omega))]; first | rfl | simp, HB.out _⟩
    have f2 := ba_nil0 c2
    have g2 : v.toList.isEmpty = true := by rw [f2]; rfl
    by_cases c3 : ¬ x = 0
    rotate_left
    · have c3' : x = 0 := Classical.not_not.1 c3
      subst c3'
      go_enter Try.func27, Try.ntmps27
      go_wp2
      all_goals
        go_ret
        exact ⟨by rw [HSW.out false (by first | (simp [fieldB, *, -ByteArray.size_eq_zero_iff]; done) | (simp [fieldB, -ByteArray.size_eq_zero_iff]; intros; omega))]; first | rfl | simp, HB.out _⟩
    have f3 : (x == 0) = false := by simpa using c3
    have g3 : (x != 0) = true := by simpa using c3
    go_enter Try.func27, Try.ntmps27
    go_wp2
    all_goals
      go_ret
      exact ⟨by rw [HSW.out true (by first | (simp [fieldB, *, -ByteArray.size_eq_zero_iff]; done) | (simp [fieldB, -ByteArray.size_eq_zero_iff]; intros; omega))]; first | rfl | simp, HB.out _⟩
set_option maxHeartbeats 2000000 in
theorem qroute_any (h : Nh) (n : Nd) (key : ByteArray) (w : World) (H : NdAt w h n) :
    Calls Try.prog 13 #[ndv h n, .string key] w fun r w' => r = .returned (.int .i64 (routeN n.ps key : Int)) ∧ Only (fun _ => False) w w' := by
  have HS := Lib.hid (NbAt.start H)
  clear H
  obtain ⟨c0, c1, c2, c3, c4⟩ := HS.out.cells
  obtain ⟨m, hm⟩ : ∃ m, m = n.ps.length := ⟨_, rfl⟩
  have HM := Lib.hid hm
  have hb : m ≤ 140737488351232 := by rw [hm]; exact HS.out.nd.lp
  rw [← hm] at c2
  clear hm
  go_enter Try.func13, Try.ntmps13
  go_wp2_with fail
  go_loopw [5, 6] (fun kid i wr => ∃ k : Nat, (k ≤ m) ∧ i = .int .i64 (k : Int) ∧ Hid (kid = .int .i64 (routeN (n.ps.take k) key : Int)) ∧ Hid (NbAt w wr w.heap.size h n)) (fun _ i _ => m - (intOf i).toNat)
  case atStart => exact ⟨0, Nat.zero_le _, rfl, Lib.hid rfl, HS⟩
  case round =>
    clear c0 c1 c2 c3 c4
    obtain ⟨k, hk, rfl, HR, HO⟩ := hrel
    obtain ⟨c0, c1, c2, c3, c4⟩ := HO.out.cells
    rw [← HM.out] at c2
    obtain ⟨r, hr⟩ : ∃ r : Nat, routeN (n.ps.take k) key = r := ⟨_, rfl⟩
    have HRK := Lib.hid hr
    rw [hr] at HR
    obtain rfl := HR.out
    have hrb : r ≤ 140737488351232 := by
      rw [← hr]
      refine Nat.le_trans (route_le _ _) ?_
      rw [List.length_take]
      omega
    clear HR hr
    have hr0 : (0 : Int) ≤ (r : Int) := by omega
    by_cases hlt : k < m
    · obtain ⟨g, off, he, y⟩ := HO.out.nd.p.st (j := k) (by rw [← HM.out]; exact hlt)
      have HST := Lib.hid (route_step (key := key) (by rw [← HM.out]; exact hlt : k < n.ps.length))
      rw [he] at c2
      clear he
      generalize n.ps.getD k default = p at *
      rw [HRK.out] at HST
      obtain ⟨q, hq⟩ : ∃ q, Op.bytesLess p.toList key.toList = q := ⟨_, rfl⟩
      obtain ⟨q2, hq2⟩ : ∃ q2, (p.toList == key.toList) = q2 := ⟨_, rfl⟩
      have HQ : Hid (ble p key = (q || q2)) := Lib.hid (by unfold ble; rw [hq, hq2])
      rw [HQ.out] at HST
      have hltI : (k : Int) < (m : Int) := by omega
      have h0 : (0 : Int) ≤ (k : Int) := by omega
      cases q <;> cases q2
      all_goals
        go_wp2_with fail
        go_roundw
        case rel => exact ⟨k + 1, by omega, by go_num, Lib.hid (by rw [HST.out]; first | rfl | simp), HO⟩
        case measure => simp [intOf]; omega
    · have hltI : ¬ (k : Int) < (m : Int) := by omega
      have HE : Hid (routeN n.ps key = r) := Lib.hid (by rw [← HRK.out, List.take_of_length_le (by have := HM.out; omega)])
      go_wp2_with fail
      go_ret
      exact ⟨by rw [HE.out]; rfl, HO.out.only⟩

set_option maxHeartbeats 2000000 in
theorem qwaiting_any (h : Nh) (n : Nd) (w : World) (H : NdAt w h n) :
    Calls Try.prog 15 #[ndv h n] w fun r w' => r = .returned (.int .i64 (waitW n.bs)) ∧ Only (fun _ => False) w w' := by
  have HS := Lib.hid (NbAt.start H)
  clear H
  obtain ⟨c0, c1, c2, c3, c4⟩ := HS.out.cells
  obtain ⟨m, hm⟩ : ∃ m, m = n.bs.length := ⟨_, rfl⟩
  have HM := Lib.hid hm
  have hb : m ≤ 140737488351232 := by rw [hm]; exact HS.out.nd.lb
  rw [← hm] at c4
  clear hm
  go_enter Try.func15, Try.ntmps15
  go_wp2_with fail
  go_loopw [3, 4] (fun cnt i wr => ∃ k : Nat, (k ≤ m) ∧ i = .int .i64 (k : Int) ∧ Hid (cnt = .int .i64 (waitW (n.bs.take k))) ∧ Hid (NbAt w wr w.heap.size h n)) (fun _ i _ => m - (intOf i).toNat)
  case atStart => exact ⟨0, Nat.zero_le _, rfl, Lib.hid rfl, HS⟩
  case round =>
    clear c0 c1 c2 c3 c4
    obtain ⟨k, hk, rfl, HR, HO⟩ := hrel
    obtain ⟨c0, c1, c2, c3, c4⟩ := HO.out.cells
    rw [← HM.out] at c4
    obtain ⟨r, hr⟩ : ∃ r : Int, waitW (n.bs.take k) = r := ⟨_, rfl⟩
    have HRK := Lib.hid hr
    rw [hr] at HR
    obtain rfl := HR.out
    clear HR hr
    by_cases hlt : k < m
    · obtain ⟨g, off, ao, c, he, y, _, _⟩ := HO.out.nd.b k (by rw [← HM.out]; exact hlt)
      have HST := Lib.hid (waitW_step (by rw [← HM.out]; exact hlt : k < n.bs.length))
      rw [he] at c4
      clear he
      generalize n.bs.getD k default = l at *
      rw [HRK.out] at HST
      obtain ⟨q, hq⟩ : ∃ q, q = l.length := ⟨_, rfl⟩
      rw [← hq] at y HST
      clear hq
      have hltI : (k : Int) < (m : Int) := by omega
      have h0 : (0 : Int) ≤ (k : Int) := by omega
      go_wp2_with fail
      go_roundw
      case rel => exact ⟨k + 1, by omega, by go_num, Lib.hid (by rw [HST.out]), HO⟩
      case measure => simp [intOf]; omega
    · have hltI : ¬ (k : Int) < (m : Int) := by omega
      have HE : Hid (waitW n.bs = r) := Lib.hid (by rw [← HRK.out, List.take_of_length_le (by have := HM.out; omega)])
      go_wp2_with fail
      go_ret
      exact ⟨by rw [HE.out]; rfl, HO.out.only⟩


end Go.Proofs.Ytookbmpaoljelaa
