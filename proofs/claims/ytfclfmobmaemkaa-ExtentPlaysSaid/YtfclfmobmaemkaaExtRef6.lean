/-
  The statements' same; the reference's calls beside what else is one's own.
-/
import Derived.Test.YtfclfmobmaemkaaExtRef5
import Derived.Test.YtfclfmobmaemkaaExtSt3
namespace Go.Proofs.Ytfclfmobmaemkaa
open Go Go.RowKit
set_option linter.unusedVariables false
set_option linter.unusedSimpArgs false
set_option maxRecDepth 100000

set_option maxRecDepth 100000 in
set_option maxHeartbeats 2000000 in
theorem same_any {w0 w : World} {v1 v2 : Value} {hs : List (Nat × Nat)} {J : Res} [Stab J] (h : Own w0 w (Sep (HolesR v1 hs) (Sep (RHolesR v2 hs) J))) (hl : hs.length ≤ 4096) :
    Calls Try.prog 19 #[v1, v2] w fun e w' => e = .returned (.bool true) ∧ Own w0 w' (Sep (HolesR v1 hs) (Sep (RHolesR v2 hs) J)) := by
  obtain ⟨o1, c1, rfl⟩ := own_shapeN h.owns
  obtain ⟨o2, c2, rfl⟩ := own_shapeN h.snd.owns
  obtain ⟨m, hm⟩ : ∃ m, m = hs.length := ⟨_, rfl⟩
  have H : Hid (Own w0 w (Sep (RowV 43 2 (.slice o1 m c1) m (hcells hs)) (Sep (RowV 58 2 (.slice o2 m c2) m (hcells hs)) J))) := Lib.hid (by rw [hm]; exact h)
  suffices hh : Calls Try.prog 19 #[.slice o1 m c1, .slice o2 m c2] w fun e w' => e = .returned (.bool true) ∧ Own w0 w' (Sep (RowV 43 2 (.slice o1 m c1) m (hcells hs)) (Sep (RowV 58 2 (.slice o2 m c2) m (hcells hs)) J)) by
    rw [hm] at hh; exact hh
  rw [← hm] at hl
  have HM := Lib.hid hm
  clear h hm
  have hmm : ((m : Int) != (m : Int)) = false := by simp
  go_enter Try.func19, Try.ntmps19
  go_wp2_with fail
  clear hmm
  go_loopw [5] (fun i wr => ∃ k : Nat, k ≤ m ∧ i = .int .i64 k ∧ Hid (Own w0 wr (Sep (RowV 43 2 (.slice o1 m c1) m (hcells hs)) (Sep (RowV 58 2 (.slice o2 m c2) m (hcells hs)) J)))) (fun i _ => m - (intOf i).toNat)
  case atStart => exact ⟨0, Nat.zero_le _, rfl, H⟩
  case round =>
    clear H
    obtain ⟨k, hk, rfl, HP⟩ := hrel
    by_cases hlt : k < m
    · have hltI : (k : Int) < (m : Int) := by omega
      have hk0 : (0 : Int) ≤ (k : Int) := by omega
      obtain ⟨g1, rfl, d1, d2⟩ := hole_cells HP.out (k := k) (by rw [← HM.out]; exact hlt)
      obtain ⟨g2, rfl, d3, d4, _⟩ := rhole_cells HP.out.snd (k := k) (by rw [← HM.out]; exact hlt)
      obtain ⟨u, hu⟩ : ∃ u : Int, u = ((hs.getD k (0, 0)).1 : Int) := ⟨_, rfl⟩
      obtain ⟨x, hx⟩ : ∃ x : Int, x = ((hs.getD k (0, 0)).2 : Int) := ⟨_, rfl⟩
      rw [← hu] at d1 d3
      rw [← hx] at d2 d4
      clear hu hx
      have huu : (u != u) = false := by simp
      have hxx : (x != x) = false := by simp
      go_wp2_with fail
      go_quiet (fail)
      have HQ := Lib.hid (HP.out.drewN nq)
      clear d1 d2 d3 d4 huu hxx
      go_wp2_with fail
      go_roundw
      case rel => exact ⟨k + 1, by omega, by go_num, HQ⟩
      case measure => simp [intOf]; omega
    · have hltI : ¬ (k : Int) < (m : Int) := by omega
      go_wp2_with fail
      go_ret
      exact ⟨rfl, HP.out⟩

theorem rown_new {w0 w : World} {I : Res} [Stab I] (h : Own w0 w I) (a n : Nat) (y : Int) (hy : y = (a : Int) + n) (hfit : a + n ≤ 4096) :
    Calls Try.prog 9 #[.int .i64 a, .int .i64 y] w fun e w' => ∃ p, e = .returned (.tuple #[.pointer (some ⟨p, 0, none⟩), .int .i64 0]) ∧ Own w0 w' (Sep (SpR 53 p a (flip (List.replicate n false))) I) := by
  refine (ref_new a n y hy w hfit).mono ?_
  rintro e w' ⟨rfl, hS, ho⟩
  refine ⟨_, rfl, h.fresh ho (B := fun k => k = w.heap.size + 1 ∨ k = w.heap.size) ⟨_, hS, fun _ => Iff.rfl⟩ ?_⟩
  rintro k (rfl | rfl) <;> omega
theorem rown_take {w0 w : World} {p a : Nat} {l : List Bool} {J : Res} [Stab J] (h : Own w0 w (Sep (SpR 53 p a (flip l)) J)) (start n : Int) (hs : i64R' start) (hn : i64R' n) :
    Calls Try.prog 16 #[.pointer (some ⟨p, 0, none⟩), .int .i64 start, .int .i64 n] w fun e w' => e = .returned (.int .i64 (turnE a l start n true)) ∧ Own w0 w' (Sep (SpR 53 p a (flip (turnL a l start n true))) J) :=
  xown_turned h fun g hS => ref_take hS start n hs hn
theorem rown_free {w0 w : World} {p a : Nat} {l : List Bool} {J : Res} [Stab J] (h : Own w0 w (Sep (SpR 53 p a (flip l)) J)) (start n : Int) (hs : i64R' start) (hn : i64R' n) :
    Calls Try.prog 17 #[.pointer (some ⟨p, 0, none⟩), .int .i64 start, .int .i64 n] w fun e w' => e = .returned (.int .i64 (turnE a l start n false)) ∧ Own w0 w' (Sep (SpR 53 p a (flip (turnL a l start n false))) J) :=
  xown_turned h fun g hS => ref_free hS start n hs hn
theorem rown_alloc {w0 w : World} {p a : Nat} {l : List Bool} {J : Res} [Stab J] (h : Own w0 w (Sep (SpR 53 p a (flip l)) J)) (n : Int) (hn : i64R' n) :
    Calls Try.prog 15 #[.pointer (some ⟨p, 0, none⟩), .int .i64 n] w fun e w' => e = .returned (.tuple #[.int .i64 (allocV a l n), .int .i64 (allocE l n)]) ∧ Own w0 w' (Sep (SpR 53 p a (flip (allocL l n))) J) :=
  xown_turned h fun g hS => ref_alloc hS n hn
theorem rown_left {w0 w : World} {p a : Nat} {l : List Bool} {J : Res} [Stab J] (h : Own w0 w (Sep (SpR 53 p a (flip l)) J)) :
    Calls Try.prog 18 #[.pointer (some ⟨p, 0, none⟩)] w fun e w' => e = .returned (.int .i64 (l.count false : Nat)) ∧ Own w0 w' (Sep (SpR 53 p a (flip l)) J) := by
  obtain ⟨g, hS⟩ := h.space
  refine (ref_left hS).mono ?_
  rintro e w' ⟨rfl, rfl⟩
  exact ⟨rfl, h⟩

end Go.Proofs.Ytfclfmobmaemkaa
