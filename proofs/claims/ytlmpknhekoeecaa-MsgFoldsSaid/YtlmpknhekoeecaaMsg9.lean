/-
  Package msg: what any message makes of a state, of an entry.
-/
import Derived.Test.YtlmpknhekoeecaaMsg7
import Derived.Test.YtlmpknhekoeecaaMsg8
namespace Go.Proofs.Ytlmpknhekoeecaa
open Go Go.RowKit
set_option linter.unusedVariables false
set_option linter.unusedSimpArgs false
set_option maxRecDepth 100000

set_option maxHeartbeats 2000000 in
theorem safter_any (s : St) (m : Ms) (w : World) (hm : MsOk m) (hc : s.c.b.size ≤ 140737488355328) (hn : s.m.b.size ≤ 140737488355328) :
    Calls Try.prog 20 #[stv s, msv m] w fun e w' => e = .returned (stv (s.after m)) ∧ Below w.heap.size w w' := by
  have HS := Lib.hid (CgAt.start w s m)
  have HCH := Lib.hid (fun W (h1 : 1 ≤ m.K) (h4 : m.K ≤ 4) (h3 : m.K = 3 → 0 ≤ m.off) => schanged_any s m W h1 h4 h3 hm hc hn)
  have HGR := Lib.hid (fun W (h4 : m.K = 4) => sgrown_any s m W h4 hm hc hn)
  have HEM := Lib.hid (fun W => sended_any s m.x s.m W)
  have HEC := Lib.hid (fun W => sended_any s m.x s.c W)
  clear hm hc hn
  by_cases k3 : m.K = 3
  · by_cases ho : m.off < 0
    · have HV : Hid (s.after m = s) := Lib.hid (by unfold St.after; rw [if_pos k3, if_pos ho])
      obtain ⟨⟨t, b⟩, y, ⟨t2, b2⟩⟩ := s
      obtain ⟨sq, K, mk, x, mv, off, num⟩ := m
      simp only at k3 ho
      subst k3
      go_enter Try.func20, Try.ntmps20
      go_wp2_with fail
      refine bodyPost_ret (v := stv ⟨⟨t, b⟩, y, ⟨t2, b2⟩⟩) (by simp [results, Try.results20, go_sem]) rfl ?_
      exact ⟨by rw [HV.out], only_b (by repeat (first | exact Only.refl _ _ | refine only_set ?_ (by omega) _ _ | refine Only.drewN ?_ _ | refine Only.drew ?_ | refine Only.alloc ?_ _))⟩
    have ho' : 0 ≤ m.off := by omega
    have HV : Hid (s.after m = s.changed m) := Lib.hid (by unfold St.after; rw [if_pos k3, if_neg ho])
    have HCC := Lib.hid (fun W => HCH.out W (by omega) (by omega) (fun _ => ho'))
    obtain ⟨⟨⟨t3, b3⟩, y3, ⟨t4, b4⟩⟩, hu⟩ : ∃ u, s.changed m = u := ⟨_, rfl⟩
    rw [hu] at HCC HV
    clear hu ho' HCH HGR HEM HEC
    obtain ⟨⟨t, b⟩, y, ⟨t2, b2⟩⟩ := s
    obtain ⟨sq, K, mk, x, mv, off, num⟩ := m
    simp only at k3 ho
    subst k3
    go_enter Try.func20, Try.ntmps20
    go_wp2_with fail
    refine (HCC.out _).mono ?_
    rintro e w1 ⟨rfl, ha⟩
    have HS1 := Lib.hid (HS.out.keep (below_quiet ha))
    clear ha HS HCC
    obtain ⟨⟨r0, r1, r2, r3, r4⟩, g0, g1, g2, g3, g4⟩ := blk5 HS1.out.r
    go_wp2_with fail
    refine bodyPost_ret (v := stv ⟨⟨t3, b3⟩, y3, ⟨t4, b4⟩⟩) (by simp [results, Try.results20, go_sem, r0, r1, r2, r3, r4]) rfl ?_
    exact ⟨by rw [HV.out], HS1.out.done _ _ _ _ _⟩
  by_cases k12 : m.K = 1 ∨ m.K = 2
  · have HV : Hid (s.after m = s.changed m) := Lib.hid (by unfold St.after; rw [if_neg k3, if_pos k12])
    have HCC := Lib.hid (fun W => HCH.out W (by omega) (by omega) (fun h => absurd h k3))
    obtain ⟨⟨⟨t3, b3⟩, y3, ⟨t4, b4⟩⟩, hu⟩ : ∃ u, s.changed m = u := ⟨_, rfl⟩
    rw [hu] at HCC HV
    clear hu HCH HGR HEM HEC
    obtain ⟨⟨t, b⟩, y, ⟨t2, b2⟩⟩ := s
    obtain ⟨sq, K, mk, x, mv, off, num⟩ := m
    simp only at k3 k12
    clear k3
    rcases k12 with rfl | rfl
    all_goals
      go_enter Try.func20, Try.ntmps20
      go_wp2_with fail
      refine (HCC.out _).mono ?_
      rintro e w1 ⟨rfl, ha⟩
      have HS1 := Lib.hid (HS.out.keep (below_quiet ha))
      clear ha HS HCC
      obtain ⟨⟨r0, r1, r2, r3, r4⟩, g0, g1, g2, g3, g4⟩ := blk5 HS1.out.r
      go_wp2_with fail
      refine bodyPost_ret (v := stv ⟨⟨t3, b3⟩, y3, ⟨t4, b4⟩⟩) (by simp [results, Try.results20, go_sem, r0, r1, r2, r3, r4]) rfl ?_
      exact ⟨by rw [HV.out], HS1.out.done _ _ _ _ _⟩
  by_cases k4 : m.K = 4
  · have HV : Hid (s.after m = s.grown m) := Lib.hid (by unfold St.after; rw [if_neg k3, if_neg k12, if_pos k4])
    have HCC := Lib.hid (fun W => HGR.out W k4)
    obtain ⟨⟨⟨t3, b3⟩, y3, ⟨t4, b4⟩⟩, hu⟩ : ∃ u, s.grown m = u := ⟨_, rfl⟩
    rw [hu] at HCC HV
    clear hu HCH HGR HEM HEC k12
    obtain ⟨⟨t, b⟩, y, ⟨t2, b2⟩⟩ := s
    obtain ⟨sq, K, mk, x, mv, off, num⟩ := m
    simp only at k3 k4
    clear k3
    subst k4
    go_enter Try.func20, Try.ntmps20
    go_wp2_with fail
    refine (HCC.out _).mono ?_
    rintro e w1 ⟨rfl, ha⟩
    have HS1 := Lib.hid (HS.out.keep (below_quiet ha))
    clear ha HS HCC
    obtain ⟨⟨r0, r1, r2, r3, r4⟩, g0, g1, g2, g3, g4⟩ := blk5 HS1.out.r
    go_wp2_with fail
    refine bodyPost_ret (v := stv ⟨⟨t3, b3⟩, y3, ⟨t4, b4⟩⟩) (by simp [results, Try.results20, go_sem, r0, r1, r2, r3, r4]) rfl ?_
    exact ⟨by rw [HV.out], HS1.out.done _ _ _ _ _⟩
  by_cases k5 : m.K = 5
  · have HV : Hid (s.after m = s.ended m.x s.m) := Lib.hid (after5 k5)
    obtain ⟨⟨⟨t3, b3⟩, y3, ⟨t4, b4⟩⟩, hu⟩ : ∃ u, s.ended m.x s.m = u := ⟨_, rfl⟩
    rw [hu] at HEM HV
    clear hu HCH HGR HEC k12 k4
    obtain ⟨⟨t, b⟩, y, ⟨t2, b2⟩⟩ := s
    obtain ⟨sq, K, mk, x, mv, off, num⟩ := m
    simp only at k3 k5
    clear k3
    subst k5
    go_enter Try.func20, Try.ntmps20
    go_wp2_with fail
    refine (HEM.out _).mono ?_
    rintro e w1 ⟨rfl, ha⟩
    have HS1 := Lib.hid (HS.out.keep (below_quiet ha))
    clear ha HS HEM
    obtain ⟨⟨r0, r1, r2, r3, r4⟩, g0, g1, g2, g3, g4⟩ := blk5 HS1.out.r
    go_wp2_with fail
    refine bodyPost_ret (v := stv ⟨⟨t3, b3⟩, y3, ⟨t4, b4⟩⟩) (by simp [results, Try.results20, go_sem, r0, r1, r2, r3, r4]) rfl ?_
    exact ⟨by rw [HV.out], HS1.out.done _ _ _ _ _⟩
  by_cases k6 : m.K = 6
  · have HV : Hid (s.after m = s.ended m.x s.c) := Lib.hid (after6 k6)
    obtain ⟨⟨⟨t3, b3⟩, y3, ⟨t4, b4⟩⟩, hu⟩ : ∃ u, s.ended m.x s.c = u := ⟨_, rfl⟩
    rw [hu] at HEC HV
    clear hu HCH HGR HEM k12 k4 k5
    obtain ⟨⟨t, b⟩, y, ⟨t2, b2⟩⟩ := s
    obtain ⟨sq, K, mk, x, mv, off, num⟩ := m
    simp only at k3 k6
    clear k3
    subst k6
    go_enter Try.func20, Try.ntmps20
    go_wp2_with fail
    refine (HEC.out _).mono ?_
    rintro e w1 ⟨rfl, ha⟩
    have HS1 := Lib.hid (HS.out.keep (below_quiet ha))
    clear ha HS HEC
    obtain ⟨⟨r0, r1, r2, r3, r4⟩, g0, g1, g2, g3, g4⟩ := blk5 HS1.out.r
    go_wp2_with fail
    refine bodyPost_ret (v := stv ⟨⟨t3, b3⟩, y3, ⟨t4, b4⟩⟩) (by simp [results, Try.results20, go_sem, r0, r1, r2, r3, r4]) rfl ?_
    exact ⟨by rw [HV.out], HS1.out.done _ _ _ _ _⟩
  · have HV : Hid (s.after m = s) := Lib.hid (by unfold St.after; rw [if_neg k3, if_neg k12, if_neg k4, if_neg k5, if_neg k6])
    clear HCH HGR HEM HEC HS
    obtain ⟨⟨t, b⟩, y, ⟨t2, b2⟩⟩ := s
    obtain ⟨sq, K, mk, x, mv, off, num⟩ := m
    simp only at k3 k12 k4 k5 k6
    have c1 : (K == 1) = false := by simp; omega
    have c2 : (K == 2) = false := by simp; omega
    have c3 : (K == 3) = false := by simpa using k3
    have c4 : (K == 4) = false := by simpa using k4
    have c5 : (K == 5) = false := by simpa using k5
    have c6 : (K == 6) = false := by simpa using k6
    clear k3 k12 k4 k5 k6
    go_enter Try.func20, Try.ntmps20
    go_wp2_with fail
    refine bodyPost_ret (v := stv ⟨⟨t, b⟩, y, ⟨t2, b2⟩⟩) (by simp [results, Try.results20, go_sem]) rfl ?_
    exact ⟨by rw [HV.out], only_b (by repeat (first | exact Only.refl _ _ | refine only_set ?_ (by omega) _ _ | refine Only.drewN ?_ _ | refine Only.drew ?_ | refine Only.alloc ?_ _))⟩

end Go.Proofs.Ytlmpknhekoeecaa
