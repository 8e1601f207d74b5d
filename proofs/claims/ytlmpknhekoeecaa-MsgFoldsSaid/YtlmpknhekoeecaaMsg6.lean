/-
  Package msg: what a message makes of a state: changed.
-/
import Derived.Test.YtlmpknhekoeecaaMsg3
import Derived.Test.YtlmpknhekoeecaaMsg4
import Derived.Test.YtlmpknhekoeecaaMsg5
import Derived.Deep.RegionLaw
namespace Go.Proofs.Ytlmpknhekoeecaa
open Go Go.RowKit
set_option linter.unusedVariables false
set_option linter.unusedSimpArgs false
set_option maxRecDepth 100000

/-- What may be asked of a message: its number is one, its text no longer than memory. -/
structure MsOk (m : Ms) : Prop where
  n0 : 0 ≤ m.num
  n1 : m.num < 18446744073709551616
  v : m.v.size ≤ 140737488355328
theorem chg_any (v : Mv) (m : Ms) (w : World) (h1 : 1 ≤ m.K) (h4 : m.K ≤ 4) (h3 : m.K = 3 → 0 ≤ m.off) (hm : MsOk m) (hs : v.b.size ≤ 140737488355328) :
    Calls Try.prog (chgF m.K) #[mvv v, msv m] w fun e w' => e = .returned (mvv (chg v m)) ∧ Below w.heap.size w w' := by
  have h : m.K = 1 ∨ m.K = 2 ∨ m.K = 3 ∨ m.K = 4 := by omega
  rcases h with h | h | h | h
  · rw [show chg v m = ⟨true, m.v⟩ from if_pos h, show chgF m.K = 29 by rw [h]; rfl]
    exact vput_any v m w
  · rw [show chg v m = Mv.no by unfold chg; rw [if_neg (by omega), if_pos h], show chgF m.K = 30 by rw [h]; rfl]
    exact vdel_any v m w
  · rw [chg3 h, show chgF m.K = 31 by rw [h]; rfl]
    exact vadd_any v m w (h3 h) ⟨hm.n0, hm.n1⟩ hs
  · rw [chg4 h, show chgF m.K = 32 by rw [h]; rfl]
    exact vgrow_any v m w hs hm.v

/-- Where a state's method stands: the state's block, the message's, the answer's. -/
structure CgAt (w W : World) (p : Nat) (s : St) (m : Ms) : Prop where
  s : W.heap[p]? = some (.cells #[.bool s.c.t, .string s.c.b, .int .u64 s.x, .bool s.m.t, .string s.m.b] 45 (0, 0))
  m : W.heap[p + 1]? = some (.cells #[.int .u64 m.sq, .int .i64 m.K, .string m.k, .int .u64 m.x, .string m.v, .int .i64 m.off, .int .u64 m.num] 28 (0, 0))
  r : W.heap[p + 1 + 1]? = some (.cells #[.bool false, .string ⟨#[]⟩, .int .u64 0, .bool false, .string ⟨#[]⟩] 45 (0, 0))
  only : Only (fun _ => False) w W
  ge : w.heap.size ≤ p
section
variable {w W W' : World} {p : Nat} {s : St} {m : Ms}
theorem CgAt.keep (H : CgAt w W p s m) (ho : Only (fun _ => False) W W') : CgAt w W' p s m :=
  ⟨qkeep ho H.s, qkeep ho H.m, qkeep ho H.r, H.only.trans ho (fun _ _ h => h), H.ge⟩
theorem CgAt.start (w : World) (s : St) (m : Ms) : CgAt w (((w.alloc (.cells #[.bool s.c.t, .string s.c.b, .int .u64 s.x, .bool s.m.t, .string s.m.b] 45)).alloc (.cells #[.int .u64 m.sq, .int .i64 m.K, .string m.k, .int .u64 m.x, .string m.v, .int .i64 m.off, .int .u64 m.num] 28)).alloc (.cells #[.bool false, .string ⟨#[]⟩, .int .u64 0, .bool false, .string ⟨#[]⟩] 45)) w.heap.size s m := by
  refine ⟨alloc_keep (alloc_keep (heap_alloc_new w _)), ?_, ?_, (((Only.refl _ w).alloc _).alloc _).alloc _, Nat.le_refl _⟩
  · have := heap_alloc_new (w.alloc (.cells #[.bool s.c.t, .string s.c.b, .int .u64 s.x, .bool s.m.t, .string s.m.b] 45)) (.cells #[.int .u64 m.sq, .int .i64 m.K, .string m.k, .int .u64 m.x, .string m.v, .int .i64 m.off, .int .u64 m.num] 28)
    rw [World.size_alloc] at this
    exact alloc_keep this
  · have := heap_alloc_new ((w.alloc (.cells #[.bool s.c.t, .string s.c.b, .int .u64 s.x, .bool s.m.t, .string s.m.b] 45)).alloc (.cells #[.int .u64 m.sq, .int .i64 m.K, .string m.k, .int .u64 m.x, .string m.v, .int .i64 m.off, .int .u64 m.num] 28)) (.cells #[.bool false, .string ⟨#[]⟩, .int .u64 0, .bool false, .string ⟨#[]⟩] 45)
    rwa [World.size_alloc, World.size_alloc] at this
theorem CgAt.setc (H : CgAt w W p s m) (u : Mv) : CgAt w ((W.setCell ⟨p, 0, none⟩ (.bool u.t)).setCell ⟨p, 1, none⟩ (.string u.b)) p ⟨u, s.x, s.m⟩ m := by
  have hg := H.ge
  refine ⟨?_, set_keep (by omega) (set_keep (by omega) H.m), set_keep (by omega) (set_keep (by omega) H.r), only_set (only_set H.only hg _ _) hg _ _, H.ge⟩
  have := heap_set (heap_set H.s 0 (.bool u.t)) 1 (.string u.b)
  simpa using this
theorem CgAt.setm (H : CgAt w W p s m) (u : Mv) : CgAt w ((W.setCell ⟨p, 3, none⟩ (.bool u.t)).setCell ⟨p, 4, none⟩ (.string u.b)) p ⟨s.c, s.x, u⟩ m := by
  have hg := H.ge
  refine ⟨?_, set_keep (by omega) (set_keep (by omega) H.m), set_keep (by omega) (set_keep (by omega) H.r), only_set (only_set H.only hg _ _) hg _ _, H.ge⟩
  have := heap_set (heap_set H.s 3 (.bool u.t)) 4 (.string u.b)
  simpa using this
theorem CgAt.setx (H : CgAt w W p s m) (x : Int) : CgAt w (W.setCell ⟨p, 2, none⟩ (.int .u64 x)) p ⟨s.c, x, s.m⟩ m := by
  have hg := H.ge
  refine ⟨?_, set_keep (by omega) H.m, set_keep (by omega) H.r, only_set H.only hg _ _, H.ge⟩
  have := heap_set H.s 2 (.int .u64 x)
  simpa using this
theorem CgAt.done (H : CgAt w W p s m) (u0 u1 u2 u3 u4 : Value) :
    Below w.heap.size w (((((W.setCell ⟨p + 1 + 1, 0, none⟩ u0).setCell ⟨p + 1 + 1, 1, none⟩ u1).setCell ⟨p + 1 + 1, 2, none⟩ u2).setCell ⟨p + 1 + 1, 3, none⟩ u3).setCell ⟨p + 1 + 1, 4, none⟩ u4) := by
  have hg := H.ge
  exact only_b (only_set (only_set (only_set (only_set (only_set H.only (by omega) _ _) (by omega) _ _) (by omega) _ _) (by omega) _ _) (by omega) _ _)
end
def CgCut (w : World) (p : Nat) (s : St) (m : Ms) (wx : World) : Prop := CgAt w wx p s m

set_option maxHeartbeats 2000000 in
theorem schanged_any (s : St) (m : Ms) (w : World) (h1 : 1 ≤ m.K) (h4 : m.K ≤ 4) (h3 : m.K = 3 → 0 ≤ m.off) (hm : MsOk m) (hc : s.c.b.size ≤ 140737488355328) (hn : s.m.b.size ≤ 140737488355328) :
    Calls Try.prog 25 #[stv s, msv m] w fun e w' => e = .returned (stv (s.changed m)) ∧ Below w.heap.size w w' := by
  have HCH := Lib.hid (fun v W (hs : v.b.size ≤ 140737488355328) => chg_any v m W h1 h4 h3 hm hs)
  have HC := Lib.hid hc
  have HN := Lib.hid hn
  obtain ⟨⟨t, b⟩, y, ⟨t2, b2⟩⟩ := s
  obtain ⟨sq, K, mk, x, mv, off, num⟩ := m
  have HS := Lib.hid (CgAt.start w ⟨⟨t, b⟩, y, ⟨t2, b2⟩⟩ ⟨sq, K, mk, x, mv, off, num⟩)
  have HCO := Lib.hid (fun W => changeof_any K W h1 h4)
  have HCF := Lib.hid (fun args W => callf K h1 h4 args W)
  clear h1 h4 h3 hm hc hn
  go_enter Try.func25, Try.ntmps25
  go_wp2_with fail
  refine (HCO.out _).mono ?_
  rintro e w1 ⟨rfl, rfl⟩
  by_cases hx : x = 0
  · subst hx
    obtain ⟨⟨t3, b3⟩, hu⟩ : ∃ u, chg ⟨t, b⟩ ⟨sq, K, mk, 0, mv, off, num⟩ = u := ⟨_, rfl⟩
    have HCC := Lib.hid (fun W => HCH.out ⟨t, b⟩ W HC.out)
    rw [hu] at HCC
    have HV : Hid (St.changed ⟨⟨t, b⟩, y, ⟨t2, b2⟩⟩ ⟨sq, K, mk, 0, mv, off, num⟩ = ⟨⟨t3, b3⟩, y, ⟨t2, b2⟩⟩) := Lib.hid (by unfold St.changed; rw [if_pos rfl, hu])
    clear hu
    go_upto_region 3 with fail
    generalize World.alloc _ (.cells #[.bool false, .string ⟨#[]⟩, .int .u64 0, .bool false, .string ⟨#[]⟩] 45) = W1 at *
    obtain ⟨⟨z0, z1, z2, z3, z4⟩, f0, f1, f2, f3, f4⟩ := blk5 HS.out.s
    obtain ⟨y0, y1, y2, y3, y4, y5, y6⟩ := blk7 HS.out.m
    have hcf := fun args W => HCF.out args W
    go_wp2_with fail
    refine (HCC.out _).mono ?_
    rintro e w2 ⟨rfl, ha⟩
    have HS2 := Lib.hid (HS.out.keep (below_quiet ha))
    have HS3 := Lib.hid (HS2.out.setc ⟨t3, b3⟩)
    clear ha HS HCC z0 z1 z2 z3 z4 f0 f1 f2 f3 f4 y0 y1 y2 y3 y4 y5 y6 hcf
    obtain ⟨⟨z0, z1, z2, z3, z4⟩, f0, f1, f2, f3, f4⟩ := blk5 HS2.out.s
    go_upto_region 7 with fail
    clear z0 z1 z2 z3 z4 f0 f1 f2 f3 f4
    generalize World.setCell (World.setCell w2 _ _) _ _ = w3 at *
    obtain ⟨⟨z0, z1, z2, z3, z4⟩, f0, f1, f2, f3, f4⟩ := blk5 HS3.out.s
    obtain ⟨⟨r0, r1, r2, r3, r4⟩, g0, g1, g2, g3, g4⟩ := blk5 HS3.out.r
    go_wp2_with fail
    refine bodyPost_ret (v := stv ⟨⟨t3, b3⟩, y, ⟨t2, b2⟩⟩) (by simp [results, Try.results25, go_sem, r0, r1, r2, r3, r4]) rfl ?_
    exact ⟨by rw [HV.out], HS3.out.done _ _ _ _ _⟩
  have hx0 : (x == 0) = false := by simpa using hx
  by_cases hy : y = 0 ∨ y = x
  case neg =>
    have HV : Hid (St.changed ⟨⟨t, b⟩, y, ⟨t2, b2⟩⟩ ⟨sq, K, mk, x, mv, off, num⟩ = ⟨⟨t, b⟩, y, ⟨t2, b2⟩⟩) := Lib.hid (by unfold St.changed; rw [if_neg hx, if_neg hy])
    have hy0 : (y == 0) = false := by simp only [not_or] at hy; simpa using hy.1
    have hyx : (y == x) = false := by simp only [not_or] at hy; simpa using hy.2
    clear hx hy
    go_upto_region 7 with fail
    generalize World.alloc _ (.cells #[.bool false, .string ⟨#[]⟩, .int .u64 0, .bool false, .string ⟨#[]⟩] 45) = W1 at *
    obtain ⟨⟨z0, z1, z2, z3, z4⟩, f0, f1, f2, f3, f4⟩ := blk5 HS.out.s
    obtain ⟨⟨r0, r1, r2, r3, r4⟩, g0, g1, g2, g3, g4⟩ := blk5 HS.out.r
    go_wp2_with fail
    refine bodyPost_ret (v := stv ⟨⟨t, b⟩, y, ⟨t2, b2⟩⟩) (by simp [results, Try.results25, go_sem, r0, r1, r2, r3, r4]) rfl ?_
    exact ⟨by rw [HV.out], HS.out.done _ _ _ _ _⟩
  have HVB : Hid ((St.view ⟨⟨t, b⟩, y, ⟨t2, b2⟩⟩ x).b.size ≤ 140737488355328) := Lib.hid (by
    unfold St.view
    split
    · exact HN.out
    · exact HC.out)
  have HVW := Lib.hid (fun W => sview_any ⟨⟨t, b⟩, y, ⟨t2, b2⟩⟩ x W)
  have HV0 : Hid (St.changed ⟨⟨t, b⟩, y, ⟨t2, b2⟩⟩ ⟨sq, K, mk, x, mv, off, num⟩ = ⟨⟨t, b⟩, x, chg (St.view ⟨⟨t, b⟩, y, ⟨t2, b2⟩⟩ x) ⟨sq, K, mk, x, mv, off, num⟩⟩) := Lib.hid (by unfold St.changed; rw [if_neg hx, if_pos hy])
  obtain ⟨⟨t4, b4⟩, hvw⟩ : ∃ u, St.view ⟨⟨t, b⟩, y, ⟨t2, b2⟩⟩ x = u := ⟨_, rfl⟩
  rw [hvw] at HVB HVW HV0
  obtain ⟨⟨t3, b3⟩, hu⟩ : ∃ u, chg ⟨t4, b4⟩ ⟨sq, K, mk, x, mv, off, num⟩ = u := ⟨_, rfl⟩
  have HCC := Lib.hid (fun W => HCH.out ⟨t4, b4⟩ W HVB.out)
  rw [hu] at HCC HV0
  have hy2 : (y == 0) = true ∨ (y == 0) = false ∧ (y == x) = true := by
    by_cases h : y = 0
    · exact .inl (by simpa using h)
    · exact .inr ⟨by simpa using h, by simpa using hy.resolve_left h⟩
  clear hvw hu hx hy HCH HCO
  go_upto_region 4 with fail
  generalize World.alloc _ (.cells #[.bool false, .string ⟨#[]⟩, .int .u64 0, .bool false, .string ⟨#[]⟩] 45) = W1 at *
  go_cut [19] (fun v wx => v = .bool true ∧ CgCut w w.heap.size ⟨⟨t, b⟩, y, ⟨t2, b2⟩⟩ ⟨sq, K, mk, x, mv, off, num⟩ wx)
  case first =>
    obtain ⟨⟨z0, z1, z2, z3, z4⟩, f0, f1, f2, f3, f4⟩ := blk5 HS.out.s
    obtain ⟨y0, y1, y2, y3, y4, y5, y6⟩ := blk7 HS.out.m
    rcases hy2 with hy0 | ⟨hy0, hyx⟩
    all_goals
      go_wp2_with fail
      go_meet
      exact ⟨rfl, HS.out⟩
  case rest =>
    clear HS hy2
    obtain ⟨rfl, hS⟩ := hcut
    have HS : Hid (CgAt w _ w.heap.size ⟨⟨t, b⟩, y, ⟨t2, b2⟩⟩ ⟨sq, K, mk, x, mv, off, num⟩) := Lib.hid hS
    clear hS
    go_upto_region 5 with fail
    go_cut [36] (fun _ wx => CgCut w w.heap.size ⟨⟨t, b⟩, y, ⟨t3, b3⟩⟩ ⟨sq, K, mk, x, mv, off, num⟩ wx)
    case first =>
      have HSd := Lib.hid (HS.out.keep ((Only.refl _ _).drew))
      obtain ⟨⟨z0, z1, z2, z3, z4⟩, f0, f1, f2, f3, f4⟩ := blk5 HS.out.s
      obtain ⟨y0, y1, y2, y3, y4, y5, y6⟩ := blk7 HS.out.m
      have hcf := fun args W => HCF.out args W
      go_region_law (first
        | (go_simp; go_at_call 17; (with_reducible refine (HVW.out _).mono ?_); rintro e w2 ⟨rfl, ha⟩; have HS2 := Lib.hid (HSd.out.keep (below_quiet ha)); obtain ⟨⟨v0, v1, v2, v3, v4⟩, _⟩ := blk5 HS2.out.s; obtain ⟨u0, u1, u2, u3, u4, u5, u6⟩ := blk7 HS2.out.m; clear ha)
        | (go_simp; (with_reducible refine (HCC.out _).mono ?_); rintro e w3 ⟨rfl, ha⟩; have HS3 := Lib.hid (HS2.out.keep (below_quiet ha)); obtain ⟨⟨v0, v1, v2, v3, v4⟩, l0, l1, l2, l3, l4⟩ := blk5 HS3.out.s; obtain ⟨u0, u1, u2, u3, u4, u5, u6⟩ := blk7 HS3.out.m; clear ha))
      all_goals
        have HE : Hid (CgCut w w.heap.size ⟨⟨t, b⟩, y, ⟨t3, b3⟩⟩ ⟨sq, K, mk, x, mv, off, num⟩ ((w3.setCell ⟨w.heap.size, 3, none⟩ (.bool t3)).setCell ⟨w.heap.size, 4, none⟩ (.string b3))) := Lib.hid (HS3.out.setm ⟨t3, b3⟩)
        clear v0 v1 v2 v3 v4 u0 u1 u2 u3 u4 u5 u6 l0 l1 l2 l3 l4 z0 z1 z2 z3 z4 f0 f1 f2 f3 f4 y0 y1 y2 y3 y4 y5 y6
        go_wp2_with fail
        go_meet
        exact HE.out
    case rest =>
      clear HS HVW HCC HCF
      have HS : Hid (CgAt w _ w.heap.size ⟨⟨t, b⟩, y, ⟨t3, b3⟩⟩ ⟨sq, K, mk, x, mv, off, num⟩) := Lib.hid hcut
      have HSX := Lib.hid (HS.out.setx x)
      clear hcut
      obtain ⟨⟨z0, z1, z2, z3, z4⟩, f0, f1, f2, f3, f4⟩ := blk5 HS.out.s
      obtain ⟨y0, y1, y2, y3, y4, y5, y6⟩ := blk7 HS.out.m
      go_upto_region 7 with fail
      clear z0 z1 z2 z3 z4 f0 f1 f2 f3 f4 y0 y1 y2 y3 y4 y5 y6
      generalize World.setCell _ _ _ = w3 at *
      obtain ⟨⟨z0, z1, z2, z3, z4⟩, f0, f1, f2, f3, f4⟩ := blk5 HSX.out.s
      obtain ⟨⟨r0, r1, r2, r3, r4⟩, g0, g1, g2, g3, g4⟩ := blk5 HSX.out.r
      go_wp2_with fail
      refine bodyPost_ret (v := stv ⟨⟨t, b⟩, x, ⟨t3, b3⟩⟩) (by simp [results, Try.results25, go_sem, r0, r1, r2, r3, r4]) rfl ?_
      exact ⟨by rw [HV0.out], HSX.out.done _ _ _ _ _⟩

end Go.Proofs.Ytlmpknhekoeecaa
