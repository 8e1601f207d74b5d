/-
  Package msg: what an entry says.
-/
import Derived.Test.YtlmpknhekoeecaaMsg1
namespace Go.Proofs.Ytlmpknhekoeecaa
open Go Go.RowKit
set_option linter.unusedVariables false
set_option linter.unusedSimpArgs false
set_option maxRecDepth 100000

/-- Where stateOf stands: the entry's block, the answer's. -/
structure S2At (w W : World) (p : Nat) (e : En) : Prop where
  e : W.heap[p]? = some (.cells #[.string e.k, .bool e.h, .string e.v, .int .u64 e.x, .bool e.n, .string e.nv] 26 (0, 0))
  r : W.heap[p + 1]? = some (.cells #[.bool false, .string ⟨#[]⟩, .int .u64 0, .bool false, .string ⟨#[]⟩] 45 (0, 0))
  only : Only (fun _ => False) w W
  ge : w.heap.size ≤ p
/-- With the state's block. -/
structure SoAt (w W : World) (p q : Nat) (e : En) (s : St) : Prop where
  a : S2At w W p e
  t : W.heap[q]? = some (.cells #[.bool s.c.t, .string s.c.b, .int .u64 s.x, .bool s.m.t, .string s.m.b] 45 (0, 0))
  q0 : q ≠ p
  q1 : q ≠ p + 1
  qg : w.heap.size ≤ q
section
variable {w W W' : World} {p q : Nat} {e : En} {s : St}
theorem S2At.keep (H : S2At w W p e) (ho : Only (fun _ => False) W W') : S2At w W' p e :=
  ⟨qkeep ho H.e, qkeep ho H.r, H.only.trans ho (fun _ _ h => h), H.ge⟩
theorem SoAt.keep (H : SoAt w W p q e s) (ho : Only (fun _ => False) W W') : SoAt w W' p q e s :=
  ⟨H.a.keep ho, qkeep ho H.t, H.q0, H.q1, H.qg⟩
theorem S2At.cells (H : S2At w W p e) : W.cell? ⟨p, 1, none⟩ = some (.bool e.h) ∧ W.cell? ⟨p, 2, none⟩ = some (.string e.v) ∧ W.cell? ⟨p, 3, none⟩ = some (.int .u64 e.x) := ⟨(blk6 H.e).1.2.1, (blk6 H.e).1.2.2.1, (blk6 H.e).1.2.2.2.1⟩
theorem S2At.start (w : World) (e : En) : S2At w ((w.alloc (.cells #[.string e.k, .bool e.h, .string e.v, .int .u64 e.x, .bool e.n, .string e.nv] 26)).alloc (.cells #[.bool false, .string ⟨#[]⟩, .int .u64 0, .bool false, .string ⟨#[]⟩] 45)) w.heap.size e := by
  refine ⟨alloc_keep (heap_alloc_new w _), ?_, ((Only.refl _ w).alloc _).alloc _, Nat.le_refl _⟩
  have := heap_alloc_new (w.alloc (.cells #[.string e.k, .bool e.h, .string e.v, .int .u64 e.x, .bool e.n, .string e.nv] 26)) (.cells #[.bool false, .string ⟨#[]⟩, .int .u64 0, .bool false, .string ⟨#[]⟩] 45)
  rwa [World.size_alloc] at this
theorem S2At.alloc (H : S2At w W p e) (s : St) : SoAt w (W.alloc (.cells #[.bool s.c.t, .string s.c.b, .int .u64 s.x, .bool s.m.t, .string s.m.b] 45)) p W.heap.size e s :=
  ⟨H.keep ((Only.refl _ _).alloc _), heap_alloc_new _ _, by have := lt_of_some H.e; omega, by have := lt_of_some H.r; omega, H.only.size⟩
theorem SoAt.set (H : SoAt w W p q e s) (u : St) :
    SoAt w (((((W.setCell ⟨q, 0, none⟩ (.bool u.c.t)).setCell ⟨q, 1, none⟩ (.string u.c.b)).setCell ⟨q, 2, none⟩ (.int .u64 u.x)).setCell ⟨q, 3, none⟩ (.bool u.m.t)).setCell ⟨q, 4, none⟩ (.string u.m.b)) p q e u := by
  have h0 := H.q0; have h1 := H.q1; have hg := H.qg
  refine ⟨⟨?_, ?_, ?_, H.a.ge⟩, set5 H.t _ _ _ _ _, H.q0, H.q1, H.qg⟩
  · exact set_keep h0.symm (set_keep h0.symm (set_keep h0.symm (set_keep h0.symm (set_keep h0.symm H.a.e))))
  · exact set_keep h1.symm (set_keep h1.symm (set_keep h1.symm (set_keep h1.symm (set_keep h1.symm H.a.r))))
  · exact only_set (only_set (only_set (only_set (only_set H.a.only hg _ _) hg _ _) hg _ _) hg _ _) hg _ _
theorem SoAt.setm (H : SoAt w W p q e s) (u : Mv) : SoAt w ((W.setCell ⟨q, 3, none⟩ (.bool u.t)).setCell ⟨q, 4, none⟩ (.string u.b)) p q e ⟨s.c, s.x, u⟩ := by
  have h0 := H.q0; have h1 := H.q1; have hg := H.qg
  refine ⟨⟨set_keep h0.symm (set_keep h0.symm H.a.e), set_keep h1.symm (set_keep h1.symm H.a.r), only_set (only_set H.a.only hg _ _) hg _ _, H.a.ge⟩, ?_, H.q0, H.q1, H.qg⟩
  have := heap_set (heap_set H.t 3 (.bool u.t)) 4 (.string u.b)
  simpa using this
theorem S2At.done (H : S2At w W p e) (u0 u1 u2 u3 u4 : Value) :
    Below w.heap.size w (((((W.setCell ⟨p + 1, 0, none⟩ u0).setCell ⟨p + 1, 1, none⟩ u1).setCell ⟨p + 1, 2, none⟩ u2).setCell ⟨p + 1, 3, none⟩ u3).setCell ⟨p + 1, 4, none⟩ u4) := by
  have hg := H.ge
  exact only_b (only_set (only_set (only_set (only_set (only_set H.only (by omega) _ _) (by omega) _ _) (by omega) _ _) (by omega) _ _) (by omega) _ _)
end
def SoCut (w : World) (p : Nat) (e : En) (s : St) (v : Value) (wx : World) : Prop := ∃ q, v = .pointer (some ⟨q, 0, none⟩) ∧ SoAt w wx p q e s

set_option maxHeartbeats 1000000 in
theorem stateof_any (e : En) (w : World) : Calls Try.prog 16 #[env e] w fun r w' => r = .returned (stv e.st) ∧ Below w.heap.size w w' := by
  obtain ⟨k, h, v, x, n, nv⟩ := e
  obtain ⟨⟨t, b⟩, hy⟩ : ∃ y, valOf h v = y := ⟨_, rfl⟩
  have HC := Lib.hid (fun W => valof_any h v W)
  rw [hy] at HC
  have HY := Lib.hid hy
  clear hy
  have HS := Lib.hid (S2At.start w ⟨k, h, v, x, n, nv⟩)
  have HSd := Lib.hid (HS.out.keep ((Only.refl _ _).drew))
  have HSa := Lib.hid (HS.out.alloc ⟨Mv.no, 0, Mv.no⟩)
  have HSad := Lib.hid (HSa.out.keep ((Only.refl _ _).drew))
  rw [World.size_alloc, World.size_alloc] at HSad
  have hcel := (blk6 HS.out.e).1
  go_enter Try.func16, Try.ntmps16
  go_upto_region 1 with fail
  go_cut [3] (fun v3 wx => SoCut w w.heap.size ⟨k, h, v, x, n, nv⟩ ⟨⟨t, b⟩, x, Mv.no⟩ v3 wx)
  case first =>
    go_region_held3 (fun w' => w'.cell? ⟨w.heap.size, 1, none⟩ = some (.bool h) ∧ w'.cell? ⟨w.heap.size, 2, none⟩ = some (.string v) ∧ w'.cell? ⟨w.heap.size, 3, none⟩ = some (.int .u64 x))
      (first
        | (with_reducible exact HS1.out.cells)
        | (with_reducible exact (HS1.out.keep ((Only.refl _ _).alloc _)).cells)
        | (with_reducible exact HS2.out.a.cells)
        | (with_reducible exact (HS2.out.set ⟨⟨t, b⟩, x, Mv.no⟩).a.cells)
        | (with_reducible exact HSad.out.a.cells)
        | (with_reducible exact HSd.out.cells))
      (first
        | (go_at_call 22; (with_reducible refine (HC.out _).mono ?_); rintro e w1 ⟨rfl, ha⟩; (with_reducible have HS1 := Lib.hid (HSd.out.keep (below_quiet ha))); have hz1 := lt_of_some HS1.out.e; have hz2 : w.heap.size + 1 < w1.heap.size := lt_of_some HS1.out.r; clear ha)
        | (go_at_call 22; (with_reducible refine (HC.out _).mono ?_); rintro e w1 ⟨rfl, ha⟩; (with_reducible have HS2 := Lib.hid (HSad.out.keep (below_quiet ha))); obtain ⟨⟨z0, z1, z2, z3, z4⟩, f0, f1, f2, f3, f4⟩ := blk5 HS2.out.t; clear ha))
    · have HE : Hid (SoCut w w.heap.size ⟨k, h, v, x, n, nv⟩ ⟨⟨t, b⟩, x, Mv.no⟩ (.pointer (some ⟨w1.heap.size, 0, none⟩)) (w1.alloc (.cells #[.bool t, .string b, .int .u64 x, .bool false, .string ⟨#[]⟩] 45))) := Lib.hid ⟨_, rfl, HS1.out.alloc ⟨⟨t, b⟩, x, Mv.no⟩⟩
      go_wp2_with fail
      go_meet
      exact HE.out
    · have HE : Hid (SoCut w w.heap.size ⟨k, h, v, x, n, nv⟩ ⟨⟨t, b⟩, x, Mv.no⟩ (.pointer (some ⟨w.heap.size + 1 + 1, 0, none⟩)) _) := Lib.hid ⟨_, rfl, HS2.out.set ⟨⟨t, b⟩, x, Mv.no⟩⟩
      go_wp2_with fail
      go_meet
      exact HE.out
  case rest =>
    obtain ⟨q, rfl, hq⟩ := hcut
    have HQ := Lib.hid hq
    clear hq HS HSd HSa HSad hcel HC
    have hc := (blk6 HQ.out.a.e).1
    obtain ⟨e0, e1, e2, e3, e4, e5⟩ := hc
    by_cases hx : x = 0
    · have HV : Hid ((⟨k, h, v, x, n, nv⟩ : En).st = ⟨⟨t, b⟩, 0, Mv.no⟩) := Lib.hid (by unfold En.st; simp only; rw [HY.out, if_neg (fun e => e hx), hx])
      subst hx
      obtain ⟨⟨z0, z1, z2, z3, z4⟩, _⟩ := blk5 HQ.out.t
      obtain ⟨⟨r0, r1, r2, r3, r4⟩, f0, f1, f2, f3, f4⟩ := blk5 HQ.out.a.r
      go_wp2_with fail
      refine bodyPost_ret (v := stv ⟨⟨t, b⟩, 0, Mv.no⟩) (by simp [results, Try.results16, go_sem, r0, r1, r2, r3, r4]) rfl ?_
      exact ⟨by rw [HV.out], HQ.out.a.done _ _ _ _ _⟩
    · obtain ⟨⟨t2, b2⟩, hy⟩ : ∃ y, valOf n nv = y := ⟨_, rfl⟩
      have HC := Lib.hid (fun W => valof_any n nv W)
      rw [hy] at HC
      have HV : Hid ((⟨k, h, v, x, n, nv⟩ : En).st = ⟨⟨t, b⟩, x, ⟨t2, b2⟩⟩) := Lib.hid (by unfold En.st; simp only; rw [HY.out, if_pos hx, hy])
      have hx0 : (x != 0) = true := by simpa using hx
      clear hx hy
      go_wp2_with fail
      refine (HC.out _).mono ?_
      rintro e w2 ⟨rfl, ha⟩
      have HQ2 := Lib.hid (HQ.out.keep (below_quiet ha))
      have HQ3 := Lib.hid (HQ2.out.setm ⟨t2, b2⟩)
      clear ha HQ HC e0 e1 e2 e3 e4 e5
      obtain ⟨⟨z0, z1, z2, z3, z4⟩, g0, g1, g2, g3, g4⟩ := blk5 HQ2.out.t
      go_upto_region 4 with fail
      clear z0 z1 z2 z3 z4 g0 g1 g2 g3 g4
      generalize World.setCell (World.setCell w2 _ _) _ _ = w3 at *
      obtain ⟨⟨z0, z1, z2, z3, z4⟩, g0, g1, g2, g3, g4⟩ := blk5 HQ3.out.t
      obtain ⟨⟨r0, r1, r2, r3, r4⟩, f0, f1, f2, f3, f4⟩ := blk5 HQ3.out.a.r
      go_wp2_with fail
      refine bodyPost_ret (v := stv ⟨⟨t, b⟩, x, ⟨t2, b2⟩⟩) (by simp [results, Try.results16, go_sem, r0, r1, r2, r3, r4]) rfl ?_
      exact ⟨by rw [HV.out], HQ3.out.a.done _ _ _ _ _⟩

end Go.Proofs.Ytlmpknhekoeecaa
