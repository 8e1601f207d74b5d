/-
  Package msg: an Apply; sizes; entries and messages in blocks.
-/
import Derived.Test.YtlmpknhekoeecaaMsg9
namespace Go.Proofs.Ytlmpknhekoeecaa
open Go Go.RowKit
set_option linter.unusedVariables false
set_option linter.unusedSimpArgs false
set_option maxRecDepth 100000

/-! ### Texts stay as long as they were, or short -/
theorem grow_size {v : Mv} {m : Ms} (h : v.b.size ≤ 140737488355328) : (v.grow m).b.size ≤ 140737488355328 := by
  unfold Mv.grow
  split
  · exact h
  · split
    · exact h
    · split
      · exact h
      · rw [mk_size]
        have := ba_len v.b
        have := ba_len m.v
        simp only [growL, List.length_cons, List.length_append, List.length_drop]
        omega
theorem chg_size {v : Mv} {m : Ms} (h : v.b.size ≤ 140737488355328) (hm : MsOk m) (h3 : m.K = 3 → 0 ≤ m.off) : (chg v m).b.size ≤ 140737488355328 := by
  unfold chg
  split
  · exact hm.v
  · split
    · exact Nat.zero_le _
    · split
      · rename_i k3
        rw [mv_add_size (h3 k3)]
        exact h
      · exact grow_size h
structure StOk (s : St) : Prop where
  c : s.c.b.size ≤ 140737488355328
  m : s.m.b.size ≤ 140737488355328
theorem sview_size {s : St} (h : StOk s) (x : Int) : (s.view x).b.size ≤ 140737488355328 := by
  unfold St.view
  split
  · exact h.m
  · exact h.c
theorem changed_size {s : St} {m : Ms} (h : StOk s) (hm : MsOk m) (h3 : m.K = 3 → 0 ≤ m.off) : StOk (s.changed m) := by
  unfold St.changed
  split
  · exact ⟨chg_size h.c hm h3, h.m⟩
  · split
    · exact ⟨h.c, chg_size (sview_size h _) hm h3⟩
    · exact h
theorem after_size {s : St} {m : Ms} (h : StOk s) (hm : MsOk m) : StOk (s.after m) := by
  have he : ∀ v : Mv, v.b.size ≤ 140737488355328 → StOk (s.ended m.x v) := fun v hv => by
    unfold St.ended
    split
    · exact h
    · exact ⟨hv, Nat.zero_le _⟩
  unfold St.after
  split
  · split
    · exact h
    · rename_i ho
      exact changed_size h hm (fun _ => by omega)
  · rename_i k3
    split
    · exact changed_size h hm (fun e => absurd e k3)
    · split
      · rename_i k4
        exact ⟨by rw [St.grown, chg4 k4]; exact grow_size h.c, by rw [St.grown, chg4 k4, chg4 k4]; exact grow_size h.m⟩
      · split
        · exact he _ h.m
        · split
          · exact he _ h.c
          · exact h
theorem st_size {e : En} (h : EnOk e) : StOk e.st := by
  refine ⟨Nat.le_trans valOf_size h.v, ?_⟩
  show (if e.x ≠ 0 then valOf e.n e.nv else Mv.no).b.size ≤ _
  split
  · exact Nat.le_trans valOf_size h.n
  · exact Nat.zero_le _
theorem apply_size {e : En} {m : Ms} (h : EnOk e) (hm : MsOk m) : EnOk (applyE e m) :=
  ⟨h.k, (after_size (st_size h) hm).c, (after_size (st_size h) hm).m⟩

/-- Where step and Apply stand: the entry's block, the message's, the answer's. -/
structure EmAt (w W : World) (p : Nat) (e : En) (m : Ms) : Prop where
  e : W.heap[p]? = some (.cells #[.string e.k, .bool e.h, .string e.v, .int .u64 e.x, .bool e.n, .string e.nv] 26 (0, 0))
  m : W.heap[p + 1]? = some (.cells #[.int .u64 m.sq, .int .i64 m.K, .string m.k, .int .u64 m.x, .string m.v, .int .i64 m.off, .int .u64 m.num] 28 (0, 0))
  r : W.heap[p + 1 + 1]? = some (.cells #[.string ⟨#[]⟩, .bool false, .string ⟨#[]⟩, .int .u64 0, .bool false, .string ⟨#[]⟩] 26 (0, 0))
  only : Only (fun _ => False) w W
  ge : w.heap.size ≤ p
section
variable {w W W' : World} {p : Nat} {e : En} {m : Ms}
theorem EmAt.keep (H : EmAt w W p e m) (ho : Only (fun _ => False) W W') : EmAt w W' p e m :=
  ⟨qkeep ho H.e, qkeep ho H.m, qkeep ho H.r, H.only.trans ho (fun _ _ h => h), H.ge⟩
theorem EmAt.start (w : World) (e : En) (m : Ms) : EmAt w (((w.alloc (.cells #[.string e.k, .bool e.h, .string e.v, .int .u64 e.x, .bool e.n, .string e.nv] 26)).alloc (.cells #[.int .u64 m.sq, .int .i64 m.K, .string m.k, .int .u64 m.x, .string m.v, .int .i64 m.off, .int .u64 m.num] 28)).alloc (.cells #[.string ⟨#[]⟩, .bool false, .string ⟨#[]⟩, .int .u64 0, .bool false, .string ⟨#[]⟩] 26)) w.heap.size e m := by
  refine ⟨alloc_keep (alloc_keep (heap_alloc_new w _)), ?_, ?_, (((Only.refl _ w).alloc _).alloc _).alloc _, Nat.le_refl _⟩
  · have := heap_alloc_new (w.alloc (.cells #[.string e.k, .bool e.h, .string e.v, .int .u64 e.x, .bool e.n, .string e.nv] 26)) (.cells #[.int .u64 m.sq, .int .i64 m.K, .string m.k, .int .u64 m.x, .string m.v, .int .i64 m.off, .int .u64 m.num] 28)
    rw [World.size_alloc] at this
    exact alloc_keep this
  · have := heap_alloc_new ((w.alloc (.cells #[.string e.k, .bool e.h, .string e.v, .int .u64 e.x, .bool e.n, .string e.nv] 26)).alloc (.cells #[.int .u64 m.sq, .int .i64 m.K, .string m.k, .int .u64 m.x, .string m.v, .int .i64 m.off, .int .u64 m.num] 28)) (.cells #[.string ⟨#[]⟩, .bool false, .string ⟨#[]⟩, .int .u64 0, .bool false, .string ⟨#[]⟩] 26)
    rwa [World.size_alloc, World.size_alloc] at this
/-- The cells that step loads. -/
theorem EmAt.cells (H : EmAt w W p e m) :
    W.cell? ⟨p, 0, none⟩ = some (.string e.k) ∧ W.cell? ⟨p, 1, none⟩ = some (.bool e.h) ∧ W.cell? ⟨p, 2, none⟩ = some (.string e.v) ∧ W.cell? ⟨p, 3, none⟩ = some (.int .u64 e.x) ∧ W.cell? ⟨p, 4, none⟩ = some (.bool e.n) ∧ W.cell? ⟨p, 5, none⟩ = some (.string e.nv) ∧
    W.cell? ⟨p + 1, 0, none⟩ = some (.int .u64 m.sq) ∧ W.cell? ⟨p + 1, 1, none⟩ = some (.int .i64 m.K) ∧ W.cell? ⟨p + 1, 2, none⟩ = some (.string m.k) ∧ W.cell? ⟨p + 1, 3, none⟩ = some (.int .u64 m.x) ∧ W.cell? ⟨p + 1, 4, none⟩ = some (.string m.v) ∧ W.cell? ⟨p + 1, 5, none⟩ = some (.int .i64 m.off) ∧ W.cell? ⟨p + 1, 6, none⟩ = some (.int .u64 m.num) := by
  obtain ⟨⟨a0, a1, a2, a3, a4, a5⟩, _⟩ := blk6 H.e
  obtain ⟨b0, b1, b2, b3, b4, b5, b6⟩ := blk7 H.m
  exact ⟨a0, a1, a2, a3, a4, a5, b0, b1, b2, b3, b4, b5, b6⟩
theorem EmAt.put (H : EmAt w W p e m) (u : En) :
    ((((((W.setCell ⟨p + 1 + 1, 0, none⟩ (.string u.k)).setCell ⟨p + 1 + 1, 1, none⟩ (.bool u.h)).setCell ⟨p + 1 + 1, 2, none⟩ (.string u.v)).setCell ⟨p + 1 + 1, 3, none⟩ (.int .u64 u.x)).setCell ⟨p + 1 + 1, 4, none⟩ (.bool u.n)).setCell ⟨p + 1 + 1, 5, none⟩ (.string u.nv)).heap[p]? = some (.cells #[.string e.k, .bool e.h, .string e.v, .int .u64 e.x, .bool e.n, .string e.nv] 26 (0, 0)) ∧
    ((((((W.setCell ⟨p + 1 + 1, 0, none⟩ (.string u.k)).setCell ⟨p + 1 + 1, 1, none⟩ (.bool u.h)).setCell ⟨p + 1 + 1, 2, none⟩ (.string u.v)).setCell ⟨p + 1 + 1, 3, none⟩ (.int .u64 u.x)).setCell ⟨p + 1 + 1, 4, none⟩ (.bool u.n)).setCell ⟨p + 1 + 1, 5, none⟩ (.string u.nv)).heap[p + 1]? = some (.cells #[.int .u64 m.sq, .int .i64 m.K, .string m.k, .int .u64 m.x, .string m.v, .int .i64 m.off, .int .u64 m.num] 28 (0, 0)) ∧
    Below w.heap.size w ((((((W.setCell ⟨p + 1 + 1, 0, none⟩ (.string u.k)).setCell ⟨p + 1 + 1, 1, none⟩ (.bool u.h)).setCell ⟨p + 1 + 1, 2, none⟩ (.string u.v)).setCell ⟨p + 1 + 1, 3, none⟩ (.int .u64 u.x)).setCell ⟨p + 1 + 1, 4, none⟩ (.bool u.n)).setCell ⟨p + 1 + 1, 5, none⟩ (.string u.nv)) := by
  have hg := H.ge
  refine ⟨?_, ?_, ?_⟩
  · exact set_keep (by omega) (set_keep (by omega) (set_keep (by omega) (set_keep (by omega) (set_keep (by omega) (set_keep (by omega) H.e)))))
  · exact set_keep (by omega) (set_keep (by omega) (set_keep (by omega) (set_keep (by omega) (set_keep (by omega) (set_keep (by omega) H.m)))))
  · exact only_b (only_set (only_set (only_set (only_set (only_set (only_set H.only (by omega) _ _) (by omega) _ _) (by omega) _ _) (by omega) _ _) (by omega) _ _) (by omega) _ _)
theorem em_cells (he : W.heap[p]? = some (.cells #[.string e.k, .bool e.h, .string e.v, .int .u64 e.x, .bool e.n, .string e.nv] 26 (0, 0)))
    (hm : W.heap[p + 1]? = some (.cells #[.int .u64 m.sq, .int .i64 m.K, .string m.k, .int .u64 m.x, .string m.v, .int .i64 m.off, .int .u64 m.num] 28 (0, 0))) :
    W.cell? ⟨p, 0, none⟩ = some (.string e.k) ∧ W.cell? ⟨p, 1, none⟩ = some (.bool e.h) ∧ W.cell? ⟨p, 2, none⟩ = some (.string e.v) ∧ W.cell? ⟨p, 3, none⟩ = some (.int .u64 e.x) ∧ W.cell? ⟨p, 4, none⟩ = some (.bool e.n) ∧ W.cell? ⟨p, 5, none⟩ = some (.string e.nv) ∧
    W.cell? ⟨p + 1, 0, none⟩ = some (.int .u64 m.sq) ∧ W.cell? ⟨p + 1, 1, none⟩ = some (.int .i64 m.K) ∧ W.cell? ⟨p + 1, 2, none⟩ = some (.string m.k) ∧ W.cell? ⟨p + 1, 3, none⟩ = some (.int .u64 m.x) ∧ W.cell? ⟨p + 1, 4, none⟩ = some (.string m.v) ∧ W.cell? ⟨p + 1, 5, none⟩ = some (.int .i64 m.off) ∧ W.cell? ⟨p + 1, 6, none⟩ = some (.int .u64 m.num) := by
  obtain ⟨⟨a0, a1, a2, a3, a4, a5⟩, _⟩ := blk6 he
  obtain ⟨b0, b1, b2, b3, b4, b5, b6⟩ := blk7 hm
  exact ⟨a0, a1, a2, a3, a4, a5, b0, b1, b2, b3, b4, b5, b6⟩
end

set_option maxHeartbeats 4000000 in
theorem step_any (e : En) (m : Ms) (w : World) (he : EnOk e) (hm : MsOk m) : Calls Try.prog 15 #[env e, msv m] w fun r w' => r = .returned (env (applyE e m)) ∧ Below w.heap.size w w' := by
  have HSO := Lib.hid (fun W => stateof_any e W)
  have HAF := Lib.hid (fun W => safter_any e.st m W hm (st_size he).c (st_size he).m)
  have HEN := Lib.hid (fun W => sentry_any (e.st.after m) e.k W)
  have HS := Lib.hid (EmAt.start w e m)
  clear he hm
  rw [show (e.st.after m).en e.k = applyE e m from rfl] at HEN
  obtain ⟨⟨k1, h1, v1, x1, n1, nv1⟩, hu⟩ : ∃ u, applyE e m = u := ⟨_, rfl⟩
  rw [hu] at HEN ⊢
  clear hu
  obtain ⟨s1, hs1⟩ : ∃ s, e.st.after m = s := ⟨_, rfl⟩
  rw [hs1] at HEN HAF
  obtain ⟨s0, hs0⟩ : ∃ s, e.st = s := ⟨_, rfl⟩
  rw [hs0] at HSO HAF
  clear hs0 hs1
  obtain ⟨⟨t, b⟩, y, ⟨t2, b2⟩⟩ := s0
  obtain ⟨⟨t3, b3⟩, y3, ⟨t4, b4⟩⟩ := s1
  obtain ⟨k, h, v, x0, n, nv⟩ := e
  obtain ⟨sq, K, mk, x, mv, off, num⟩ := m
  go_enter Try.func15, Try.ntmps15
  go_upto_region 1 with fail
  generalize World.alloc _ (.cells #[.string ⟨#[]⟩, .bool false, .string ⟨#[]⟩, .int .u64 0, .bool false, .string ⟨#[]⟩] 26) = W1 at *
  have HSd := Lib.hid (HS.out.keep ((Only.refl _ _).drew))
  obtain ⟨⟨r0, r1, r2, r3, r4, r5⟩, f0, f1, f2, f3, f4, f5⟩ := blk6 HS.out.r
  go_region_held3 (fun w' => w'.cell? ⟨w.heap.size, 0, none⟩ = some (.string k) ∧ w'.cell? ⟨w.heap.size, 1, none⟩ = some (.bool h) ∧ w'.cell? ⟨w.heap.size, 2, none⟩ = some (.string v) ∧ w'.cell? ⟨w.heap.size, 3, none⟩ = some (.int .u64 x0) ∧ w'.cell? ⟨w.heap.size, 4, none⟩ = some (.bool n) ∧ w'.cell? ⟨w.heap.size, 5, none⟩ = some (.string nv) ∧
      w'.cell? ⟨w.heap.size + 1, 0, none⟩ = some (.int .u64 sq) ∧ w'.cell? ⟨w.heap.size + 1, 1, none⟩ = some (.int .i64 K) ∧ w'.cell? ⟨w.heap.size + 1, 2, none⟩ = some (.string mk) ∧ w'.cell? ⟨w.heap.size + 1, 3, none⟩ = some (.int .u64 x) ∧ w'.cell? ⟨w.heap.size + 1, 4, none⟩ = some (.string mv) ∧ w'.cell? ⟨w.heap.size + 1, 5, none⟩ = some (.int .i64 off) ∧ w'.cell? ⟨w.heap.size + 1, 6, none⟩ = some (.int .u64 num))
    (first
      | (with_reducible exact em_cells (HS4.out.put ⟨k1, h1, v1, x1, n1, nv1⟩).1 (HS4.out.put ⟨k1, h1, v1, x1, n1, nv1⟩).2.1)
      | (with_reducible exact HS4.out.cells)
      | (with_reducible exact HS3.out.cells)
      | (with_reducible exact HS2.out.cells)
      | (with_reducible exact HSd.out.cells))
    (first
      | (go_at_call 16; (with_reducible refine (HSO.out _).mono ?_); rintro e w2 ⟨rfl, ha⟩; (with_reducible have HS2 := Lib.hid (HSd.out.keep (below_quiet ha))); clear ha)
      | (go_at_call 20; (with_reducible refine (HAF.out _).mono ?_); rintro e w3 ⟨rfl, ha⟩; (with_reducible have HS3 := Lib.hid (HS2.out.keep (below_quiet ha))); clear ha)
      | (go_at_call 21; (with_reducible refine (HEN.out _).mono ?_); rintro e w4 ⟨rfl, ha⟩; (with_reducible have HS4 := Lib.hid (HS3.out.keep (below_quiet ha))); obtain ⟨⟨q0, q1, q2, q3, q4, q5⟩, l0, l1, l2, l3, l4, l5⟩ := blk6 HS4.out.r; clear ha))
  all_goals
    go_wp2_with fail
    refine bodyPost_ret (v := env ⟨k1, h1, v1, x1, n1, nv1⟩) (by simp [results, Try.results15, go_sem, q0, q1, q2, q3, q4, q5]) rfl ?_
    exact ⟨rfl, (HS4.out.put ⟨k1, h1, v1, x1, n1, nv1⟩).2.2⟩

set_option maxHeartbeats 4000000 in
theorem apply_any (e : En) (m : Ms) (w : World) (he : EnOk e) (hm : MsOk m) : Calls Try.prog 9 #[env e, msv m] w fun r w' => r = .returned (env (applyE e m)) ∧ Below w.heap.size w w' := by
  have HSO := Lib.hid (fun W => step_any e m W he hm)
  have HAF := Lib.hid (fun W => fresh_any (applyE e m) W (apply_size he hm))
  have HS := Lib.hid (EmAt.start w e m)
  clear he hm
  obtain ⟨⟨k1, h1, v1, x1, n1, nv1⟩, hu⟩ : ∃ u, applyE e m = u := ⟨_, rfl⟩
  rw [hu] at HSO HAF ⊢
  clear hu
  obtain ⟨k, h, v, x0, n, nv⟩ := e
  obtain ⟨sq, K, mk, x, mv, off, num⟩ := m
  go_enter Try.func9, Try.ntmps9
  go_wp2_with fail
  refine (HSO.out _).mono ?_
  rintro r w1 ⟨rfl, ha⟩
  have HS1 := Lib.hid (HS.out.keep (below_quiet ha))
  clear ha HS
  go_wp2_with fail
  refine (HAF.out _).mono ?_
  rintro r w2 ⟨rfl, ha⟩
  have HS2 := Lib.hid (HS1.out.keep (below_quiet ha))
  clear ha HS1
  obtain ⟨⟨q0, q1, q2, q3, q4, q5⟩, l0, l1, l2, l3, l4, l5⟩ := blk6 HS2.out.r
  go_wp2_with fail
  refine bodyPost_ret (v := env ⟨k1, h1, v1, x1, n1, nv1⟩) (by simp [results, Try.results9, go_sem, q0, q1, q2, q3, q4, q5]) rfl ?_
  exact ⟨rfl, (HS2.out.put ⟨k1, h1, v1, x1, n1, nv1⟩).2.2⟩

end Go.Proofs.Ytlmpknhekoeecaa
