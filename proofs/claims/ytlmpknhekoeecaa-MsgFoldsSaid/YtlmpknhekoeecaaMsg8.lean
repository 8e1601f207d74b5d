/-
  Package msg: an entry in memory of its own; whether it is gone; what is seen of it.
-/
import Derived.Test.YtlmpknhekoeecaaMsg2
namespace Go.Proofs.Ytlmpknhekoeecaa
open Go Go.RowKit
set_option linter.unusedVariables false
set_option linter.unusedSimpArgs false
set_option maxRecDepth 100000

/-- No text of an entry is longer than memory. -/
structure EnOk (e : En) : Prop where
  k : e.k.size ≤ 140737488355328
  v : e.v.size ≤ 140737488355328
  n : e.nv.size ≤ 140737488355328

/-- Where fresh stands: the entry's block, the answer's. -/
structure FrAt (w W : World) (p : Nat) (e : En) : Prop where
  e : W.heap[p]? = some (.cells #[.string e.k, .bool e.h, .string e.v, .int .u64 e.x, .bool e.n, .string e.nv] 26 (0, 0))
  r : W.heap[p + 1]? = some (.cells #[.string ⟨#[]⟩, .bool false, .string ⟨#[]⟩, .int .u64 0, .bool false, .string ⟨#[]⟩] 26 (0, 0))
  only : Only (fun _ => False) w W
  ge : w.heap.size ≤ p
section
variable {w W W' : World} {p : Nat} {e : En}
theorem FrAt.keep (H : FrAt w W p e) (ho : Only (fun _ => False) W W') : FrAt w W' p e :=
  ⟨qkeep ho H.e, qkeep ho H.r, H.only.trans ho (fun _ _ h => h), H.ge⟩
theorem FrAt.start (w : World) (e : En) : FrAt w ((w.alloc (.cells #[.string e.k, .bool e.h, .string e.v, .int .u64 e.x, .bool e.n, .string e.nv] 26)).alloc (.cells #[.string ⟨#[]⟩, .bool false, .string ⟨#[]⟩, .int .u64 0, .bool false, .string ⟨#[]⟩] 26)) w.heap.size e := by
  refine ⟨alloc_keep (heap_alloc_new w _), ?_, ((Only.refl _ w).alloc _).alloc _, Nat.le_refl _⟩
  have := heap_alloc_new (w.alloc (.cells #[.string e.k, .bool e.h, .string e.v, .int .u64 e.x, .bool e.n, .string e.nv] 26)) (.cells #[.string ⟨#[]⟩, .bool false, .string ⟨#[]⟩, .int .u64 0, .bool false, .string ⟨#[]⟩] 26)
  rwa [World.size_alloc] at this
/-- The same texts stored once more change nothing. -/
theorem FrAt.same (H : FrAt w W p e) (j : Nat) (u : Value) (hj : (#[.string e.k, .bool e.h, .string e.v, .int .u64 e.x, .bool e.n, .string e.nv] : Array Value)[j]? = some u) : FrAt w (W.setCell ⟨p, j, none⟩ u) p e := by
  have hg := H.ge
  refine ⟨?_, set_keep (by omega) H.r, only_set H.only hg _ _, H.ge⟩
  have := heap_set H.e j u
  rw [this]
  congr 2
  have hlt : j < 6 := (Array.getElem?_eq_some_iff.1 hj).1
  apply Array.ext_getElem?
  intro i
  rw [Array.getElem?_setIfInBounds]
  split
  · rename_i h
    subst h
    rw [if_pos (by simpa using hlt), hj]
  · rfl
theorem FrAt.done (H : FrAt w W p e) (u0 u1 u2 u3 u4 u5 : Value) :
    Below w.heap.size w ((((((W.setCell ⟨p + 1, 0, none⟩ u0).setCell ⟨p + 1, 1, none⟩ u1).setCell ⟨p + 1, 2, none⟩ u2).setCell ⟨p + 1, 3, none⟩ u3).setCell ⟨p + 1, 4, none⟩ u4).setCell ⟨p + 1, 5, none⟩ u5) := by
  have hg := H.ge
  exact only_b (only_set (only_set (only_set (only_set (only_set (only_set H.only (by omega) _ _) (by omega) _ _) (by omega) _ _) (by omega) _ _) (by omega) _ _) (by omega) _ _)
end
theorem FrAt.c3 {w W : World} {p : Nat} {e : En} (H : FrAt w W p e) : W.cell? ⟨p, 0, none⟩ = some (.string e.k) ∧ W.cell? ⟨p, 2, none⟩ = some (.string e.v) ∧ W.cell? ⟨p, 5, none⟩ = some (.string e.nv) := ⟨(blk6 H.e).1.1, (blk6 H.e).1.2.2.1, (blk6 H.e).1.2.2.2.2.2⟩
theorem FrAt.three {w W : World} {p : Nat} {e : En} (H : FrAt w W p e) : FrAt w (((W.setCell ⟨p, 0, none⟩ (.string e.k)).setCell ⟨p, 2, none⟩ (.string e.v)).setCell ⟨p, 5, none⟩ (.string e.nv)) p e :=
  ((H.same 0 _ rfl).same 2 _ rfl).same 5 _ rfl
def FrCut (w : World) (p : Nat) (e : En) (wx : World) : Prop := FrAt w wx p e

set_option maxHeartbeats 2000000 in
theorem fresh_any (e : En) (w : World) (he : EnOk e) : Calls Try.prog 14 #[env e] w fun r w' => r = .returned (env e) ∧ Below w.heap.size w w' := by
  have HK := Lib.hid (fun W => clone_any e.k W (by have := he.k; omega))
  have HV := Lib.hid (fun W => clone_any e.v W (by have := he.v; omega))
  have HN := Lib.hid (fun W => clone_any e.nv W (by have := he.n; omega))
  have HS := Lib.hid (FrAt.start w e)
  clear he
  obtain ⟨k, h, v, x, n, nv⟩ := e
  simp only at HK HV HN
  go_enter Try.func14, Try.ntmps14
  go_upto_region 1 with fail
  generalize World.alloc _ (.cells #[.string ⟨#[]⟩, .bool false, .string ⟨#[]⟩, .int .u64 0, .bool false, .string ⟨#[]⟩] 26) = W1 at *
  have HSd := Lib.hid (HS.out.keep ((Only.refl _ _).drew))
  obtain ⟨⟨z0, z1, z2, z3, z4, z5⟩, f0, f1, f2, f3, f4, f5⟩ := blk6 HS.out.e
  go_cut [5] (fun _ wx => FrCut w w.heap.size ⟨k, h, v, x, n, nv⟩ wx)
  case first =>
    go_region_held3 (fun w' => w'.cell? ⟨w.heap.size, 0, none⟩ = some (.string k) ∧ w'.cell? ⟨w.heap.size, 2, none⟩ = some (.string v) ∧ w'.cell? ⟨w.heap.size, 5, none⟩ = some (.string nv))
      (first
        | (with_reducible exact FrAt.c3 HS3.out.three)
        | (with_reducible exact FrAt.c3 ((HS3.out.same 0 _ rfl).same 2 _ rfl))
        | (with_reducible exact FrAt.c3 (HS3.out.same 0 _ rfl))
        | (with_reducible exact FrAt.c3 HS3.out)
        | (with_reducible exact FrAt.c3 HS2.out)
        | (with_reducible exact FrAt.c3 HS1.out)
        | (with_reducible exact FrAt.c3 HSd.out))
      (first
        | (go_at_call 18; (with_reducible refine (HK.out _).mono ?_); rintro e w2 ⟨rfl, ha⟩; (with_reducible have HS1 := Lib.hid (HSd.out.keep (below_quiet ha))); clear ha)
        | (go_at_call 18; (with_reducible refine (HV.out _).mono ?_); rintro e w2 ⟨rfl, ha⟩; (with_reducible have HS2 := Lib.hid (HS1.out.keep (below_quiet ha))); clear ha)
        | (go_at_call 18; (with_reducible refine (HN.out _).mono ?_); rintro e w3 ⟨rfl, ha⟩; (with_reducible have HS3 := Lib.hid (HS2.out.keep (below_quiet ha))); obtain ⟨⟨v0, v1, v2, v3, v4, v5⟩, l0, l1, l2, l3, l4, l5⟩ := blk6 HS3.out.e; clear ha))
    have HE : Hid (FrCut w w.heap.size ⟨k, h, v, x, n, nv⟩ (((w3.setCell ⟨w.heap.size, 0, none⟩ (.string k)).setCell ⟨w.heap.size, 2, none⟩ (.string v)).setCell ⟨w.heap.size, 5, none⟩ (.string nv))) := Lib.hid HS3.out.three
    clear v0 v1 v2 v3 v4 v5 l0 l1 l2 l3 l4 l5 z0 z1 z2 z3 z4 z5 f0 f1 f2 f3 f4 f5
    go_wp2_with fail
    go_meet
    exact HE.out
  case rest =>
    clear HS HSd z0 z1 z2 z3 z4 z5 f0 f1 f2 f3 f4 f5
    have HS : Hid (FrAt w _ w.heap.size ⟨k, h, v, x, n, nv⟩) := Lib.hid hcut
    clear hcut
    obtain ⟨⟨z0, z1, z2, z3, z4, z5⟩, f0, f1, f2, f3, f4, f5⟩ := blk6 HS.out.e
    obtain ⟨⟨r0, r1, r2, r3, r4, r5⟩, g0, g1, g2, g3, g4, g5⟩ := blk6 HS.out.r
    go_wp2_with fail
    refine bodyPost_ret (v := env ⟨k, h, v, x, n, nv⟩) (by simp [results, Try.results14, go_sem, r0, r1, r2, r3, r4, r5]) rfl ?_
    exact ⟨rfl, HS.out.done _ _ _ _ _ _⟩

theorem gone_any (e : En) (w : World) : Calls Try.prog 12 #[env e] w fun r w' => r = .returned (.bool (goneE e)) ∧ Below w.heap.size w w' := by
  obtain ⟨k, h, v, x, n, nv⟩ := e
  have HB := Lib.hid (fun o => (Below.refl w.heap.size w).alloc (Nat.le_refl _) o)
  cases h with
  | true =>
    go_enter Try.func12, Try.ntmps12
    go_wp2
    go_ret
    exact ⟨rfl, HB.out _⟩
  | false =>
    by_cases hx : x = 0
    · subst hx
      go_enter Try.func12, Try.ntmps12
      go_wp2
      go_ret
      exact ⟨rfl, HB.out _⟩
    · have HV : Hid (goneE ⟨k, false, v, x, n, nv⟩ = false) := Lib.hid (by unfold goneE; simp [hx])
      have hx0 : (x == 0) = false := by simpa using hx
      clear hx
      go_enter Try.func12, Try.ntmps12
      go_wp2
      go_ret
      exact ⟨by rw [HV.out]; rfl, HB.out _⟩

theorem valOf_size {t : Bool} {b : ByteArray} : (valOf t b).b.size ≤ b.size := by
  unfold valOf
  split
  · exact Nat.le_refl _
  · exact Nat.zero_le _
theorem view_size {e : En} (he : EnOk e) (x : Int) : (viewE e x).b.size ≤ 140737488355328 := by
  unfold viewE St.view
  split
  · show (if e.x ≠ 0 then valOf e.n e.nv else Mv.no).b.size ≤ _
    split
    · exact Nat.le_trans valOf_size he.n
    · exact Nat.zero_le _
  · exact Nat.le_trans valOf_size he.v
set_option maxHeartbeats 2000000 in
theorem view_any (e : En) (x : Int) (w : World) (he : EnOk e) : Calls Try.prog 10 #[env e, .int .u64 x] w fun r w' => r = .returned (.tuple #[.string (viewE e x).b, .bool (viewE e x).t]) ∧ Below w.heap.size w w' := by
  have HSO := Lib.hid (fun W => stateof_any e W)
  have HVW := Lib.hid (fun W => sview_any e.st x W)
  have HCL := Lib.hid (fun W => clone_any (viewE e x).b W (by have := view_size he x; omega))
  have HB := Lib.hid (fun o => (Only.refl (fun _ => False) w).alloc o)
  clear he
  rw [show e.st.view x = viewE e x from rfl] at HVW
  obtain ⟨⟨t, b⟩, hv⟩ : ∃ u, viewE e x = u := ⟨_, rfl⟩
  rw [hv] at HVW HCL ⊢
  clear hv
  obtain ⟨s, hs⟩ : ∃ s, e.st = s := ⟨_, rfl⟩
  rw [hs] at HVW HSO
  clear hs
  obtain ⟨⟨t1, b1⟩, y, ⟨t2, b2⟩⟩ := s
  obtain ⟨k, h, v, x0, n, nv⟩ := e
  go_enter Try.func10, Try.ntmps10
  go_wp2_with fail
  refine (HSO.out _).mono ?_
  rintro r w1 ⟨rfl, ha⟩
  have H1 := Lib.hid ((HB.out _).trans (below_quiet ha) (fun _ _ h => h))
  clear ha
  go_wp2_with fail
  refine (HVW.out _).mono ?_
  rintro r w2 ⟨rfl, ha⟩
  have H2 := Lib.hid (H1.out.trans (below_quiet ha) (fun _ _ h => h))
  clear ha H1
  go_upto_region 2 with fail
  have H3 := Lib.hid (H2.out.alloc (.cells #[.bool t, .string b] 43))
  have HC3 := Lib.hid (blk2 (heap_alloc_new w2 (.cells #[.bool t, .string b] 43)))
  obtain ⟨p, hp⟩ : ∃ p, w2.heap.size = p := ⟨_, rfl⟩
  rw [hp] at HC3
  generalize w2.alloc (.cells #[.bool t, .string b] 43) = w3 at *
  rw [hp]
  clear hp H2
  obtain ⟨⟨z0, z1⟩, _⟩ := HC3.out
  go_region_held3 (fun w' => w'.cell? ⟨p, 0, none⟩ = some (.bool t) ∧ w'.cell? ⟨p, 1, none⟩ = some (.string b))
    (first
      | (with_reducible exact HQ4.out)
      | (with_reducible exact ⟨((Only.refl (fun _ => False) w3).drew).cellq z0, ((Only.refl (fun _ => False) w3).drew).cellq z1⟩))
    (first
      | (go_at_call 18; (with_reducible refine (HCL.out _).mono ?_); rintro e w4 ⟨rfl, ha⟩; have HQ3 := ((Only.refl (fun _ => False) w3).drew).trans (below_quiet ha) (fun _ _ h => h); have H4 := Lib.hid (H3.out.trans HQ3 (fun _ _ h => h)); have HQ4 := Lib.hid (And.intro (HQ3.cellq z0) (HQ3.cellq z1)); clear HQ3 ha))
  all_goals
    go_wp2_with fail
    go_ret2
    exact ⟨rfl, only_b H4.out⟩

end Go.Proofs.Ytlmpknhekoeecaa
