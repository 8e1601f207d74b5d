/-
  Package msg's laws: what is asked of the program first; entries and messages in blocks.
-/
import Derived.Test.YtlmpknhekoeecaaMsgA
namespace Go.Proofs.Ytlmpknhekoeecaa
open Go Go.RowKit
set_option linter.unusedVariables false
set_option linter.unusedSimpArgs false
set_option maxRecDepth 100000

theorem check_zero (w : World) : Calls Try.prog 13 #[.agg #[.int .u64 0, .int .i64 0, .string ⟨#[]⟩, .int .u64 0, .string ⟨#[]⟩, .int .i64 0, .int .u64 0]] w fun r w' => r = .returned (.int .i64 1) ∧ Below w.heap.size w w' := by
  have HB := Lib.hid (fun o => (Below.refl w.heap.size w).alloc (Nat.le_refl _) o)
  go_enter Try.func13, Try.ntmps13
  go_wp2
  go_ret
  exact ⟨rfl, HB.out _⟩

theorem small_en {k v nv : ByteArray} {h n : Bool} {x : Int} (hk : k.size ≤ 100) (hv : v.size ≤ 100) (hn : nv.size ≤ 100) : EnOk ⟨k, h, v, x, n, nv⟩ := ⟨by show k.size ≤ _; omega, by show v.size ≤ _; omega, by show nv.size ≤ _; omega⟩
set_option maxHeartbeats 2000000 in
theorem mawake_any (w : World) : Calls Try.prog 8 #[] w fun r w' => r = .returned (.bool true) ∧ Below w.heap.size w w' := by
  have e1 : applyE ⟨⟨#[107]⟩, true, ⟨#[49]⟩, 0, false, ⟨#[]⟩⟩ ⟨0, 1, ⟨#[107]⟩, 7, ⟨#[50]⟩, 0, 0⟩ = ⟨⟨#[107]⟩, true, ⟨#[49]⟩, 7, true, ⟨#[50]⟩⟩ := by
    simp [applyE, En.st, St.after, St.changed, St.view, St.en, chg, valOf]
  have e2 : viewE ⟨⟨#[107]⟩, true, ⟨#[49]⟩, 7, true, ⟨#[50]⟩⟩ 7 = ⟨true, ⟨#[50]⟩⟩ := by simp [viewE, En.st, St.view, valOf]
  have e3 : viewE ⟨⟨#[107]⟩, true, ⟨#[49]⟩, 7, true, ⟨#[50]⟩⟩ 8 = ⟨true, ⟨#[49]⟩⟩ := by simp [viewE, En.st, St.view, valOf]
  have HA := Lib.hid (fun W => apply_any ⟨⟨#[107]⟩, true, ⟨#[49]⟩, 0, false, ⟨#[]⟩⟩ ⟨0, 1, ⟨#[107]⟩, 7, ⟨#[50]⟩, 0, 0⟩ W (small_en (by decide) (by decide) (by decide)) ⟨by decide, by decide, by show (1 : Nat) ≤ _; omega⟩)
  have HV := Lib.hid (fun W => view_any ⟨⟨#[107]⟩, true, ⟨#[49]⟩, 7, true, ⟨#[50]⟩⟩ 7 W (small_en (by decide) (by decide) (by decide)))
  have HV2 := Lib.hid (fun W => view_any ⟨⟨#[107]⟩, true, ⟨#[49]⟩, 7, true, ⟨#[50]⟩⟩ 8 W (small_en (by decide) (by decide) (by decide)))
  have HG := Lib.hid (fun W => gone_any ⟨⟨#[107]⟩, false, ⟨#[]⟩, 0, false, ⟨#[]⟩⟩ W)
  rw [e1] at HA
  rw [e2] at HV
  rw [e3] at HV2
  rw [show goneE ⟨⟨#[107]⟩, false, ⟨#[]⟩, 0, false, ⟨#[]⟩⟩ = true from rfl] at HG
  clear e1 e2 e3
  go_enter Try.func8, Try.ntmps8
  go_wp2_with fail
  refine (HA.out _).mono ?_
  rintro r w1 ⟨rfl, ha⟩
  have H1 := Lib.hid (below_quiet ha)
  clear ha
  go_upto_region 2 with fail
  have H2 := Lib.hid (H1.out.alloc (.cells #[.string ⟨#[107]⟩, .bool true, .string ⟨#[49]⟩, .int .u64 7, .bool true, .string ⟨#[50]⟩] 26))
  have HC2 := Lib.hid (heap_alloc_new w1 (.cells #[.string ⟨#[107]⟩, .bool true, .string ⟨#[49]⟩, .int .u64 7, .bool true, .string ⟨#[50]⟩] 26))
  obtain ⟨p, hp⟩ : ∃ p, w1.heap.size = p := ⟨_, rfl⟩
  rw [hp] at HC2
  generalize w1.alloc (.cells #[.string ⟨#[107]⟩, .bool true, .string ⟨#[49]⟩, .int .u64 7, .bool true, .string ⟨#[50]⟩] 26) = w2 at *
  rw [hp]
  clear hp H1
  obtain ⟨⟨z0, z1, z2, z3, z4, z5⟩, _⟩ := blk6 HC2.out
  go_wp2_with fail
  refine (HV.out _).mono ?_
  rintro r w3 ⟨rfl, ha⟩
  have H3 := Lib.hid (H2.out.trans (below_quiet ha) (fun _ _ h => h))
  have HC3 := Lib.hid (qkeep (below_quiet ha) HC2.out)
  clear ha H2 HC2 z0 z1 z2 z3 z4 z5
  obtain ⟨⟨z0, z1, z2, z3, z4, z5⟩, _⟩ := blk6 HC3.out
  go_wp2_with fail
  refine (HV2.out _).mono ?_
  rintro r w4 ⟨rfl, ha⟩
  have H4 := Lib.hid (H3.out.trans (below_quiet ha) (fun _ _ h => h))
  clear ha H3 HC3 z0 z1 z2 z3 z4 z5
  go_wp2_with fail
  refine (HG.out _).mono ?_
  rintro r w5 ⟨rfl, ha⟩
  have H5 := Lib.hid (H4.out.trans (below_quiet ha) (fun _ _ h => h))
  clear ha H4
  go_wp2_with fail
  refine (check_zero _).mono ?_
  rintro r w6 ⟨rfl, ha⟩
  have H6 := Lib.hid (H5.out.trans (below_quiet ha) (fun _ _ h => h))
  clear ha H5
  go_wp2_with fail
  go_ret
  exact ⟨rfl, only_b H6.out⟩

/-! ### What is seen of an entry in its plain form -/
theorem ok_c {e : En} (h : e.Ok) : e.st.c = ⟨e.h, e.v⟩ := by
  have h1 : e.h = e.st.c.t := congrArg En.h h
  have h2 : e.v = e.st.c.b := congrArg En.v h
  rw [h1, h2]
theorem ok_m {e : En} (h : e.Ok) : e.st.m = ⟨e.n, e.nv⟩ := by
  have h1 : e.n = e.st.m.t := congrArg En.n h
  have h2 : e.nv = e.st.m.b := congrArg En.nv h
  rw [h1, h2]
theorem view_own {e : En} {x : Int} (h : e.Ok) (h0 : x ≠ 0) (hx : e.x = x) : viewE e x = ⟨e.n, e.nv⟩ := by
  unfold viewE St.view
  rw [if_pos ⟨h0, hx⟩, ok_m h]
theorem view_com {e : En} {x : Int} (h : e.Ok) (hx : ¬ (x ≠ 0 ∧ e.x = x)) : viewE e x = ⟨e.h, e.v⟩ := by
  unfold viewE St.view
  rw [if_neg (show ¬ (x ≠ 0 ∧ e.st.x = x) from hx), ok_c h]
theorem ok_st {e : En} (h : e.Ok) : e.st = ⟨⟨e.h, e.v⟩, e.x, ⟨e.n, e.nv⟩⟩ := by
  have h1 := ok_c h
  have h2 := ok_m h
  have h3 : e.st.x = e.x := rfl
  generalize e.st = s at *
  obtain ⟨c, x, m⟩ := s
  simp only at h1 h2 h3
  rw [h1, h2, h3]

/-! ### Entries in blocks -/
abbrev HasE (W : World) (p : Nat) (e : En) : Prop := W.heap[p]? = some (.cells #[.string e.k, .bool e.h, .string e.v, .int .u64 e.x, .bool e.n, .string e.nv] 26 (0, 0))
abbrev HasM (W : World) (p : Nat) (m : Ms) : Prop := W.heap[p]? = some (.cells #[.int .u64 m.sq, .int .i64 m.K, .string m.k, .int .u64 m.x, .string m.v, .int .i64 m.off, .int .u64 m.num] 28 (0, 0))
theorem hasE_new (w : World) (e : En) : HasE (w.alloc (.cells #[.string e.k, .bool e.h, .string e.v, .int .u64 e.x, .bool e.n, .string e.nv] 26)) w.heap.size e := heap_alloc_new w _
theorem hasM_new (w : World) (m : Ms) : HasM (w.alloc (.cells #[.int .u64 m.sq, .int .i64 m.K, .string m.k, .int .u64 m.x, .string m.v, .int .i64 m.off, .int .u64 m.num] 28)) w.heap.size m := heap_alloc_new w _
theorem hasE_set {W : World} {p : Nat} {e : En} (h : HasE W p e) (u : En) : HasE ((((((W.setCell ⟨p, 0, none⟩ (.string u.k)).setCell ⟨p, 1, none⟩ (.bool u.h)).setCell ⟨p, 2, none⟩ (.string u.v)).setCell ⟨p, 3, none⟩ (.int .u64 u.x)).setCell ⟨p, 4, none⟩ (.bool u.n)).setCell ⟨p, 5, none⟩ (.string u.nv)) p u := set6 h _ _ _ _ _ _
theorem only_set6 {w W : World} (h : Only (fun _ => False) w W) {p : Nat} (hp : w.heap.size ≤ p) (u0 u1 u2 u3 u4 u5 : Value) :
    Only (fun _ => False) w ((((((W.setCell ⟨p, 0, none⟩ u0).setCell ⟨p, 1, none⟩ u1).setCell ⟨p, 2, none⟩ u2).setCell ⟨p, 3, none⟩ u3).setCell ⟨p, 4, none⟩ u4).setCell ⟨p, 5, none⟩ u5) :=
  only_set (only_set (only_set (only_set (only_set (only_set h hp _ _) hp _ _) hp _ _) hp _ _) hp _ _) hp _ _
theorem set6_keep {W : World} {p q : Nat} {x : Obj} {u0 u1 u2 u3 u4 u5 : Value} (hq : q ≠ p) (h : W.heap[q]? = some x) :
    ((((((W.setCell ⟨p, 0, none⟩ u0).setCell ⟨p, 1, none⟩ u1).setCell ⟨p, 2, none⟩ u2).setCell ⟨p, 3, none⟩ u3).setCell ⟨p, 4, none⟩ u4).setCell ⟨p, 5, none⟩ u5).heap[q]? = some x :=
  set_keep hq (set_keep hq (set_keep hq (set_keep hq (set_keep hq (set_keep hq h)))))
/-- A message that changes nothing. -/
abbrev m0 : Ms := ⟨0, 0, ⟨#[]⟩, 0, ⟨#[]⟩, 0, 0⟩
theorem m0_ok : MsOk m0 := ⟨by decide, by decide, by show (0 : Nat) ≤ _; omega⟩
/-- Where a law stands behind its first lines: the entry in its plain form in its block. -/
structure LawAt (w W : World) (e : En) : Prop where
  e : HasE W w.heap.size e
  only : Only (fun _ => False) w W
theorem LawAt.keep {w W W' : World} {e : En} (h : LawAt w W e) (ho : Only (fun _ => False) W W') : LawAt w W' e := ⟨qkeep ho h.e, h.only.trans ho (fun _ _ h => h)⟩
theorem LawAt.start (w : World) (e : En) : LawAt w (w.alloc (.cells #[.string e.k, .bool e.h, .string e.v, .int .u64 e.x, .bool e.n, .string e.nv] 26)) e := ⟨hasE_new w e, (Only.refl _ w).alloc _⟩
theorem LawAt.set {w W : World} {e : En} (h : LawAt w W e) (u : En) : LawAt w ((((((W.setCell ⟨w.heap.size, 0, none⟩ (.string u.k)).setCell ⟨w.heap.size, 1, none⟩ (.bool u.h)).setCell ⟨w.heap.size, 2, none⟩ (.string u.v)).setCell ⟨w.heap.size, 3, none⟩ (.int .u64 u.x)).setCell ⟨w.heap.size, 4, none⟩ (.bool u.n)).setCell ⟨w.heap.size, 5, none⟩ (.string u.nv)) u :=
  ⟨hasE_set h.e u, only_set6 h.only (Nat.le_refl _) _ _ _ _ _ _⟩

end Go.Proofs.Ytlmpknhekoeecaa
