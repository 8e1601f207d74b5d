/-
  MsgGrows: its walk.
-/
import Derived.Test.YtlmpknhekoeecaaMsgGrowsP
namespace Go.Proofs.Ytlmpknhekoeecaa
open Go Go.RowKit
set_option linter.unusedVariables false
set_option linter.unusedSimpArgs false
set_option maxRecDepth 100000

/-- Where MsgGrows stands: the entry, the Grow, the Commit. -/
structure GwAt (w W : World) (pg pc : Nat) (e : En) (g c : Ms) : Prop where
  l : LawAt w W e
  g : HasM W pg g
  c : HasM W pc c
theorem GwAt.keep {w W W' : World} {pg pc : Nat} {e : En} {g c : Ms} (H : GwAt w W pg pc e g c) (ho : Only (fun _ => False) W W') : GwAt w W' pg pc e g c := ⟨H.l.keep ho, qkeep ho H.g, qkeep ho H.c⟩
/-- Where it stands at the end: the entry, three Adds. -/
structure GxAt (w W : World) (pm pn pb : Nat) (e : En) (m n b : Ms) : Prop where
  l : LawAt w W e
  m : HasM W pm m
  n : HasM W pn n
  b : HasM W pb b
theorem GxAt.keep {w W W' : World} {pm pn pb : Nat} {e : En} {m n b : Ms} (H : GxAt w W pm pn pb e m n b) (ho : Only (fun _ => False) W W') : GxAt w W' pm pn pb e m n b := ⟨H.l.keep ho, qkeep ho H.m, qkeep ho H.n, qkeep ho H.b⟩
theorem GxAt.store {w W : World} {pm pn pb q : Nat} {e z : En} {m n b : Ms} (H : GxAt w W pm pn pb e m n b) (hq : HasE W q z) (h0 : w.heap.size ≤ q) (h1 : w.heap.size ≠ q) (h2 : pm ≠ q) (h3 : pn ≠ q) (h4 : pb ≠ q) (u : En) :
    GxAt w ((((((W.setCell ⟨q, 0, none⟩ (.string u.k)).setCell ⟨q, 1, none⟩ (.bool u.h)).setCell ⟨q, 2, none⟩ (.string u.v)).setCell ⟨q, 3, none⟩ (.int .u64 u.x)).setCell ⟨q, 4, none⟩ (.bool u.n)).setCell ⟨q, 5, none⟩ (.string u.nv)) pm pn pb e m n b :=
  ⟨⟨set6_keep h1 H.l.e, only_set6 H.l.only h0 _ _ _ _ _ _⟩, set6_keep h2 H.m, set6_keep h3 H.n, set6_keep h4 H.b⟩
def GxCut (w : World) (pm pn pb : Nat) (e : En) (m n b : Ms) (a : En) (v : Value) (wx : World) : Prop := ∃ q, v = .pointer (some ⟨q, 0, none⟩) ∧ GxAt w wx pm pn pb e m n b ∧ HasE wx q a

set_option maxHeartbeats 16000000 in
theorem mgrows_walk (e : En) (off : Int) (val : ByteArray) (xx yy : Int) (w : World) (he : EnOk e) (hv : val.size ≤ 140737488355328) (hx : 0 ≤ xx ∧ xx < 18446744073709551616) (hy : 0 ≤ yy ∧ yy < 18446744073709551616) :
    Calls Try.prog 4 #[env e, .int .i64 off, .string val, .int .u64 xx, .int .u64 yy] w fun r w' => r = .returned (.bool true) ∧ Below w.heap.size w w' := by
  have HL := Lib.hid (LawAt.start w e)
  have hma : MsOk ⟨0, 6, e.k, 1, ⟨#[]⟩, 0, 0⟩ := ⟨by show (0 : Int) ≤ 0; omega, by show (0 : Int) < _; omega, by show (0 : Nat) ≤ _; omega⟩
  have HA := Lib.hid (fun W => apply_any e ⟨0, 6, e.k, 1, ⟨#[]⟩, 0, 0⟩ W he hma)
  have s1 := apply_size he hma
  obtain ⟨e1, hu⟩ : ∃ u, applyE e ⟨0, 6, e.k, 1, ⟨#[]⟩, 0, 0⟩ = u := ⟨_, rfl⟩
  rw [hu] at HA s1
  clear hu he hma
  obtain ⟨zz, hzz⟩ : ∃ zz, (xx + yy) % 18446744073709551616 = zz := ⟨_, rfl⟩
  have hz : 0 ≤ zz ∧ zz < 18446744073709551616 := by omega
  have hw1 : IntKind.u64.wrap (xx + yy) = zz := by rw [IntKind.wrap_u64, hzz]
  have hmg : MsOk ⟨0, 4, ⟨#[]⟩, 0, val, off, 0⟩ := ⟨by show (0 : Int) ≤ 0; omega, by show (0 : Int) < _; omega, hv⟩
  have hmc : MsOk ⟨0, 5, e1.k, e1.x, ⟨#[]⟩, 0, 0⟩ := ⟨by show (0 : Int) ≤ 0; omega, by show (0 : Int) < _; omega, by show (0 : Nat) ≤ _; omega⟩
  have hmm : ∀ z, 0 ≤ z ∧ z < 18446744073709551616 → MsOk ⟨0, 3, e1.k, 0, ⟨#[]⟩, off, z⟩ := fun z h => ⟨h.1, h.2, by show (0 : Nat) ≤ _; omega⟩
  have g1 := gr_commit e1 off val
  have g2 := gr_twice e1 off val
  have g3 := gr_add e1 off xx yy zz hx.1 hy.1 hzz.symm
  have g4 := gr_add e1 off yy xx zz hy.1 hx.1 (by rw [← hzz, Int.add_comm])
  obtain ⟨A, hA⟩ : ∃ A, applyE e1 ⟨0, 4, ⟨#[]⟩, 0, val, off, 0⟩ = A := ⟨_, rfl⟩
  obtain ⟨B, hB⟩ : ∃ B, applyE e1 ⟨0, 5, e1.k, e1.x, ⟨#[]⟩, 0, 0⟩ = B := ⟨_, rfl⟩
  have sA := apply_size s1 hmg
  have sB := apply_size s1 hmc
  rw [hA] at sA g1 g2
  rw [hB] at sB g1
  obtain ⟨C, hC⟩ : ∃ C, applyE A ⟨0, 5, e1.k, e1.x, ⟨#[]⟩, 0, 0⟩ = C := ⟨_, rfl⟩
  rw [hC] at g1
  have CA := Lib.hid (fun W => apply_any e1 ⟨0, 4, ⟨#[]⟩, 0, val, off, 0⟩ W s1 hmg)
  have CB := Lib.hid (fun W => apply_any e1 ⟨0, 5, e1.k, e1.x, ⟨#[]⟩, 0, 0⟩ W s1 hmc)
  have CC := Lib.hid (fun W => apply_any A ⟨0, 5, e1.k, e1.x, ⟨#[]⟩, 0, 0⟩ W sA hmc)
  have CD := Lib.hid (fun W => apply_any B ⟨0, 4, ⟨#[]⟩, 0, val, off, 0⟩ W sB hmg)
  have CE := Lib.hid (fun W => apply_any A ⟨0, 4, ⟨#[]⟩, 0, val, off, 0⟩ W sA hmg)
  rw [hA] at CA
  rw [hB] at CB
  rw [hC] at CC
  rw [← g1] at CD
  have G2 := Lib.hid g2
  obtain ⟨M, hM⟩ : ∃ M, applyE e1 ⟨0, 3, e1.k, 0, ⟨#[]⟩, off, xx⟩ = M := ⟨_, rfl⟩
  obtain ⟨N, hN⟩ : ∃ N, applyE e1 ⟨0, 3, e1.k, 0, ⟨#[]⟩, off, yy⟩ = N := ⟨_, rfl⟩
  obtain ⟨a, ha⟩ : ∃ a, applyE e1 ⟨0, 3, e1.k, 0, ⟨#[]⟩, off, zz⟩ = a := ⟨_, rfl⟩
  have sM := apply_size s1 (hmm xx hx)
  have sN := apply_size s1 (hmm yy hy)
  rw [hM] at sM g3
  rw [hN] at sN g4
  rw [ha] at g3 g4
  have DM := Lib.hid (fun W => apply_any e1 ⟨0, 3, e1.k, 0, ⟨#[]⟩, off, xx⟩ W s1 (hmm xx hx))
  have DN := Lib.hid (fun W => apply_any e1 ⟨0, 3, e1.k, 0, ⟨#[]⟩, off, yy⟩ W s1 (hmm yy hy))
  have DB := Lib.hid (fun W => apply_any e1 ⟨0, 3, e1.k, 0, ⟨#[]⟩, off, zz⟩ W s1 (hmm zz hz))
  have DMN := Lib.hid (fun W => apply_any M ⟨0, 3, e1.k, 0, ⟨#[]⟩, off, yy⟩ W sM (hmm yy hy))
  have DNM := Lib.hid (fun W => apply_any N ⟨0, 3, e1.k, 0, ⟨#[]⟩, off, xx⟩ W sN (hmm xx hx))
  rw [hM] at DM
  rw [hN] at DN
  rw [ha] at DB
  rw [g3] at DMN
  rw [g4] at DNM
  have HXY : Hid ((0 ≤ xx ∧ xx < 18446744073709551616) ∧ (0 ≤ yy ∧ yy < 18446744073709551616)) := Lib.hid ⟨hx, hy⟩
  have HW := Lib.hid (And.intro hw1 hzz)
  clear hA hB hC hM hN ha sA sB sM sN g1 g2 g3 g4 s1 hmg hmc hmm hz hzz hw1 hv hx hy
  obtain ⟨k, h, v, x, n, nv⟩ := e
  obtain ⟨k1, h1, v1, x1, n1, nv1⟩ := e1
  obtain ⟨kA, hA, vA, xA, nA, nvA⟩ := A
  obtain ⟨kB, hB, vB, xB, nB, nvB⟩ := B
  obtain ⟨kC, hC, vC, xC, nC, nvC⟩ := C
  obtain ⟨kM, hM, vM, xM, nM, nvM⟩ := M
  obtain ⟨kN, hN, vN, xN, nN, nvN⟩ := N
  obtain ⟨ka, ha, va, xa, na, nva⟩ := a
  simp only at HA CA CB CC CD CE DM DN DB DMN DNM G2
  go_enter Try.func4, Try.ntmps4
  go_wp2_with fail
  refine (mawake_any _).mono ?_
  rintro r w1 ⟨rfl, hb⟩
  have H1 := Lib.hid (HL.out.keep (below_quiet hb))
  clear hb HL
  obtain ⟨⟨z0, z1, z2, z3, z4, z5⟩, f0, f1, f2, f3, f4, f5⟩ := blk6 H1.out.e
  go_wp2_with fail
  refine (HA.out _).mono ?_
  rintro r w2 ⟨rfl, hb⟩
  have H2 := Lib.hid (H1.out.keep (below_quiet hb))
  have H3 := Lib.hid (H2.out.set ⟨k1, h1, v1, x1, n1, nv1⟩)
  clear hb H1 HA z0 z1 z2 z3 z4 z5 f0 f1 f2 f3 f4 f5
  obtain ⟨⟨z0, z1, z2, z3, z4, z5⟩, f0, f1, f2, f3, f4, f5⟩ := blk6 H2.out.e
  go_upto_region 4 with fail
  clear z0 z1 z2 z3 z4 z5 f0 f1 f2 f3 f4 f5 H2
  generalize World.setCell (World.setCell (World.setCell (World.setCell (World.setCell (World.setCell w2 _ _) _ _) _ _) _ _) _ _) _ _ = w3 at *
  go_upto_region 5 with fail
  have H4 := Lib.hid (H3.out.keep ((Only.refl _ _).alloc (.cells #[.int .u64 0, .int .i64 4, .string ⟨#[]⟩, .int .u64 0, .string val, .int .i64 off, .int .u64 0] 28)))
  have HG4 := Lib.hid (hasM_new w3 ⟨0, 4, ⟨#[]⟩, 0, val, off, 0⟩)
  obtain ⟨pg, hq⟩ : ∃ q, w3.heap.size = q := ⟨_, rfl⟩
  rw [hq] at HG4
  generalize w3.alloc (.cells #[.int .u64 0, .int .i64 4, .string ⟨#[]⟩, .int .u64 0, .string val, .int .i64 off, .int .u64 0] 28) = w4 at *
  rw [hq]
  clear hq H3
  obtain ⟨⟨z0, z1, z2, z3, z4, z5⟩, f0, f1, f2, f3, f4, f5⟩ := blk6 H4.out.e
  go_upto_region 6 with fail
  clear z0 z1 z2 z3 z4 z5 f0 f1 f2 f3 f4 f5
  have HG5 := Lib.hid (alloc_keep (o := (.cells #[.int .u64 0, .int .i64 5, .string k1, .int .u64 x1, .string ⟨#[]⟩, .int .i64 0, .int .u64 0] 28)) HG4.out)
  have H5 := Lib.hid (H4.out.keep ((Only.refl _ _).alloc (.cells #[.int .u64 0, .int .i64 5, .string k1, .int .u64 x1, .string ⟨#[]⟩, .int .i64 0, .int .u64 0] 28)))
  have HC5 := Lib.hid (hasM_new w4 ⟨0, 5, k1, x1, ⟨#[]⟩, 0, 0⟩)
  obtain ⟨pc, hq⟩ : ∃ q, w4.heap.size = q := ⟨_, rfl⟩
  rw [hq] at HC5
  generalize w4.alloc (.cells #[.int .u64 0, .int .i64 5, .string k1, .int .u64 x1, .string ⟨#[]⟩, .int .i64 0, .int .u64 0] 28) = w5 at *
  rw [hq]
  clear hq H4
  have HW5 : Hid (GwAt w w5 pg pc ⟨k1, h1, v1, x1, n1, nv1⟩ ⟨0, 4, ⟨#[]⟩, 0, val, off, 0⟩ ⟨0, 5, k1, x1, ⟨#[]⟩, 0, 0⟩) := Lib.hid ⟨H5.out, HG5.out, HC5.out⟩
  clear H5 HG4 HG5 HC5
  have HW5d := Lib.hid (HW5.out.keep ((Only.refl _ w5).drew))
  go_cut [43] (fun b wx => b = .bool false ∧ GwAt w wx pg pc ⟨k1, h1, v1, x1, n1, nv1⟩ ⟨0, 4, ⟨#[]⟩, 0, val, off, 0⟩ ⟨0, 5, k1, x1, ⟨#[]⟩, 0, 0⟩)
  case first =>
    go_region_held3 (fun w' => w'.cell? ⟨w.heap.size, 0, none⟩ = some (.string k1) ∧ w'.cell? ⟨w.heap.size, 1, none⟩ = some (.bool h1) ∧ w'.cell? ⟨w.heap.size, 2, none⟩ = some (.string v1) ∧ w'.cell? ⟨w.heap.size, 3, none⟩ = some (.int .u64 x1) ∧ w'.cell? ⟨w.heap.size, 4, none⟩ = some (.bool n1) ∧ w'.cell? ⟨w.heap.size, 5, none⟩ = some (.string nv1) ∧ w'.cell? ⟨pg, 0, none⟩ = some (.int .u64 0) ∧ w'.cell? ⟨pg, 1, none⟩ = some (.int .i64 4) ∧ w'.cell? ⟨pg, 2, none⟩ = some (.string ⟨#[]⟩) ∧ w'.cell? ⟨pg, 3, none⟩ = some (.int .u64 0) ∧ w'.cell? ⟨pg, 4, none⟩ = some (.string val) ∧ w'.cell? ⟨pg, 5, none⟩ = some (.int .i64 off) ∧ w'.cell? ⟨pg, 6, none⟩ = some (.int .u64 0) ∧ w'.cell? ⟨pc, 0, none⟩ = some (.int .u64 0) ∧ w'.cell? ⟨pc, 1, none⟩ = some (.int .i64 5) ∧ w'.cell? ⟨pc, 2, none⟩ = some (.string k1) ∧ w'.cell? ⟨pc, 3, none⟩ = some (.int .u64 x1) ∧ w'.cell? ⟨pc, 4, none⟩ = some (.string ⟨#[]⟩) ∧ w'.cell? ⟨pc, 5, none⟩ = some (.int .i64 0) ∧ w'.cell? ⟨pc, 6, none⟩ = some (.int .u64 0))
      (first
        | (with_reducible exact ⟨(blk6 HW9.out.l.e).1.1, (blk6 HW9.out.l.e).1.2.1, (blk6 HW9.out.l.e).1.2.2.1, (blk6 HW9.out.l.e).1.2.2.2.1, (blk6 HW9.out.l.e).1.2.2.2.2.1, (blk6 HW9.out.l.e).1.2.2.2.2.2, (blk7 HW9.out.g).1, (blk7 HW9.out.g).2.1, (blk7 HW9.out.g).2.2.1, (blk7 HW9.out.g).2.2.2.1, (blk7 HW9.out.g).2.2.2.2.1, (blk7 HW9.out.g).2.2.2.2.2.1, (blk7 HW9.out.g).2.2.2.2.2.2, (blk7 HW9.out.c).1, (blk7 HW9.out.c).2.1, (blk7 HW9.out.c).2.2.1, (blk7 HW9.out.c).2.2.2.1, (blk7 HW9.out.c).2.2.2.2.1, (blk7 HW9.out.c).2.2.2.2.2.1, (blk7 HW9.out.c).2.2.2.2.2.2⟩)
        | (with_reducible exact ⟨(blk6 HW8.out.l.e).1.1, (blk6 HW8.out.l.e).1.2.1, (blk6 HW8.out.l.e).1.2.2.1, (blk6 HW8.out.l.e).1.2.2.2.1, (blk6 HW8.out.l.e).1.2.2.2.2.1, (blk6 HW8.out.l.e).1.2.2.2.2.2, (blk7 HW8.out.g).1, (blk7 HW8.out.g).2.1, (blk7 HW8.out.g).2.2.1, (blk7 HW8.out.g).2.2.2.1, (blk7 HW8.out.g).2.2.2.2.1, (blk7 HW8.out.g).2.2.2.2.2.1, (blk7 HW8.out.g).2.2.2.2.2.2, (blk7 HW8.out.c).1, (blk7 HW8.out.c).2.1, (blk7 HW8.out.c).2.2.1, (blk7 HW8.out.c).2.2.2.1, (blk7 HW8.out.c).2.2.2.2.1, (blk7 HW8.out.c).2.2.2.2.2.1, (blk7 HW8.out.c).2.2.2.2.2.2⟩)
        | (with_reducible exact ⟨(blk6 HW7.out.l.e).1.1, (blk6 HW7.out.l.e).1.2.1, (blk6 HW7.out.l.e).1.2.2.1, (blk6 HW7.out.l.e).1.2.2.2.1, (blk6 HW7.out.l.e).1.2.2.2.2.1, (blk6 HW7.out.l.e).1.2.2.2.2.2, (blk7 HW7.out.g).1, (blk7 HW7.out.g).2.1, (blk7 HW7.out.g).2.2.1, (blk7 HW7.out.g).2.2.2.1, (blk7 HW7.out.g).2.2.2.2.1, (blk7 HW7.out.g).2.2.2.2.2.1, (blk7 HW7.out.g).2.2.2.2.2.2, (blk7 HW7.out.c).1, (blk7 HW7.out.c).2.1, (blk7 HW7.out.c).2.2.1, (blk7 HW7.out.c).2.2.2.1, (blk7 HW7.out.c).2.2.2.2.1, (blk7 HW7.out.c).2.2.2.2.2.1, (blk7 HW7.out.c).2.2.2.2.2.2⟩)
        | (with_reducible exact ⟨(blk6 HW6.out.l.e).1.1, (blk6 HW6.out.l.e).1.2.1, (blk6 HW6.out.l.e).1.2.2.1, (blk6 HW6.out.l.e).1.2.2.2.1, (blk6 HW6.out.l.e).1.2.2.2.2.1, (blk6 HW6.out.l.e).1.2.2.2.2.2, (blk7 HW6.out.g).1, (blk7 HW6.out.g).2.1, (blk7 HW6.out.g).2.2.1, (blk7 HW6.out.g).2.2.2.1, (blk7 HW6.out.g).2.2.2.2.1, (blk7 HW6.out.g).2.2.2.2.2.1, (blk7 HW6.out.g).2.2.2.2.2.2, (blk7 HW6.out.c).1, (blk7 HW6.out.c).2.1, (blk7 HW6.out.c).2.2.1, (blk7 HW6.out.c).2.2.2.1, (blk7 HW6.out.c).2.2.2.2.1, (blk7 HW6.out.c).2.2.2.2.2.1, (blk7 HW6.out.c).2.2.2.2.2.2⟩)
        | (with_reducible exact ⟨(blk6 HW5d.out.l.e).1.1, (blk6 HW5d.out.l.e).1.2.1, (blk6 HW5d.out.l.e).1.2.2.1, (blk6 HW5d.out.l.e).1.2.2.2.1, (blk6 HW5d.out.l.e).1.2.2.2.2.1, (blk6 HW5d.out.l.e).1.2.2.2.2.2, (blk7 HW5d.out.g).1, (blk7 HW5d.out.g).2.1, (blk7 HW5d.out.g).2.2.1, (blk7 HW5d.out.g).2.2.2.1, (blk7 HW5d.out.g).2.2.2.2.1, (blk7 HW5d.out.g).2.2.2.2.2.1, (blk7 HW5d.out.g).2.2.2.2.2.2, (blk7 HW5d.out.c).1, (blk7 HW5d.out.c).2.1, (blk7 HW5d.out.c).2.2.1, (blk7 HW5d.out.c).2.2.2.1, (blk7 HW5d.out.c).2.2.2.2.1, (blk7 HW5d.out.c).2.2.2.2.2.1, (blk7 HW5d.out.c).2.2.2.2.2.2⟩))
      (first
        | (go_at_call 9; (with_reducible refine (CA.out _).mono ?_); rintro r w6 ⟨rfl, hb⟩; (with_reducible have HW6 := Lib.hid (HW5d.out.keep (below_quiet hb))); clear hb)
        | (go_at_call 9; (with_reducible refine (CC.out _).mono ?_); rintro r w7 ⟨rfl, hb⟩; (with_reducible have HW7 := Lib.hid (HW6.out.keep (below_quiet hb))); clear hb)
        | (go_at_call 9; (with_reducible refine (CB.out _).mono ?_); rintro r w8 ⟨rfl, hb⟩; (with_reducible have HW8 := Lib.hid (HW7.out.keep (below_quiet hb))); clear hb)
        | (go_at_call 9; (with_reducible refine (CD.out _).mono ?_); rintro r w9 ⟨rfl, hb⟩; (with_reducible have HW9 := Lib.hid (HW8.out.keep (below_quiet hb))); clear hb))
    all_goals
      go_wp2_with fail
      go_meet
      exact ⟨rfl, HW9.out⟩
  case rest =>
    obtain ⟨rfl, hH⟩ := hcut
    clear HW5 HW5d CB CC CD
    have HW10 : Hid (GwAt w _ pg pc ⟨k1, h1, v1, x1, n1, nv1⟩ ⟨0, 4, ⟨#[]⟩, 0, val, off, 0⟩ ⟨0, 5, k1, x1, ⟨#[]⟩, 0, 0⟩) := Lib.hid hH
    clear hH
    obtain ⟨⟨z0, z1, z2, z3, z4, z5⟩, f0, f1, f2, f3, f4, f5⟩ := blk6 HW10.out.l.e
    obtain ⟨y0, y1, y2, y3, y4, y5, y6⟩ := blk7 HW10.out.g
    go_wp2_with fail
    refine (CA.out _).mono ?_
    rintro r w11 ⟨rfl, hb⟩
    have HW11 := Lib.hid (HW10.out.keep (below_quiet hb))
    clear hb HW10 CA z0 z1 z2 z3 z4 z5 f0 f1 f2 f3 f4 f5 y0 y1 y2 y3 y4 y5 y6
    go_upto_region 9 with fail
    have HW12 := Lib.hid (HW11.out.keep ((Only.refl _ _).alloc (.cells #[.string kA, .bool hA, .string vA, .int .u64 xA, .bool nA, .string nvA] 26)))
    have HA12 := Lib.hid (hasE_new w11 ⟨kA, hA, vA, xA, nA, nvA⟩)
    obtain ⟨po, hq⟩ : ∃ q, w11.heap.size = q := ⟨_, rfl⟩
    rw [hq] at HA12
    generalize w11.alloc (.cells #[.string kA, .bool hA, .string vA, .int .u64 xA, .bool nA, .string nvA] 26) = w12 at *
    rw [hq]
    clear hq HW11
    go_cut [59] (fun b wx => b = .bool false ∧ GwAt w wx pg pc ⟨k1, h1, v1, x1, n1, nv1⟩ ⟨0, 4, ⟨#[]⟩, 0, val, off, 0⟩ ⟨0, 5, k1, x1, ⟨#[]⟩, 0, 0⟩)
    case first =>
      by_cases hoff : 0 ≤ off ∧ off < 255
      · rw [G2.out hoff.1 hoff.2] at CE
        obtain ⟨ho1, ho2⟩ := hoff
        have HW12d := Lib.hid (HW12.out.keep ((Only.refl _ w12).drew))
        have HA12d := Lib.hid (qkeep ((Only.refl _ w12).drew) HA12.out)
        go_region_held3 (fun w' => w'.cell? ⟨po, 0, none⟩ = some (.string kA) ∧ w'.cell? ⟨po, 1, none⟩ = some (.bool hA) ∧ w'.cell? ⟨po, 2, none⟩ = some (.string vA) ∧ w'.cell? ⟨po, 3, none⟩ = some (.int .u64 xA) ∧ w'.cell? ⟨po, 4, none⟩ = some (.bool nA) ∧ w'.cell? ⟨po, 5, none⟩ = some (.string nvA) ∧ w'.cell? ⟨pg, 0, none⟩ = some (.int .u64 0) ∧ w'.cell? ⟨pg, 1, none⟩ = some (.int .i64 4) ∧ w'.cell? ⟨pg, 2, none⟩ = some (.string ⟨#[]⟩) ∧ w'.cell? ⟨pg, 3, none⟩ = some (.int .u64 0) ∧ w'.cell? ⟨pg, 4, none⟩ = some (.string val) ∧ w'.cell? ⟨pg, 5, none⟩ = some (.int .i64 off) ∧ w'.cell? ⟨pg, 6, none⟩ = some (.int .u64 0))
          (first
            | (with_reducible exact ⟨(blk6 HA13.out).1.1, (blk6 HA13.out).1.2.1, (blk6 HA13.out).1.2.2.1, (blk6 HA13.out).1.2.2.2.1, (blk6 HA13.out).1.2.2.2.2.1, (blk6 HA13.out).1.2.2.2.2.2, (blk7 HW13.out.g).1, (blk7 HW13.out.g).2.1, (blk7 HW13.out.g).2.2.1, (blk7 HW13.out.g).2.2.2.1, (blk7 HW13.out.g).2.2.2.2.1, (blk7 HW13.out.g).2.2.2.2.2.1, (blk7 HW13.out.g).2.2.2.2.2.2⟩)
            | (with_reducible exact ⟨(blk6 HA12d.out).1.1, (blk6 HA12d.out).1.2.1, (blk6 HA12d.out).1.2.2.1, (blk6 HA12d.out).1.2.2.2.1, (blk6 HA12d.out).1.2.2.2.2.1, (blk6 HA12d.out).1.2.2.2.2.2, (blk7 HW12d.out.g).1, (blk7 HW12d.out.g).2.1, (blk7 HW12d.out.g).2.2.1, (blk7 HW12d.out.g).2.2.2.1, (blk7 HW12d.out.g).2.2.2.2.1, (blk7 HW12d.out.g).2.2.2.2.2.1, (blk7 HW12d.out.g).2.2.2.2.2.2⟩))
          (first
            | (go_at_call 9; (with_reducible refine (CE.out _).mono ?_); rintro r w13 ⟨rfl, hb⟩; (with_reducible have HW13 := Lib.hid (HW12d.out.keep (below_quiet hb))); (with_reducible have HA13 := Lib.hid (qkeep (below_quiet hb) HA12d.out)); clear hb))
        all_goals
          go_wp2_with fail
          go_meet
          exact ⟨rfl, HW13.out⟩
      · have hw : (0 ≤ off ∧ 255 ≤ off) ∨ off < 0 := by omega
        clear hoff
        rcases hw with ⟨ho1, ho2⟩ | ho1
        · have hd : decide (off < 255) = false := by simpa using ho2
          go_wp2_with fail
          go_quiet (fail)
          go_wp2_with fail
          go_meet
          exact ⟨rfl, HW12.out.keep ((Only.refl _ _).drewN _)⟩
        · have hd : decide (0 ≤ off) = false := by simpa using ho1
          go_wp2_with fail
          go_quiet (fail)
          go_wp2_with fail
          go_meet
          exact ⟨rfl, HW12.out.keep ((Only.refl _ _).drewN _)⟩
    case rest =>
      obtain ⟨rfl, hH⟩ := hcut
      clear HW12 HA12 CE G2
      have HL13 : Hid (LawAt w _ ⟨k1, h1, v1, x1, n1, nv1⟩) := Lib.hid hH.l
      clear hH
      obtain ⟨⟨z0, z1, z2, z3, z4, z5⟩, f0, f1, f2, f3, f4, f5⟩ := blk6 HL13.out.e
      go_upto_region 12 with fail
      have H14 := Lib.hid (HL13.out.keep ((Only.refl _ _).alloc (.cells #[.int .u64 0, .int .i64 3, .string k1, .int .u64 0, .string ⟨#[]⟩, .int .i64 off, .int .u64 xx] 28)))
      have HM14 := Lib.hid (hasM_new wc ⟨0, 3, k1, 0, ⟨#[]⟩, off, xx⟩)
      obtain ⟨pm, hq⟩ : ∃ q, wc.heap.size = q := ⟨_, rfl⟩
      rw [hq] at HM14
      generalize wc.alloc (.cells #[.int .u64 0, .int .i64 3, .string k1, .int .u64 0, .string ⟨#[]⟩, .int .i64 off, .int .u64 xx] 28) = w14 at *
      rw [hq]
      clear hq HL13
      clear z0 z1 z2 z3 z4 z5 f0 f1 f2 f3 f4 f5
      obtain ⟨⟨z0, z1, z2, z3, z4, z5⟩, f0, f1, f2, f3, f4, f5⟩ := blk6 H14.out.e
      go_upto_region 13 with fail
      clear z0 z1 z2 z3 z4 z5 f0 f1 f2 f3 f4 f5
      have HM15 := Lib.hid (alloc_keep (o := (.cells #[.int .u64 0, .int .i64 3, .string k1, .int .u64 0, .string ⟨#[]⟩, .int .i64 off, .int .u64 yy] 28)) HM14.out)
      have H15 := Lib.hid (H14.out.keep ((Only.refl _ _).alloc (.cells #[.int .u64 0, .int .i64 3, .string k1, .int .u64 0, .string ⟨#[]⟩, .int .i64 off, .int .u64 yy] 28)))
      have HN15 := Lib.hid (hasM_new w14 ⟨0, 3, k1, 0, ⟨#[]⟩, off, yy⟩)
      obtain ⟨pn, hq⟩ : ∃ q, w14.heap.size = q := ⟨_, rfl⟩
      rw [hq] at HN15
      generalize w14.alloc (.cells #[.int .u64 0, .int .i64 3, .string k1, .int .u64 0, .string ⟨#[]⟩, .int .i64 off, .int .u64 yy] 28) = w15 at *
      rw [hq]
      clear hq H14
      obtain ⟨⟨z0, z1, z2, z3, z4, z5⟩, f0, f1, f2, f3, f4, f5⟩ := blk6 H15.out.e
      obtain ⟨⟨hx0, hx1⟩, hy0, hy1⟩ := HXY.out
      obtain ⟨hw1, hzz⟩ := HW.out
      go_upto_region 14 with fail
      clear z0 z1 z2 z3 z4 z5 f0 f1 f2 f3 f4 f5 hw1 hzz hx0 hx1 hy0 hy1
      have HM16 := Lib.hid (alloc_keep (o := (.cells #[.int .u64 0, .int .i64 3, .string k1, .int .u64 0, .string ⟨#[]⟩, .int .i64 off, .int .u64 zz] 28)) HM15.out)
      have HN16 := Lib.hid (alloc_keep (o := (.cells #[.int .u64 0, .int .i64 3, .string k1, .int .u64 0, .string ⟨#[]⟩, .int .i64 off, .int .u64 zz] 28)) HN15.out)
      have H16 := Lib.hid (H15.out.keep ((Only.refl _ _).alloc (.cells #[.int .u64 0, .int .i64 3, .string k1, .int .u64 0, .string ⟨#[]⟩, .int .i64 off, .int .u64 zz] 28)))
      have HB16 := Lib.hid (hasM_new w15 ⟨0, 3, k1, 0, ⟨#[]⟩, off, zz⟩)
      obtain ⟨pb, hq⟩ : ∃ q, w15.heap.size = q := ⟨_, rfl⟩
      rw [hq] at HB16
      generalize w15.alloc (.cells #[.int .u64 0, .int .i64 3, .string k1, .int .u64 0, .string ⟨#[]⟩, .int .i64 off, .int .u64 zz] 28) = w16 at *
      rw [hq]
      clear hq H15
      have HX0 : Hid (GxAt w w16 pm pn pb ⟨k1, h1, v1, x1, n1, nv1⟩ ⟨0, 3, k1, 0, ⟨#[]⟩, off, xx⟩ ⟨0, 3, k1, 0, ⟨#[]⟩, off, yy⟩ ⟨0, 3, k1, 0, ⟨#[]⟩, off, zz⟩) := Lib.hid ⟨H16.out, HM16.out, HN16.out, HB16.out⟩
      clear H16 HM14 HM15 HM16 HN15 HN16 HB16
      have HXd := Lib.hid (HX0.out.keep ((Only.refl _ w16).drew))
      have HXad := Lib.hid (HX0.out.keep (((Only.refl _ w16).alloc (.cells #[.string ⟨#[]⟩, .bool false, .string ⟨#[]⟩, .int .u64 0, .bool false, .string ⟨#[]⟩] 26)).drew))
      have HQad := Lib.hid (qkeep ((Only.refl _ _).drew) (hasE_new w16 ⟨⟨#[]⟩, false, ⟨#[]⟩, 0, false, ⟨#[]⟩⟩))
      go_cut [17] (fun v wx => GxCut w pm pn pb ⟨k1, h1, v1, x1, n1, nv1⟩ ⟨0, 3, k1, 0, ⟨#[]⟩, off, xx⟩ ⟨0, 3, k1, 0, ⟨#[]⟩, off, yy⟩ ⟨0, 3, k1, 0, ⟨#[]⟩, off, zz⟩ ⟨ka, ha, va, xa, na, nva⟩ v wx)
      case first =>
        go_region_held3 (fun w' => w'.cell? ⟨w.heap.size, 0, none⟩ = some (.string k1) ∧ w'.cell? ⟨w.heap.size, 1, none⟩ = some (.bool h1) ∧ w'.cell? ⟨w.heap.size, 2, none⟩ = some (.string v1) ∧ w'.cell? ⟨w.heap.size, 3, none⟩ = some (.int .u64 x1) ∧ w'.cell? ⟨w.heap.size, 4, none⟩ = some (.bool n1) ∧ w'.cell? ⟨w.heap.size, 5, none⟩ = some (.string nv1) ∧ w'.cell? ⟨pm, 0, none⟩ = some (.int .u64 0) ∧ w'.cell? ⟨pm, 1, none⟩ = some (.int .i64 3) ∧ w'.cell? ⟨pm, 2, none⟩ = some (.string k1) ∧ w'.cell? ⟨pm, 3, none⟩ = some (.int .u64 0) ∧ w'.cell? ⟨pm, 4, none⟩ = some (.string ⟨#[]⟩) ∧ w'.cell? ⟨pm, 5, none⟩ = some (.int .i64 off) ∧ w'.cell? ⟨pm, 6, none⟩ = some (.int .u64 xx) ∧ w'.cell? ⟨pn, 0, none⟩ = some (.int .u64 0) ∧ w'.cell? ⟨pn, 1, none⟩ = some (.int .i64 3) ∧ w'.cell? ⟨pn, 2, none⟩ = some (.string k1) ∧ w'.cell? ⟨pn, 3, none⟩ = some (.int .u64 0) ∧ w'.cell? ⟨pn, 4, none⟩ = some (.string ⟨#[]⟩) ∧ w'.cell? ⟨pn, 5, none⟩ = some (.int .i64 off) ∧ w'.cell? ⟨pn, 6, none⟩ = some (.int .u64 yy))
          (first
            | (with_reducible exact ⟨(blk6 (HZ2.out).l.e).1.1, (blk6 (HZ2.out).l.e).1.2.1, (blk6 (HZ2.out).l.e).1.2.2.1, (blk6 (HZ2.out).l.e).1.2.2.2.1, (blk6 (HZ2.out).l.e).1.2.2.2.2.1, (blk6 (HZ2.out).l.e).1.2.2.2.2.2, (blk7 (HZ2.out).m).1, (blk7 (HZ2.out).m).2.1, (blk7 (HZ2.out).m).2.2.1, (blk7 (HZ2.out).m).2.2.2.1, (blk7 (HZ2.out).m).2.2.2.2.1, (blk7 (HZ2.out).m).2.2.2.2.2.1, (blk7 (HZ2.out).m).2.2.2.2.2.2, (blk7 (HZ2.out).n).1, (blk7 (HZ2.out).n).2.1, (blk7 (HZ2.out).n).2.2.1, (blk7 (HZ2.out).n).2.2.2.1, (blk7 (HZ2.out).n).2.2.2.2.1, (blk7 (HZ2.out).n).2.2.2.2.2.1, (blk7 (HZ2.out).n).2.2.2.2.2.2⟩)
            | (with_reducible exact ⟨(blk6 (HY2.out).l.e).1.1, (blk6 (HY2.out).l.e).1.2.1, (blk6 (HY2.out).l.e).1.2.2.1, (blk6 (HY2.out).l.e).1.2.2.2.1, (blk6 (HY2.out).l.e).1.2.2.2.2.1, (blk6 (HY2.out).l.e).1.2.2.2.2.2, (blk7 (HY2.out).m).1, (blk7 (HY2.out).m).2.1, (blk7 (HY2.out).m).2.2.1, (blk7 (HY2.out).m).2.2.2.1, (blk7 (HY2.out).m).2.2.2.2.1, (blk7 (HY2.out).m).2.2.2.2.2.1, (blk7 (HY2.out).m).2.2.2.2.2.2, (blk7 (HY2.out).n).1, (blk7 (HY2.out).n).2.1, (blk7 (HY2.out).n).2.2.1, (blk7 (HY2.out).n).2.2.2.1, (blk7 (HY2.out).n).2.2.2.2.1, (blk7 (HY2.out).n).2.2.2.2.2.1, (blk7 (HY2.out).n).2.2.2.2.2.2⟩)
            | (with_reducible exact ⟨(blk6 (HX2.out).l.e).1.1, (blk6 (HX2.out).l.e).1.2.1, (blk6 (HX2.out).l.e).1.2.2.1, (blk6 (HX2.out).l.e).1.2.2.2.1, (blk6 (HX2.out).l.e).1.2.2.2.2.1, (blk6 (HX2.out).l.e).1.2.2.2.2.2, (blk7 (HX2.out).m).1, (blk7 (HX2.out).m).2.1, (blk7 (HX2.out).m).2.2.1, (blk7 (HX2.out).m).2.2.2.1, (blk7 (HX2.out).m).2.2.2.2.1, (blk7 (HX2.out).m).2.2.2.2.2.1, (blk7 (HX2.out).m).2.2.2.2.2.2, (blk7 (HX2.out).n).1, (blk7 (HX2.out).n).2.1, (blk7 (HX2.out).n).2.2.1, (blk7 (HX2.out).n).2.2.2.1, (blk7 (HX2.out).n).2.2.2.2.1, (blk7 (HX2.out).n).2.2.2.2.2.1, (blk7 (HX2.out).n).2.2.2.2.2.2⟩)
            | (with_reducible exact ⟨(blk6 (HY1.out).l.e).1.1, (blk6 (HY1.out).l.e).1.2.1, (blk6 (HY1.out).l.e).1.2.2.1, (blk6 (HY1.out).l.e).1.2.2.2.1, (blk6 (HY1.out).l.e).1.2.2.2.2.1, (blk6 (HY1.out).l.e).1.2.2.2.2.2, (blk7 (HY1.out).m).1, (blk7 (HY1.out).m).2.1, (blk7 (HY1.out).m).2.2.1, (blk7 (HY1.out).m).2.2.2.1, (blk7 (HY1.out).m).2.2.2.2.1, (blk7 (HY1.out).m).2.2.2.2.2.1, (blk7 (HY1.out).m).2.2.2.2.2.2, (blk7 (HY1.out).n).1, (blk7 (HY1.out).n).2.1, (blk7 (HY1.out).n).2.2.1, (blk7 (HY1.out).n).2.2.2.1, (blk7 (HY1.out).n).2.2.2.2.1, (blk7 (HY1.out).n).2.2.2.2.2.1, (blk7 (HY1.out).n).2.2.2.2.2.2⟩)
            | (with_reducible exact ⟨(blk6 (HX1.out).l.e).1.1, (blk6 (HX1.out).l.e).1.2.1, (blk6 (HX1.out).l.e).1.2.2.1, (blk6 (HX1.out).l.e).1.2.2.2.1, (blk6 (HX1.out).l.e).1.2.2.2.2.1, (blk6 (HX1.out).l.e).1.2.2.2.2.2, (blk7 (HX1.out).m).1, (blk7 (HX1.out).m).2.1, (blk7 (HX1.out).m).2.2.1, (blk7 (HX1.out).m).2.2.2.1, (blk7 (HX1.out).m).2.2.2.2.1, (blk7 (HX1.out).m).2.2.2.2.2.1, (blk7 (HX1.out).m).2.2.2.2.2.2, (blk7 (HX1.out).n).1, (blk7 (HX1.out).n).2.1, (blk7 (HX1.out).n).2.2.1, (blk7 (HX1.out).n).2.2.2.1, (blk7 (HX1.out).n).2.2.2.2.1, (blk7 (HX1.out).n).2.2.2.2.2.1, (blk7 (HX1.out).n).2.2.2.2.2.2⟩)
            | (with_reducible exact ⟨(blk6 HXad.out.l.e).1.1, (blk6 HXad.out.l.e).1.2.1, (blk6 HXad.out.l.e).1.2.2.1, (blk6 HXad.out.l.e).1.2.2.2.1, (blk6 HXad.out.l.e).1.2.2.2.2.1, (blk6 HXad.out.l.e).1.2.2.2.2.2, (blk7 HXad.out.m).1, (blk7 HXad.out.m).2.1, (blk7 HXad.out.m).2.2.1, (blk7 HXad.out.m).2.2.2.1, (blk7 HXad.out.m).2.2.2.2.1, (blk7 HXad.out.m).2.2.2.2.2.1, (blk7 HXad.out.m).2.2.2.2.2.2, (blk7 HXad.out.n).1, (blk7 HXad.out.n).2.1, (blk7 HXad.out.n).2.2.1, (blk7 HXad.out.n).2.2.2.1, (blk7 HXad.out.n).2.2.2.2.1, (blk7 HXad.out.n).2.2.2.2.2.1, (blk7 HXad.out.n).2.2.2.2.2.2⟩)
            | (with_reducible exact ⟨(blk6 HXd.out.l.e).1.1, (blk6 HXd.out.l.e).1.2.1, (blk6 HXd.out.l.e).1.2.2.1, (blk6 HXd.out.l.e).1.2.2.2.1, (blk6 HXd.out.l.e).1.2.2.2.2.1, (blk6 HXd.out.l.e).1.2.2.2.2.2, (blk7 HXd.out.m).1, (blk7 HXd.out.m).2.1, (blk7 HXd.out.m).2.2.1, (blk7 HXd.out.m).2.2.2.1, (blk7 HXd.out.m).2.2.2.2.1, (blk7 HXd.out.m).2.2.2.2.2.1, (blk7 HXd.out.m).2.2.2.2.2.2, (blk7 HXd.out.n).1, (blk7 HXd.out.n).2.1, (blk7 HXd.out.n).2.2.1, (blk7 HXd.out.n).2.2.2.1, (blk7 HXd.out.n).2.2.2.2.1, (blk7 HXd.out.n).2.2.2.2.2.1, (blk7 HXd.out.n).2.2.2.2.2.2⟩)
            | (with_reducible exact ⟨(blk6 (HX2.out.keep ((Only.refl _ _).alloc _)).l.e).1.1, (blk6 (HX2.out.keep ((Only.refl _ _).alloc _)).l.e).1.2.1, (blk6 (HX2.out.keep ((Only.refl _ _).alloc _)).l.e).1.2.2.1, (blk6 (HX2.out.keep ((Only.refl _ _).alloc _)).l.e).1.2.2.2.1, (blk6 (HX2.out.keep ((Only.refl _ _).alloc _)).l.e).1.2.2.2.2.1, (blk6 (HX2.out.keep ((Only.refl _ _).alloc _)).l.e).1.2.2.2.2.2, (blk7 (HX2.out.keep ((Only.refl _ _).alloc _)).m).1, (blk7 (HX2.out.keep ((Only.refl _ _).alloc _)).m).2.1, (blk7 (HX2.out.keep ((Only.refl _ _).alloc _)).m).2.2.1, (blk7 (HX2.out.keep ((Only.refl _ _).alloc _)).m).2.2.2.1, (blk7 (HX2.out.keep ((Only.refl _ _).alloc _)).m).2.2.2.2.1, (blk7 (HX2.out.keep ((Only.refl _ _).alloc _)).m).2.2.2.2.2.1, (blk7 (HX2.out.keep ((Only.refl _ _).alloc _)).m).2.2.2.2.2.2, (blk7 (HX2.out.keep ((Only.refl _ _).alloc _)).n).1, (blk7 (HX2.out.keep ((Only.refl _ _).alloc _)).n).2.1, (blk7 (HX2.out.keep ((Only.refl _ _).alloc _)).n).2.2.1, (blk7 (HX2.out.keep ((Only.refl _ _).alloc _)).n).2.2.2.1, (blk7 (HX2.out.keep ((Only.refl _ _).alloc _)).n).2.2.2.2.1, (blk7 (HX2.out.keep ((Only.refl _ _).alloc _)).n).2.2.2.2.2.1, (blk7 (HX2.out.keep ((Only.refl _ _).alloc _)).n).2.2.2.2.2.2⟩)
            | (with_reducible exact ⟨(blk6 (HX1.out.keep ((Only.refl _ _).alloc _)).l.e).1.1, (blk6 (HX1.out.keep ((Only.refl _ _).alloc _)).l.e).1.2.1, (blk6 (HX1.out.keep ((Only.refl _ _).alloc _)).l.e).1.2.2.1, (blk6 (HX1.out.keep ((Only.refl _ _).alloc _)).l.e).1.2.2.2.1, (blk6 (HX1.out.keep ((Only.refl _ _).alloc _)).l.e).1.2.2.2.2.1, (blk6 (HX1.out.keep ((Only.refl _ _).alloc _)).l.e).1.2.2.2.2.2, (blk7 (HX1.out.keep ((Only.refl _ _).alloc _)).m).1, (blk7 (HX1.out.keep ((Only.refl _ _).alloc _)).m).2.1, (blk7 (HX1.out.keep ((Only.refl _ _).alloc _)).m).2.2.1, (blk7 (HX1.out.keep ((Only.refl _ _).alloc _)).m).2.2.2.1, (blk7 (HX1.out.keep ((Only.refl _ _).alloc _)).m).2.2.2.2.1, (blk7 (HX1.out.keep ((Only.refl _ _).alloc _)).m).2.2.2.2.2.1, (blk7 (HX1.out.keep ((Only.refl _ _).alloc _)).m).2.2.2.2.2.2, (blk7 (HX1.out.keep ((Only.refl _ _).alloc _)).n).1, (blk7 (HX1.out.keep ((Only.refl _ _).alloc _)).n).2.1, (blk7 (HX1.out.keep ((Only.refl _ _).alloc _)).n).2.2.1, (blk7 (HX1.out.keep ((Only.refl _ _).alloc _)).n).2.2.2.1, (blk7 (HX1.out.keep ((Only.refl _ _).alloc _)).n).2.2.2.2.1, (blk7 (HX1.out.keep ((Only.refl _ _).alloc _)).n).2.2.2.2.2.1, (blk7 (HX1.out.keep ((Only.refl _ _).alloc _)).n).2.2.2.2.2.2⟩)
            | (with_reducible exact ⟨(blk6 HSt3.out.l.e).1.1, (blk6 HSt3.out.l.e).1.2.1, (blk6 HSt3.out.l.e).1.2.2.1, (blk6 HSt3.out.l.e).1.2.2.2.1, (blk6 HSt3.out.l.e).1.2.2.2.2.1, (blk6 HSt3.out.l.e).1.2.2.2.2.2, (blk7 HSt3.out.m).1, (blk7 HSt3.out.m).2.1, (blk7 HSt3.out.m).2.2.1, (blk7 HSt3.out.m).2.2.2.1, (blk7 HSt3.out.m).2.2.2.2.1, (blk7 HSt3.out.m).2.2.2.2.2.1, (blk7 HSt3.out.m).2.2.2.2.2.2, (blk7 HSt3.out.n).1, (blk7 HSt3.out.n).2.1, (blk7 HSt3.out.n).2.2.1, (blk7 HSt3.out.n).2.2.2.1, (blk7 HSt3.out.n).2.2.2.2.1, (blk7 HSt3.out.n).2.2.2.2.2.1, (blk7 HSt3.out.n).2.2.2.2.2.2⟩)
            | (with_reducible exact ⟨(blk6 HSt2.out.l.e).1.1, (blk6 HSt2.out.l.e).1.2.1, (blk6 HSt2.out.l.e).1.2.2.1, (blk6 HSt2.out.l.e).1.2.2.2.1, (blk6 HSt2.out.l.e).1.2.2.2.2.1, (blk6 HSt2.out.l.e).1.2.2.2.2.2, (blk7 HSt2.out.m).1, (blk7 HSt2.out.m).2.1, (blk7 HSt2.out.m).2.2.1, (blk7 HSt2.out.m).2.2.2.1, (blk7 HSt2.out.m).2.2.2.2.1, (blk7 HSt2.out.m).2.2.2.2.2.1, (blk7 HSt2.out.m).2.2.2.2.2.2, (blk7 HSt2.out.n).1, (blk7 HSt2.out.n).2.1, (blk7 HSt2.out.n).2.2.1, (blk7 HSt2.out.n).2.2.2.1, (blk7 HSt2.out.n).2.2.2.2.1, (blk7 HSt2.out.n).2.2.2.2.2.1, (blk7 HSt2.out.n).2.2.2.2.2.2⟩))
          (first
            | (go_at_call 9; (with_reducible refine (DM.out _).mono ?_); rintro r w17 ⟨rfl, hb⟩; (with_reducible have HX1 := Lib.hid (HXd.out.keep (below_quiet hb))); clear hb)
            | (go_at_call 9; (with_reducible refine (DM.out _).mono ?_); rintro r w17 ⟨rfl, hb⟩; (with_reducible have HY1 := Lib.hid (HXad.out.keep (below_quiet hb))); have HQ1 := Lib.hid (qkeep (below_quiet hb) HQad.out); clear hb)
            | (go_at_call 9; (with_reducible refine (DMN.out _).mono ?_); rintro r w18 ⟨rfl, hb⟩; (with_reducible have HX2 := Lib.hid (HX1.out.keep (below_quiet hb))); clear hb)
            | (go_at_call 9; (with_reducible refine (DMN.out _).mono ?_); rintro r w18 ⟨rfl, hb⟩; (with_reducible have HZ2 := Lib.hid ((HX1.out.keep ((Only.refl _ _).alloc (.cells #[.string ⟨#[]⟩, .bool false, .string ⟨#[]⟩, .int .u64 0, .bool false, .string ⟨#[]⟩] 26))).keep (below_quiet hb))); have HQ2 := Lib.hid (qkeep (below_quiet hb) (hasE_new w17 ⟨⟨#[]⟩, false, ⟨#[]⟩, 0, false, ⟨#[]⟩⟩)); have HSt2 := Lib.hid (GxAt.store (z := ⟨⟨#[]⟩, false, ⟨#[]⟩, 0, false, ⟨#[]⟩⟩) HZ2.out HQ2.out (by have := HX1.out.l.only.size; exact this) (by have := lt_of_some HX1.out.l.e; omega) (by have := lt_of_some HX1.out.m; omega) (by have := lt_of_some HX1.out.n; omega) (by have := lt_of_some HX1.out.b; omega) ⟨ka, ha, va, xa, na, nva⟩); obtain ⟨⟨q0, q1, q2, q3, q4, q5⟩, l0, l1, l2, l3, l4, l5⟩ := blk6 HQ2.out; clear hb)
            | (go_at_call 9; (with_reducible refine (DMN.out _).mono ?_); rintro r w18 ⟨rfl, hb⟩; (with_reducible have HY2 := Lib.hid (HY1.out.keep (below_quiet hb))); have HQ3 := Lib.hid (qkeep (below_quiet hb) HQ1.out); have HSt3 := Lib.hid (GxAt.store (z := ⟨⟨#[]⟩, false, ⟨#[]⟩, 0, false, ⟨#[]⟩⟩) HY2.out HQ3.out (by have := HX0.out.l.only.size; exact this) (by have := lt_of_some HX0.out.l.e; omega) (by have := lt_of_some HX0.out.m; omega) (by have := lt_of_some HX0.out.n; omega) (by have := lt_of_some HX0.out.b; omega) ⟨ka, ha, va, xa, na, nva⟩); obtain ⟨⟨q0, q1, q2, q3, q4, q5⟩, l0, l1, l2, l3, l4, l5⟩ := blk6 HQ3.out; clear hb))
        · have HE : Hid (GxCut w pm pn pb ⟨k1, h1, v1, x1, n1, nv1⟩ ⟨0, 3, k1, 0, ⟨#[]⟩, off, xx⟩ ⟨0, 3, k1, 0, ⟨#[]⟩, off, yy⟩ ⟨0, 3, k1, 0, ⟨#[]⟩, off, zz⟩ ⟨ka, ha, va, xa, na, nva⟩ (.pointer (some ⟨w18.heap.size, 0, none⟩)) _) := Lib.hid ⟨_, rfl, HX2.out.keep ((Only.refl _ _).alloc _), hasE_new w18 ⟨ka, ha, va, xa, na, nva⟩⟩
          go_wp2_with fail
          go_meet
          exact HE.out
        · have HE : Hid (GxCut w pm pn pb ⟨k1, h1, v1, x1, n1, nv1⟩ ⟨0, 3, k1, 0, ⟨#[]⟩, off, xx⟩ ⟨0, 3, k1, 0, ⟨#[]⟩, off, yy⟩ ⟨0, 3, k1, 0, ⟨#[]⟩, off, zz⟩ ⟨ka, ha, va, xa, na, nva⟩ (.pointer (some ⟨w17.heap.size, 0, none⟩)) _) := Lib.hid ⟨_, rfl, HSt2.out, hasE_set (e := ⟨⟨#[]⟩, false, ⟨#[]⟩, 0, false, ⟨#[]⟩⟩) HQ2.out ⟨ka, ha, va, xa, na, nva⟩⟩
          go_wp2_with fail
          go_meet
          exact HE.out
        · have HE : Hid (GxCut w pm pn pb ⟨k1, h1, v1, x1, n1, nv1⟩ ⟨0, 3, k1, 0, ⟨#[]⟩, off, xx⟩ ⟨0, 3, k1, 0, ⟨#[]⟩, off, yy⟩ ⟨0, 3, k1, 0, ⟨#[]⟩, off, zz⟩ ⟨ka, ha, va, xa, na, nva⟩ (.pointer (some ⟨w16.heap.size, 0, none⟩)) _) := Lib.hid ⟨_, rfl, HSt3.out, hasE_set (e := ⟨⟨#[]⟩, false, ⟨#[]⟩, 0, false, ⟨#[]⟩⟩) HQ3.out ⟨ka, ha, va, xa, na, nva⟩⟩
          go_wp2_with fail
          go_meet
          exact HE.out
      case rest =>
        clear HX0 HXd HXad HQad DM DMN
        obtain ⟨q, rfl, hH, hQ⟩ := hcut
        have HX3 := Lib.hid hH
        have HQ3 := Lib.hid hQ
        clear hH hQ
        have HX3d := Lib.hid (HX3.out.keep ((Only.refl _ _).drew))
        have HQ3d := Lib.hid (qkeep ((Only.refl _ _).drew) HQ3.out)
        go_upto_region 15 with fail
        go_region_held3 (fun w' => w'.cell? ⟨w.heap.size, 0, none⟩ = some (.string k1) ∧ w'.cell? ⟨w.heap.size, 1, none⟩ = some (.bool h1) ∧ w'.cell? ⟨w.heap.size, 2, none⟩ = some (.string v1) ∧ w'.cell? ⟨w.heap.size, 3, none⟩ = some (.int .u64 x1) ∧ w'.cell? ⟨w.heap.size, 4, none⟩ = some (.bool n1) ∧ w'.cell? ⟨w.heap.size, 5, none⟩ = some (.string nv1) ∧ w'.cell? ⟨pm, 0, none⟩ = some (.int .u64 0) ∧ w'.cell? ⟨pm, 1, none⟩ = some (.int .i64 3) ∧ w'.cell? ⟨pm, 2, none⟩ = some (.string k1) ∧ w'.cell? ⟨pm, 3, none⟩ = some (.int .u64 0) ∧ w'.cell? ⟨pm, 4, none⟩ = some (.string ⟨#[]⟩) ∧ w'.cell? ⟨pm, 5, none⟩ = some (.int .i64 off) ∧ w'.cell? ⟨pm, 6, none⟩ = some (.int .u64 xx) ∧ w'.cell? ⟨pn, 0, none⟩ = some (.int .u64 0) ∧ w'.cell? ⟨pn, 1, none⟩ = some (.int .i64 3) ∧ w'.cell? ⟨pn, 2, none⟩ = some (.string k1) ∧ w'.cell? ⟨pn, 3, none⟩ = some (.int .u64 0) ∧ w'.cell? ⟨pn, 4, none⟩ = some (.string ⟨#[]⟩) ∧ w'.cell? ⟨pn, 5, none⟩ = some (.int .i64 off) ∧ w'.cell? ⟨pn, 6, none⟩ = some (.int .u64 yy) ∧ w'.cell? ⟨pb, 0, none⟩ = some (.int .u64 0) ∧ w'.cell? ⟨pb, 1, none⟩ = some (.int .i64 3) ∧ w'.cell? ⟨pb, 2, none⟩ = some (.string k1) ∧ w'.cell? ⟨pb, 3, none⟩ = some (.int .u64 0) ∧ w'.cell? ⟨pb, 4, none⟩ = some (.string ⟨#[]⟩) ∧ w'.cell? ⟨pb, 5, none⟩ = some (.int .i64 off) ∧ w'.cell? ⟨pb, 6, none⟩ = some (.int .u64 zz) ∧ w'.cell? ⟨q, 0, none⟩ = some (.string ka) ∧ w'.cell? ⟨q, 1, none⟩ = some (.bool ha) ∧ w'.cell? ⟨q, 2, none⟩ = some (.string va) ∧ w'.cell? ⟨q, 3, none⟩ = some (.int .u64 xa) ∧ w'.cell? ⟨q, 4, none⟩ = some (.bool na) ∧ w'.cell? ⟨q, 5, none⟩ = some (.string nva))
          (first
            | (with_reducible exact ⟨(blk6 HX6.out.l.e).1.1, (blk6 HX6.out.l.e).1.2.1, (blk6 HX6.out.l.e).1.2.2.1, (blk6 HX6.out.l.e).1.2.2.2.1, (blk6 HX6.out.l.e).1.2.2.2.2.1, (blk6 HX6.out.l.e).1.2.2.2.2.2, (blk7 HX6.out.m).1, (blk7 HX6.out.m).2.1, (blk7 HX6.out.m).2.2.1, (blk7 HX6.out.m).2.2.2.1, (blk7 HX6.out.m).2.2.2.2.1, (blk7 HX6.out.m).2.2.2.2.2.1, (blk7 HX6.out.m).2.2.2.2.2.2, (blk7 HX6.out.n).1, (blk7 HX6.out.n).2.1, (blk7 HX6.out.n).2.2.1, (blk7 HX6.out.n).2.2.2.1, (blk7 HX6.out.n).2.2.2.2.1, (blk7 HX6.out.n).2.2.2.2.2.1, (blk7 HX6.out.n).2.2.2.2.2.2, (blk7 HX6.out.b).1, (blk7 HX6.out.b).2.1, (blk7 HX6.out.b).2.2.1, (blk7 HX6.out.b).2.2.2.1, (blk7 HX6.out.b).2.2.2.2.1, (blk7 HX6.out.b).2.2.2.2.2.1, (blk7 HX6.out.b).2.2.2.2.2.2, (blk6 HQ6.out).1.1, (blk6 HQ6.out).1.2.1, (blk6 HQ6.out).1.2.2.1, (blk6 HQ6.out).1.2.2.2.1, (blk6 HQ6.out).1.2.2.2.2.1, (blk6 HQ6.out).1.2.2.2.2.2⟩)
            | (with_reducible exact ⟨(blk6 HX5.out.l.e).1.1, (blk6 HX5.out.l.e).1.2.1, (blk6 HX5.out.l.e).1.2.2.1, (blk6 HX5.out.l.e).1.2.2.2.1, (blk6 HX5.out.l.e).1.2.2.2.2.1, (blk6 HX5.out.l.e).1.2.2.2.2.2, (blk7 HX5.out.m).1, (blk7 HX5.out.m).2.1, (blk7 HX5.out.m).2.2.1, (blk7 HX5.out.m).2.2.2.1, (blk7 HX5.out.m).2.2.2.2.1, (blk7 HX5.out.m).2.2.2.2.2.1, (blk7 HX5.out.m).2.2.2.2.2.2, (blk7 HX5.out.n).1, (blk7 HX5.out.n).2.1, (blk7 HX5.out.n).2.2.1, (blk7 HX5.out.n).2.2.2.1, (blk7 HX5.out.n).2.2.2.2.1, (blk7 HX5.out.n).2.2.2.2.2.1, (blk7 HX5.out.n).2.2.2.2.2.2, (blk7 HX5.out.b).1, (blk7 HX5.out.b).2.1, (blk7 HX5.out.b).2.2.1, (blk7 HX5.out.b).2.2.2.1, (blk7 HX5.out.b).2.2.2.2.1, (blk7 HX5.out.b).2.2.2.2.2.1, (blk7 HX5.out.b).2.2.2.2.2.2, (blk6 HQ5.out).1.1, (blk6 HQ5.out).1.2.1, (blk6 HQ5.out).1.2.2.1, (blk6 HQ5.out).1.2.2.2.1, (blk6 HQ5.out).1.2.2.2.2.1, (blk6 HQ5.out).1.2.2.2.2.2⟩)
            | (with_reducible exact ⟨(blk6 HX4.out.l.e).1.1, (blk6 HX4.out.l.e).1.2.1, (blk6 HX4.out.l.e).1.2.2.1, (blk6 HX4.out.l.e).1.2.2.2.1, (blk6 HX4.out.l.e).1.2.2.2.2.1, (blk6 HX4.out.l.e).1.2.2.2.2.2, (blk7 HX4.out.m).1, (blk7 HX4.out.m).2.1, (blk7 HX4.out.m).2.2.1, (blk7 HX4.out.m).2.2.2.1, (blk7 HX4.out.m).2.2.2.2.1, (blk7 HX4.out.m).2.2.2.2.2.1, (blk7 HX4.out.m).2.2.2.2.2.2, (blk7 HX4.out.n).1, (blk7 HX4.out.n).2.1, (blk7 HX4.out.n).2.2.1, (blk7 HX4.out.n).2.2.2.1, (blk7 HX4.out.n).2.2.2.2.1, (blk7 HX4.out.n).2.2.2.2.2.1, (blk7 HX4.out.n).2.2.2.2.2.2, (blk7 HX4.out.b).1, (blk7 HX4.out.b).2.1, (blk7 HX4.out.b).2.2.1, (blk7 HX4.out.b).2.2.2.1, (blk7 HX4.out.b).2.2.2.2.1, (blk7 HX4.out.b).2.2.2.2.2.1, (blk7 HX4.out.b).2.2.2.2.2.2, (blk6 HQ4.out).1.1, (blk6 HQ4.out).1.2.1, (blk6 HQ4.out).1.2.2.1, (blk6 HQ4.out).1.2.2.2.1, (blk6 HQ4.out).1.2.2.2.2.1, (blk6 HQ4.out).1.2.2.2.2.2⟩)
            | (with_reducible exact ⟨(blk6 HX3d.out.l.e).1.1, (blk6 HX3d.out.l.e).1.2.1, (blk6 HX3d.out.l.e).1.2.2.1, (blk6 HX3d.out.l.e).1.2.2.2.1, (blk6 HX3d.out.l.e).1.2.2.2.2.1, (blk6 HX3d.out.l.e).1.2.2.2.2.2, (blk7 HX3d.out.m).1, (blk7 HX3d.out.m).2.1, (blk7 HX3d.out.m).2.2.1, (blk7 HX3d.out.m).2.2.2.1, (blk7 HX3d.out.m).2.2.2.2.1, (blk7 HX3d.out.m).2.2.2.2.2.1, (blk7 HX3d.out.m).2.2.2.2.2.2, (blk7 HX3d.out.n).1, (blk7 HX3d.out.n).2.1, (blk7 HX3d.out.n).2.2.1, (blk7 HX3d.out.n).2.2.2.1, (blk7 HX3d.out.n).2.2.2.2.1, (blk7 HX3d.out.n).2.2.2.2.2.1, (blk7 HX3d.out.n).2.2.2.2.2.2, (blk7 HX3d.out.b).1, (blk7 HX3d.out.b).2.1, (blk7 HX3d.out.b).2.2.1, (blk7 HX3d.out.b).2.2.2.1, (blk7 HX3d.out.b).2.2.2.2.1, (blk7 HX3d.out.b).2.2.2.2.2.1, (blk7 HX3d.out.b).2.2.2.2.2.2, (blk6 HQ3d.out).1.1, (blk6 HQ3d.out).1.2.1, (blk6 HQ3d.out).1.2.2.1, (blk6 HQ3d.out).1.2.2.2.1, (blk6 HQ3d.out).1.2.2.2.2.1, (blk6 HQ3d.out).1.2.2.2.2.2⟩))
          (first
            | (go_at_call 9; (with_reducible refine (DN.out _).mono ?_); rintro r w19 ⟨rfl, hb⟩; (with_reducible have HX4 := Lib.hid (HX3d.out.keep (below_quiet hb))); (with_reducible have HQ4 := Lib.hid (qkeep (below_quiet hb) HQ3d.out)); clear hb)
            | (go_at_call 9; (with_reducible refine (DNM.out _).mono ?_); rintro r w20 ⟨rfl, hb⟩; (with_reducible have HX5 := Lib.hid (HX4.out.keep (below_quiet hb))); (with_reducible have HQ5 := Lib.hid (qkeep (below_quiet hb) HQ4.out)); clear hb)
            | (go_at_call 9; (with_reducible refine (DB.out _).mono ?_); rintro r w21 ⟨rfl, hb⟩; (with_reducible have HX6 := Lib.hid (HX5.out.keep (below_quiet hb))); (with_reducible have HQ6 := Lib.hid (qkeep (below_quiet hb) HQ5.out)); clear hb))
        all_goals
          go_wp2_with fail
          go_ret
          exact ⟨rfl, only_b HX6.out.l.only⟩

end Go.Proofs.Ytlmpknhekoeecaa
