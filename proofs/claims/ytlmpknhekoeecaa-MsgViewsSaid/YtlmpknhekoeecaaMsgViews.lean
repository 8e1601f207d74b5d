/-
  MsgViews: its walk.
-/
import Derived.Test.YtlmpknhekoeecaaMsgB
namespace Go.Proofs.Ytlmpknhekoeecaa
open Go Go.RowKit
set_option linter.unusedVariables false
set_option linter.unusedSimpArgs false
set_option maxRecDepth 100000

set_option maxHeartbeats 4000000 in
theorem mviews_walk (e : En) (val : ByteArray) (txn : Int) (w : World) (he : EnOk e) (hv : val.size ≤ 140737488355328) :
    Calls Try.prog 6 #[env e, .string val, .int .u64 txn] w fun r w' => r = .returned (.bool true) ∧ Below w.heap.size w w' := by
  have HL := Lib.hid (LawAt.start w e)
  have HA := Lib.hid (fun W => apply_any e m0 W he m0_ok)
  have h1 := apply_ok e m0
  have s1 := apply_size he m0_ok
  obtain ⟨e1, hu⟩ : ∃ u, applyE e m0 = u := ⟨_, rfl⟩
  rw [hu] at HA h1 s1
  clear hu he
  have hm : MsOk ⟨0, 1, e1.k, 0, val, 0, 0⟩ := ⟨by show (0 : Int) ≤ 0; omega, by show (0 : Int) < _; omega, hv⟩
  have HV0 := Lib.hid (fun W => view_any e1 0 W s1)
  have HVT := Lib.hid (fun W => view_any e1 txn W s1)
  rw [view_com h1 (fun h => h.1 rfl)] at HV0
  have HG := Lib.hid (fun W => gone_any e1 W)
  have HP := Lib.hid (fun W => apply_any e1 ⟨0, 1, e1.k, 0, val, 0, 0⟩ W s1 hm)
  have hp : applyE e1 ⟨0, 1, e1.k, 0, val, 0, 0⟩ = ⟨e1.k, true, val, e1.x, e1.n, e1.nv⟩ := by
    unfold applyE
    rw [ok_st h1]
    rfl
  have hpo := apply_ok e1 ⟨0, 1, e1.k, 0, val, 0, 0⟩
  have hps := apply_size s1 hm
  rw [hp] at HP hpo hps
  have HPV := Lib.hid (fun W => view_any ⟨e1.k, true, val, e1.x, e1.n, e1.nv⟩ txn W hps)
  have HPG := Lib.hid (fun W => gone_any ⟨e1.k, true, val, e1.x, e1.n, e1.nv⟩ W)
  rw [show goneE ⟨e1.k, true, val, e1.x, e1.n, e1.nv⟩ = false from rfl] at HPG
  have HT : Hid ((txn ≠ 0 ∧ e1.x = txn) ∨ ¬ (txn ≠ 0 ∧ e1.x = txn)) := Lib.hid (Classical.em _)
  have HVA : Hid ((txn ≠ 0 ∧ e1.x = txn) → viewE e1 txn = ⟨e1.n, e1.nv⟩ ∧ viewE ⟨e1.k, true, val, e1.x, e1.n, e1.nv⟩ txn = ⟨e1.n, e1.nv⟩) := Lib.hid (fun h => ⟨view_own h1 h.1 h.2, view_own hpo h.1 h.2⟩)
  have HVB : Hid (¬ (txn ≠ 0 ∧ e1.x = txn) → viewE ⟨e1.k, true, val, e1.x, e1.n, e1.nv⟩ txn = ⟨true, val⟩) := Lib.hid (fun h => view_com hpo h)
  clear h1 s1 hm hp hpo hps hv
  obtain ⟨k, h, v, x, n, nv⟩ := e
  obtain ⟨k1, h1, v1, x1, n1, nv1⟩ := e1
  simp only at HT HVA HVB HV0 HVT HP HPV HPG HG
  have HGE : Hid (goneE ⟨k1, h1, v1, x1, n1, nv1⟩ = (!h1 && decide (x1 = 0))) := Lib.hid rfl
  go_enter Try.func6, Try.ntmps6
  go_wp2_with fail
  refine (mawake_any _).mono ?_
  rintro r w1 ⟨rfl, ha⟩
  have H1 := Lib.hid (HL.out.keep (below_quiet ha))
  clear ha HL
  obtain ⟨⟨z0, z1, z2, z3, z4, z5⟩, f0, f1, f2, f3, f4, f5⟩ := blk6 H1.out.e
  go_wp2_with fail
  refine (HA.out _).mono ?_
  rintro r w2 ⟨rfl, ha⟩
  have H2 := Lib.hid (H1.out.keep (below_quiet ha))
  have H3 := Lib.hid (H2.out.set ⟨k1, h1, v1, x1, n1, nv1⟩)
  clear ha H1 z0 z1 z2 z3 z4 z5 f0 f1 f2 f3 f4 f5
  obtain ⟨⟨z0, z1, z2, z3, z4, z5⟩, f0, f1, f2, f3, f4, f5⟩ := blk6 H2.out.e
  go_upto_region 4 with fail
  clear z0 z1 z2 z3 z4 z5 f0 f1 f2 f3 f4 f5 H2
  generalize World.setCell (World.setCell (World.setCell (World.setCell (World.setCell (World.setCell w2 _ _) _ _) _ _) _ _) _ _) _ _ = w3 at *
  obtain ⟨⟨z0, z1, z2, z3, z4, z5⟩, f0, f1, f2, f3, f4, f5⟩ := blk6 H3.out.e
  go_wp2_with fail
  refine (HV0.out _).mono ?_
  rintro r w4 ⟨rfl, ha⟩
  have H4 := Lib.hid (H3.out.keep (below_quiet ha))
  clear ha H3 z0 z1 z2 z3 z4 z5 f0 f1 f2 f3 f4 f5
  obtain ⟨⟨z0, z1, z2, z3, z4, z5⟩, f0, f1, f2, f3, f4, f5⟩ := blk6 H4.out.e
  clear z0 z1 z2 z3 z4 z5 f0 f1 f2 f3 f4 f5
  go_upto_region 5 with fail
  go_cut [45] (fun b wx => b = .bool false ∧ LawAt w wx ⟨k1, h1, v1, x1, n1, nv1⟩)
  case first =>
    obtain ⟨⟨z0, z1, z2, z3, z4, z5⟩, f0, f1, f2, f3, f4, f5⟩ := blk6 H4.out.e
    go_wp2_with fail
    refine (HG.out _).mono ?_
    rintro r w5 ⟨rfl, ha⟩
    rw [HGE.out]
    have H5 := Lib.hid (H4.out.keep (below_quiet ha))
    clear ha H4 z0 z1 z2 z3 z4 z5 f0 f1 f2 f3 f4 f5
    obtain ⟨⟨z0, z1, z2, z3, z4, z5⟩, f0, f1, f2, f3, f4, f5⟩ := blk6 H5.out.e
    cases h1
    all_goals
      go_wp2_with fail
      go_meet
      exact ⟨rfl, H5.out⟩
  case rest =>
    obtain ⟨rfl, hH⟩ := hcut
    clear H4 HG HGE HV0 HA
    have H5 : Hid (LawAt w _ ⟨k1, h1, v1, x1, n1, nv1⟩) := Lib.hid hH
    clear hH
    obtain ⟨⟨z0, z1, z2, z3, z4, z5⟩, f0, f1, f2, f3, f4, f5⟩ := blk6 H5.out.e
    go_wp2_with fail
    refine (HP.out _).mono ?_
    rintro r w6 ⟨rfl, ha⟩
    have H6 := Lib.hid (H5.out.keep (below_quiet ha))
    clear ha H5 z0 z1 z2 z3 z4 z5 f0 f1 f2 f3 f4 f5 HP
    go_upto_region 8 with fail
    have H7 := Lib.hid (H6.out.keep ((Only.refl _ _).alloc (.cells #[.string k1, .bool true, .string val, .int .u64 x1, .bool n1, .string nv1] 26)))
    have HP7 := Lib.hid (hasE_new w6 ⟨k1, true, val, x1, n1, nv1⟩)
    obtain ⟨p, hp⟩ : ∃ p, w6.heap.size = p := ⟨_, rfl⟩
    rw [hp] at HP7
    generalize w6.alloc (.cells #[.string k1, .bool true, .string val, .int .u64 x1, .bool n1, .string nv1] 26) = w7 at *
    rw [hp]
    clear hp H6
    obtain ⟨⟨p0, p1, p2, p3, p4, p5⟩, _⟩ := blk6 HP7.out
    go_wp2_with fail
    refine (HPV.out _).mono ?_
    rintro r w8 ⟨rfl, ha⟩
    have H8 := Lib.hid (H7.out.keep (below_quiet ha))
    have HP8 := Lib.hid (qkeep (below_quiet ha) HP7.out)
    clear ha H7 HP7 p0 p1 p2 p3 p4 p5 HPV
    obtain ⟨⟨z0, z1, z2, z3, z4, z5⟩, f0, f1, f2, f3, f4, f5⟩ := blk6 H8.out.e
    rcases HT.out with ht | ht
    · obtain ⟨e1, e2⟩ := HVA.out ht
      rw [e1] at HVT
      rw [e2]
      obtain ⟨t0, rfl⟩ := ht
      have ht0 : (x1 != 0) = true := by simpa using t0
      clear t0 e1 e2 HT HVA HVB
      go_wp2_with fail
      refine (HVT.out _).mono ?_
      rintro r w9 ⟨rfl, ha⟩
      have H9 := Lib.hid (H8.out.keep (below_quiet ha))
      clear ha H8 z0 z1 z2 z3 z4 z5 f0 f1 f2 f3 f4 f5
      have hbb : (nv1.toList == nv1.toList) = true := by simp
      go_wp2_with fail
      go_ret
      exact ⟨rfl, only_b H9.out.only⟩
    · rw [HVB.out ht]
      have ht2 : (txn != 0) = false ∨ (txn != 0) = true ∧ (txn == x1) = false := by
        by_cases h0 : txn = 0
        · exact .inl (by simpa using h0)
        · exact .inr ⟨by simpa using h0, by rw [beq_eq_false_iff_ne]; exact fun e => ht ⟨h0, e.symm⟩⟩
      clear ht HT HVA HVB
      obtain ⟨⟨q0, q1, q2, q3, q4, q5⟩, _⟩ := blk6 HP8.out
      have hbb : (val.toList == val.toList) = true := by simp
      rcases ht2 with ht2 | ⟨ht2, ht3⟩
      all_goals
        go_wp2_with fail
        refine (HPG.out _).mono ?_
        rintro r w9 ⟨rfl, ha⟩
        have H9 := Lib.hid (H8.out.keep (below_quiet ha))
        clear ha H8 z0 z1 z2 z3 z4 z5 f0 f1 f2 f3 f4 f5 q0 q1 q2 q3 q4 q5
        go_wp2_with fail
        go_ret
        exact ⟨rfl, only_b H9.out.only⟩

end Go.Proofs.Ytlmpknhekoeecaa
