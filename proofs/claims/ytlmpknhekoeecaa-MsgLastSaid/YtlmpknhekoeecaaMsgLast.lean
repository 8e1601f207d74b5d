/-
  MsgLast: its walk.
-/
import Derived.Test.YtlmpknhekoeecaaMsgB
namespace Go.Proofs.Ytlmpknhekoeecaa
open Go Go.RowKit
set_option linter.unusedVariables false
set_option linter.unusedSimpArgs false
set_option maxRecDepth 100000

theorem last_none {e : En} {val : ByteArray} {txn : Int} (h : e.Ok) (h0 : txn ≠ 0) (hx : e.x ≠ 0) (ht : e.x ≠ txn) : applyE e ⟨0, 1, e.k, txn, val, 0, 0⟩ = e := by
  have hs : e.st.after ⟨0, 1, e.k, txn, val, 0, 0⟩ = e.st := by
    rw [after123 (by simp) (by simp) (by simp)]
    unfold St.changed
    rw [if_neg (show ¬ (txn = 0) from h0), if_neg (fun e => e.elim hx ht)]
  unfold applyE
  rw [hs]
  exact h.symm
theorem last_put {e : En} {val : ByteArray} {txn : Int} (h : e.Ok) (hc : e.x = 0 ∨ (txn ≠ 0 ∧ e.x = txn)) :
    ∃ p d : En, applyE e ⟨0, 1, e.k, txn, val, 0, 0⟩ = p ∧ p.k = e.k ∧ applyE p ⟨0, 2, e.k, txn, ⟨#[]⟩, 0, 0⟩ = d ∧ d.k = e.k ∧ applyE d ⟨0, 2, e.k, txn, ⟨#[]⟩, 0, 0⟩ = d ∧ viewE p txn = ⟨true, val⟩ ∧ viewE d txn = Mv.no ∧ (txn = 0 ∨ p.h = e.h ∧ p.v = e.v ∧ p.x = txn) := by
  obtain ⟨p, hp⟩ : ∃ p, applyE e ⟨0, 1, e.k, txn, val, 0, 0⟩ = p := ⟨_, rfl⟩
  have po := apply_ok e ⟨0, 1, e.k, txn, val, 0, 0⟩
  rw [hp] at po
  obtain ⟨d, hd⟩ : ∃ d, applyE p ⟨0, 2, e.k, txn, ⟨#[]⟩, 0, 0⟩ = d := ⟨_, rfl⟩
  have do' := apply_ok p ⟨0, 2, e.k, txn, ⟨#[]⟩, 0, 0⟩
  rw [hd] at do'
  have pk : p.k = e.k := by rw [← hp]; rfl
  have dk : d.k = e.k := by rw [← hd, apply_k, pk]
  by_cases h0 : txn = 0
  · have p1 : p = ⟨e.k, true, val, e.x, e.n, e.nv⟩ := by
      rw [← hp]
      unfold applyE
      rw [ok_st h, after123 (by simp) (by simp) (by simp)]
      unfold St.changed
      rw [if_pos (show txn = 0 from h0)]
      rfl
    have d1 : d = ⟨e.k, false, ⟨#[]⟩, e.x, e.n, e.nv⟩ := by
      rw [← hd]
      unfold applyE
      rw [ok_st po, after123 (by simp) (by simp) (by simp)]
      unfold St.changed
      rw [if_pos (show txn = 0 from h0), p1]
      rfl
    refine ⟨p, d, hp, pk, hd, dk, ?_, ?_, ?_, .inl h0⟩
    · unfold applyE
      rw [ok_st do', after123 (by simp) (by simp) (by simp)]
      unfold St.changed
      rw [if_pos (show txn = 0 from h0), d1]
      rfl
    · rw [view_com po (fun k => k.1 h0), p1]
    · rw [view_com do' (fun k => k.1 h0), d1]
  · have hx : e.x = 0 ∨ e.x = txn := hc.imp id (fun k => k.2)
    have p1 : p = ⟨e.k, e.h, e.v, txn, true, val⟩ := by
      rw [← hp]
      unfold applyE
      rw [ok_st h, after123 (by simp) (by simp) (by simp)]
      unfold St.changed
      rw [if_neg (show ¬ (txn = 0) from h0), if_pos (show e.x = 0 ∨ e.x = txn from hx)]
      rfl
    have d1 : d = ⟨e.k, e.h, e.v, txn, false, ⟨#[]⟩⟩ := by
      rw [← hd]
      unfold applyE
      rw [ok_st po, after123 (by simp) (by simp) (by simp)]
      unfold St.changed
      rw [if_neg (show ¬ (txn = 0) from h0), p1, if_pos (show txn = 0 ∨ txn = txn from .inr rfl)]
      rfl
    refine ⟨p, d, hp, pk, hd, dk, ?_, ?_, ?_, .inr ⟨by rw [p1], by rw [p1], by rw [p1]⟩⟩
    · unfold applyE
      rw [ok_st do', after123 (by simp) (by simp) (by simp)]
      unfold St.changed
      rw [if_neg (show ¬ (txn = 0) from h0), d1, if_pos (show txn = 0 ∨ txn = txn from .inr rfl)]
      rfl
    · rw [view_own po h0 (by rw [p1]), p1]
    · rw [view_own do' h0 (by rw [d1]), d1]
theorem e6 {W : World} {p : Nat} {e : En} (h : HasE W p e) : W.cell? ⟨p, 0, none⟩ = some (.string e.k) ∧ W.cell? ⟨p, 1, none⟩ = some (.bool e.h) ∧ W.cell? ⟨p, 2, none⟩ = some (.string e.v) ∧ W.cell? ⟨p, 3, none⟩ = some (.int .u64 e.x) ∧ W.cell? ⟨p, 4, none⟩ = some (.bool e.n) ∧ W.cell? ⟨p, 5, none⟩ = some (.string e.nv) := (blk6 h).1

set_option maxHeartbeats 8000000 in
theorem mlast_walk (e : En) (txn : Int) (val : ByteArray) (w : World) (he : EnOk e) (hv : val.size ≤ 140737488355328) :
    Calls Try.prog 7 #[env e, .int .u64 txn, .string val] w fun r w' => r = .returned (.bool true) ∧ Below w.heap.size w w' := by
  have HL := Lib.hid (LawAt.start w e)
  have HA := Lib.hid (fun W => apply_any e m0 W he m0_ok)
  have h1 := apply_ok e m0
  have s1 := apply_size he m0_ok
  obtain ⟨e1, hu⟩ : ∃ u, applyE e m0 = u := ⟨_, rfl⟩
  rw [hu] at HA h1 s1
  clear hu he
  have hm : MsOk ⟨0, 1, e1.k, txn, val, 0, 0⟩ := ⟨by show (0 : Int) ≤ 0; omega, by show (0 : Int) < _; omega, hv⟩
  have hm2 : MsOk ⟨0, 2, e1.k, txn, ⟨#[]⟩, 0, 0⟩ := ⟨by show (0 : Int) ≤ 0; omega, by show (0 : Int) < _; omega, by show (0 : Nat) ≤ _; omega⟩
  have HP := Lib.hid (fun W => apply_any e1 ⟨0, 1, e1.k, txn, val, 0, 0⟩ W s1 hm)
  have HPS := Lib.hid (apply_size s1 hm)
  have HNO := Lib.hid (fun a b c => last_none (e := e1) (val := val) (txn := txn) h1 a b c)
  have HPD := Lib.hid (fun a => last_put (e := e1) (val := val) (txn := txn) h1 a)
  have HM2 := Lib.hid hm2
  clear h1 s1 hm hm2 hv
  obtain ⟨k, h, v, x, n, nv⟩ := e
  obtain ⟨k1, h1, v1, x1, n1, nv1⟩ := e1
  simp only at HP HPS HNO HPD HM2
  go_enter Try.func7, Try.ntmps7
  go_wp2_with fail
  refine (mawake_any _).mono ?_
  rintro r w1 ⟨rfl, ha⟩
  have H1 := Lib.hid (HL.out.keep (below_quiet ha))
  clear ha HL
  obtain ⟨⟨z0, z1, z2, z3, z4, z5⟩, f0, f1, f2, f3, f4, f5⟩ := blk6 H1.out.e
  go_wp2_with fail
  refine (HA.out _).mono ?_
  rintro r w2 ⟨rfl, ha⟩
  have H2 := Lib.hid (H1.out.keep (below_quiet ha))
  have H3 := Lib.hid (H2.out.set ⟨k1, h1, v1, x1, n1, nv1⟩)
  clear ha H1 HA z0 z1 z2 z3 z4 z5 f0 f1 f2 f3 f4 f5
  obtain ⟨⟨z0, z1, z2, z3, z4, z5⟩, f0, f1, f2, f3, f4, f5⟩ := blk6 H2.out.e
  go_upto_region 4 with fail
  clear z0 z1 z2 z3 z4 z5 f0 f1 f2 f3 f4 f5 H2
  generalize World.setCell (World.setCell (World.setCell (World.setCell (World.setCell (World.setCell w2 _ _) _ _) _ _) _ _) _ _) _ _ = w3 at *
  have hways : (x1 ≠ 0 ∧ txn = 0) ∨ (x1 ≠ 0 ∧ txn ≠ 0 ∧ x1 ≠ txn) ∨ (x1 = 0 ∨ (txn ≠ 0 ∧ x1 = txn)) := by omega
  rcases hways with ⟨a, b⟩ | ⟨a, b, c⟩ | hc
  · obtain ⟨⟨z0, z1, z2, z3, z4, z5⟩, f0, f1, f2, f3, f4, f5⟩ := blk6 H3.out.e
    have a' : (x1 != 0) = true := by simpa using a
    subst b
    clear a
    go_wp2_with fail
    go_quiet (fail)
    go_wp2_with fail
    go_ret
    exact ⟨rfl, only_b (H3.out.only.drewN _)⟩
  · obtain ⟨⟨z0, z1, z2, z3, z4, z5⟩, f0, f1, f2, f3, f4, f5⟩ := blk6 H3.out.e
    have a' : (x1 != 0) = true := by simpa using a
    have b' : (txn != 0) = true := by simpa using b
    have b2 : (txn == 0) = false := by simpa using b
    have c' : (x1 != txn) = true := by simpa using c
    rw [HNO.out b a c] at HP
    clear a b c
    go_upto_region 5 with fail
    have H3d := Lib.hid (H3.out.keep ((Only.refl _ _).drew))
    go_region_held3 (fun w' => w'.cell? ⟨w.heap.size, 0, none⟩ = some (.string k1) ∧ w'.cell? ⟨w.heap.size, 1, none⟩ = some (.bool h1) ∧ w'.cell? ⟨w.heap.size, 2, none⟩ = some (.string v1) ∧ w'.cell? ⟨w.heap.size, 3, none⟩ = some (.int .u64 x1) ∧ w'.cell? ⟨w.heap.size, 4, none⟩ = some (.bool n1) ∧ w'.cell? ⟨w.heap.size, 5, none⟩ = some (.string nv1))
      (first
        | (with_reducible exact e6 H4.out.e)
        | (with_reducible exact e6 H3d.out.e))
      (first
        | (go_at_call 9; (with_reducible refine (HP.out _).mono ?_); rintro r w4 ⟨rfl, ha⟩; (with_reducible have H4 := Lib.hid (H3d.out.keep (below_quiet ha))); clear ha))
    all_goals
      go_wp2_with fail
      go_ret
      exact ⟨rfl, only_b H4.out.only⟩
  · go_cut [39] (fun b wx => b = .bool false ∧ LawAt w wx ⟨k1, h1, v1, x1, n1, nv1⟩)
    case first =>
      obtain ⟨⟨z0, z1, z2, z3, z4, z5⟩, f0, f1, f2, f3, f4, f5⟩ := blk6 H3.out.e
      have hw : (x1 = 0 ∧ txn = 0) ∨ (x1 = 0 ∧ (txn == 0) = false) ∨ ((x1 != 0) = true ∧ (txn != 0) = true ∧ (txn == 0) = false ∧ x1 = txn) := by
        by_cases a : x1 = 0
        · by_cases b : txn = 0
          · exact .inl ⟨a, b⟩
          · exact .inr (.inl ⟨a, by simpa using b⟩)
        · obtain ⟨b, c⟩ := hc.resolve_left a
          exact .inr (.inr ⟨by simpa using a, by simpa using b, by simpa using b, c⟩)
      clear hc
      rcases hw with ⟨rfl, rfl⟩ | ⟨rfl, b⟩ | ⟨a, b, b', rfl⟩
      all_goals
        go_wp2_with fail
        go_meet
        exact ⟨rfl, H3.out⟩
    case rest =>
      obtain ⟨rfl, hH⟩ := hcut
      clear H3
      have H5 : Hid (LawAt w _ ⟨k1, h1, v1, x1, n1, nv1⟩) := Lib.hid hH
      clear hH
      obtain ⟨p, d, hp, pk, hd, dk, hdd, hvp, hvd, hfin⟩ := HPD.out hc
      rw [hp] at HP HPS
      have hds := apply_size HPS.out HM2.out
      rw [hd] at hds
      have HD := Lib.hid (fun W => apply_any p ⟨0, 2, k1, txn, ⟨#[]⟩, 0, 0⟩ W HPS.out HM2.out)
      have HDD := Lib.hid (fun W => apply_any d ⟨0, 2, k1, txn, ⟨#[]⟩, 0, 0⟩ W hds HM2.out)
      have HVP := Lib.hid (fun W => view_any p txn W HPS.out)
      have HVD := Lib.hid (fun W => view_any d txn W hds)
      rw [hd] at HD
      rw [hdd] at HDD
      rw [hvp] at HVP
      rw [hvd] at HVD
      have HF := Lib.hid hfin
      clear hp hd hdd hvp hvd hds hfin hc HPD HNO HPS HM2
      obtain ⟨kp, hp, vp, xp, np, nvp⟩ := p
      obtain ⟨kd, hd, vd, xd, nd, nvd⟩ := d
      simp only at pk dk
      subst pk
      subst dk
      simp only at HD HDD HVP HVD HF
      obtain ⟨⟨z0, z1, z2, z3, z4, z5⟩, f0, f1, f2, f3, f4, f5⟩ := blk6 H5.out.e
      go_wp2_with fail
      refine (HP.out _).mono ?_
      rintro r w6 ⟨rfl, ha⟩
      have H6 := Lib.hid (H5.out.keep (below_quiet ha))
      clear ha H5 HP z0 z1 z2 z3 z4 z5 f0 f1 f2 f3 f4 f5
      go_upto_region 7 with fail
      have H7 := Lib.hid (H6.out.keep ((Only.refl _ _).alloc (.cells #[.string kd, .bool hp, .string vp, .int .u64 xp, .bool np, .string nvp] 26)))
      have HP7 := Lib.hid (hasE_new w6 ⟨kd, hp, vp, xp, np, nvp⟩)
      obtain ⟨p, hpp⟩ : ∃ p, w6.heap.size = p := ⟨_, rfl⟩
      rw [hpp] at HP7
      generalize w6.alloc (.cells #[.string kd, .bool hp, .string vp, .int .u64 xp, .bool np, .string nvp] 26) = w7 at *
      rw [hpp]
      clear hpp H6
      obtain ⟨⟨p0, p1, p2, p3, p4, p5⟩, _⟩ := blk6 HP7.out
      obtain ⟨z0, z1, z2, z3, z4, z5⟩ := e6 H7.out.e
      go_wp2_with fail
      refine (HD.out _).mono ?_
      rintro r w8 ⟨rfl, ha⟩
      have H8 := Lib.hid (H7.out.keep (below_quiet ha))
      have HP8 := Lib.hid (qkeep (below_quiet ha) HP7.out)
      clear ha H7 HP7 p0 p1 p2 p3 p4 p5 z0 z1 z2 z3 z4 z5 HD
      go_upto_region 8 with fail
      have H9 := Lib.hid (H8.out.keep ((Only.refl _ _).alloc (.cells #[.string kd, .bool hd, .string vd, .int .u64 xd, .bool nd, .string nvd] 26)))
      have HP9 := Lib.hid (alloc_keep (o := (.cells #[.string kd, .bool hd, .string vd, .int .u64 xd, .bool nd, .string nvd] 26)) HP8.out)
      have HD9 := Lib.hid (hasE_new w8 ⟨kd, hd, vd, xd, nd, nvd⟩)
      obtain ⟨q, hq⟩ : ∃ q, w8.heap.size = q := ⟨_, rfl⟩
      rw [hq] at HD9
      generalize w8.alloc (.cells #[.string kd, .bool hd, .string vd, .int .u64 xd, .bool nd, .string nvd] 26) = w9 at *
      rw [hq]
      clear hq H8 HP8
      obtain ⟨⟨p0, p1, p2, p3, p4, p5⟩, _⟩ := blk6 HP9.out
      go_wp2_with fail
      refine (HVP.out _).mono ?_
      rintro r w10 ⟨rfl, ha⟩
      have H10 := Lib.hid (H9.out.keep (below_quiet ha))
      have HP10 := Lib.hid (qkeep (below_quiet ha) HP9.out)
      have HD10 := Lib.hid (qkeep (below_quiet ha) HD9.out)
      clear ha H9 HP9 HD9 p0 p1 p2 p3 p4 p5 HVP
      obtain ⟨⟨q0, q1, q2, q3, q4, q5⟩, _⟩ := blk6 HD10.out
      go_wp2_with fail
      refine (HVD.out _).mono ?_
      rintro r w11 ⟨rfl, ha⟩
      have H11 := Lib.hid (H10.out.keep (below_quiet ha))
      have HP11 := Lib.hid (qkeep (below_quiet ha) HP10.out)
      have HD11 := Lib.hid (qkeep (below_quiet ha) HD10.out)
      clear ha H10 HP10 HD10 q0 q1 q2 q3 q4 q5 HVD
      have hbb : (val.toList != val.toList) = false := by simp
      go_upto_region 10 with fail
      have H11d := Lib.hid (H11.out.keep ((Only.refl _ w11).drew))
      have HD11d := Lib.hid (qkeep ((Only.refl _ w11).drew) HD11.out)
      go_cut [97] (fun b wx => b = .bool false ∧ (LawAt w wx ⟨kd, h1, v1, x1, n1, nv1⟩ ∧ HasE wx p ⟨kd, hp, vp, xp, np, nvp⟩))
      case first =>
        go_region_held3 (fun w' => w'.cell? ⟨w.heap.size, 0, none⟩ = some (.string kd) ∧ w'.cell? ⟨q, 0, none⟩ = some (.string kd) ∧ w'.cell? ⟨q, 1, none⟩ = some (.bool hd) ∧ w'.cell? ⟨q, 2, none⟩ = some (.string vd) ∧ w'.cell? ⟨q, 3, none⟩ = some (.int .u64 xd) ∧ w'.cell? ⟨q, 4, none⟩ = some (.bool nd) ∧ w'.cell? ⟨q, 5, none⟩ = some (.string nvd))
          (first
            | (with_reducible exact ⟨(e6 H12.out.e).1, (blk6 HD12.out).1⟩)
            | (with_reducible exact ⟨(e6 H11d.out.e).1, (blk6 HD11d.out).1⟩))
          (first
            | (go_at_call 9; (with_reducible refine (HDD.out _).mono ?_); rintro r w12 ⟨rfl, ha⟩; have HQ := ((Only.refl (fun _ => False) w11).drew).trans (below_quiet ha) (fun _ _ h => h); have H12 := Lib.hid (H11.out.keep HQ); have HP12 := Lib.hid (qkeep HQ HP11.out); have HD12 := Lib.hid (qkeep HQ HD11.out); clear ha HQ))
        all_goals
          go_wp2_with fail
          go_meet
          exact ⟨rfl, H12.out, HP12.out⟩
      case rest =>
        obtain ⟨rfl, hH, hP⟩ := hcut
        clear H11 H11d HP11 HD11 HD11d HDD
        have H13 := Lib.hid hH
        have HP13 := Lib.hid hP
        clear hH hP
        obtain ⟨⟨z0, z1, z2, z3, z4, z5⟩, f0, f1, f2, f3, f4, f5⟩ := blk6 H13.out.e
        obtain ⟨⟨p0, p1, p2, p3, p4, p5⟩, _⟩ := blk6 HP13.out
        have hfin := HF.out
        by_cases ht : txn = 0
        · subst ht
          clear hfin
          go_wp2_with fail
          go_ret
          exact ⟨rfl, only_b H13.out.only⟩
        · obtain ⟨rfl, rfl, rfl⟩ := hfin.resolve_left ht
          have ht0 : (xp == 0) = false := by simpa using ht
          have hb2 : (vp.toList == vp.toList) = true := by simp
          clear hfin ht
          cases hp
          all_goals
            go_wp2_with fail
            go_ret
            exact ⟨rfl, only_b H13.out.only⟩

end Go.Proofs.Ytlmpknhekoeecaa
