/-
  Package msg: Fold.
-/
import Derived.Test.YtlmpknhekoeecaaMsgEndsP
namespace Go.Proofs.Ytlmpknhekoeecaa
open Go Go.RowKit
set_option linter.unusedVariables false
set_option linter.unusedSimpArgs false
set_option maxRecDepth 100000

theorem fold_take {e : En} {l : List Ms} {k : Nat} (h : k < l.length) :
    foldE e (l.take (k + 1)) = if isFor e.k (l.getD k default) = true then applyE (foldE e (l.take k)) (l.getD k default) else foldE e (l.take k) := by
  have e1 : l.take (k + 1) = l.take k ++ [l.getD k default] := by
    rw [List.take_succ_eq_append_getElem h]
    simp [h]
  rw [e1, fold_append, foldE, foldE, fold_k]
theorem fold_size : ∀ (l : List Ms) (e : En), EnOk e → (∀ m ∈ l, MsOk m) → EnOk (foldE e l)
  | [], e, h, _ => h
  | m :: l, e, h, hm => by
    rw [foldE]
    refine fold_size l _ ?_ (fun x hx => hm x (List.mem_cons_of_mem _ hx))
    split
    · exact apply_size h (hm m List.mem_cons_self)
    · exact h
/-- Where Fold stands: the entry's block, the answer's. -/
structure FoAt (w W : World) (e : En) : Prop where
  e : HasE W w.heap.size e
  r : HasE W (w.heap.size + 1) ⟨⟨#[]⟩, false, ⟨#[]⟩, 0, false, ⟨#[]⟩⟩
  only : Only (fun _ => False) w W
theorem FoAt.keep {w W W' : World} {e : En} (h : FoAt w W e) (ho : Only (fun _ => False) W W') : FoAt w W' e := ⟨qkeep ho h.e, qkeep ho h.r, h.only.trans ho (fun _ _ h => h)⟩
theorem FoAt.start (w : World) (e : En) : FoAt w ((w.alloc (.cells #[.string e.k, .bool e.h, .string e.v, .int .u64 e.x, .bool e.n, .string e.nv] 26)).alloc (.cells #[.string ⟨#[]⟩, .bool false, .string ⟨#[]⟩, .int .u64 0, .bool false, .string ⟨#[]⟩] 26)) e := by
  refine ⟨alloc_keep (hasE_new w e), ?_, ((Only.refl _ w).alloc _).alloc _⟩
  have := hasE_new (w.alloc (.cells #[.string e.k, .bool e.h, .string e.v, .int .u64 e.x, .bool e.n, .string e.nv] 26)) ⟨⟨#[]⟩, false, ⟨#[]⟩, 0, false, ⟨#[]⟩⟩
  rwa [World.size_alloc] at this
theorem FoAt.set {w W : World} {e : En} (h : FoAt w W e) (u : En) : FoAt w ((((((W.setCell ⟨w.heap.size, 0, none⟩ (.string u.k)).setCell ⟨w.heap.size, 1, none⟩ (.bool u.h)).setCell ⟨w.heap.size, 2, none⟩ (.string u.v)).setCell ⟨w.heap.size, 3, none⟩ (.int .u64 u.x)).setCell ⟨w.heap.size, 4, none⟩ (.bool u.n)).setCell ⟨w.heap.size, 5, none⟩ (.string u.nv)) u :=
  ⟨hasE_set h.e u, set6_keep (by omega) h.r, only_set6 h.only (Nat.le_refl _) _ _ _ _ _ _⟩

set_option maxHeartbeats 8000000 in
theorem fold_any (e : En) (ao : Option Addr) (n cap : Nat) (l : List Ms) (w : World) (he : EnOk e) (hl : SlM w ao l) (hn : n = l.length) (hb : l.length * 72 ≤ 140737488351232) :
    Calls Try.prog 11 #[env e, .slice ao n cap] w fun r w' => r = .returned (env (foldE e l)) ∧ Below w.heap.size w w' := by
  have HN := Lib.hid hn
  have HL := Lib.hid hl
  have HI : Hid (∃ u, u = foldE e (l.take 0) ∧ EnOk u ∧ FoAt w ((w.alloc (.cells #[.string e.k, .bool e.h, .string e.v, .int .u64 e.x, .bool e.n, .string e.nv] 26)).alloc (.cells #[.string ⟨#[]⟩, .bool false, .string ⟨#[]⟩, .int .u64 0, .bool false, .string ⟨#[]⟩] 26)) u) := Lib.hid ⟨e, rfl, he, FoAt.start w e⟩
  have hnI : (n : Int) ≤ 140737488355328 := by omega
  have hn0 : (0 : Int) ≤ (n : Int) := by omega
  obtain ⟨ek, hek⟩ : ∃ k, e.k = k := ⟨_, rfl⟩
  have HEK := Lib.hid hek
  clear he hl hn hb hek
  obtain ⟨k0, h0, v0, x0, n0, nv0⟩ := e
  simp only at HI
  go_enter Try.func11, Try.ntmps11
  go_wp2_with fail
  go_loopw [9] (fun i wr => ∃ k : Nat, k ≤ n ∧ i = .int .i64 (k : Int) ∧ Hid (∃ u, u = foldE ⟨k0, h0, v0, x0, n0, nv0⟩ (l.take k) ∧ EnOk u ∧ FoAt w wr u)) (fun i _ => n - (intOf i).toNat)
  case atStart => exact ⟨0, Nat.zero_le _, rfl, HI⟩
  case round =>
    clear HI
    obtain ⟨k, hk, rfl, HI⟩ := hrel
    obtain ⟨u, hu, hus, hF⟩ := HI.out
    have HU := Lib.hid hu
    have HUS := Lib.hid hus
    have HF := Lib.hid hF
    have HUK : Hid (u.k = ek) := Lib.hid (by rw [hu, fold_k]; exact HEK.out)
    clear hu hus hF HI
    have hk0 : (0 : Int) ≤ (k : Int) := by omega
    by_cases hlt : k < n
    · have hltI : (k : Int) < (n : Int) := by omega
      have hkl : k < l.length := by rw [← HN.out]; exact hlt
      have HFT := Lib.hid (fold_take (e := ⟨k0, h0, v0, x0, n0, nv0⟩) hkl)
      obtain ⟨g, off, rfl, hm⟩ := (HL.out.keep HF.out.only) k hkl
      rw [show (⟨k0, h0, v0, x0, n0, nv0⟩ : En).k = ek from HEK.out] at HFT
      generalize l.getD k default = m at *
      have HST := Lib.hid (fun W => step_any u m W HUS.out hm.ok)
      have HSS := Lib.hid (apply_size HUS.out hm.ok)
      rw [← HU.out] at HFT
      obtain ⟨u1, hu1⟩ : ∃ x, applyE u m = x := ⟨_, rfl⟩
      rw [hu1] at HST HSS HFT
      clear hu1 hkl
      obtain ⟨sq, K, mk, mx, mv, mo, num⟩ := m
      obtain ⟨ku, h1, v1, x1, n1, nv1⟩ := u
      obtain ⟨k2, h2, v2, x2, n2, nv2⟩ := u1
      obtain ⟨y0, y1, y2, y3, y4, y5, y6, _⟩ := hm
      go_upto_region 4 with fail
      have HF1 := Lib.hid (HF.out.keep ((Only.refl _ wr).alloc (.cells #[.int .u64 sq, .int .i64 K, .string mk, .int .u64 mx, .string mv, .int .i64 mo, .int .u64 num] 28)))
      have HM1 := Lib.hid (hasM_new wr ⟨sq, K, mk, mx, mv, mo, num⟩)
      obtain ⟨pm, hq⟩ : ∃ q, wr.heap.size = q := ⟨_, rfl⟩
      rw [hq] at HM1
      generalize wr.alloc (.cells #[.int .u64 sq, .int .i64 K, .string mk, .int .u64 mx, .string mv, .int .i64 mo, .int .u64 num] 28) = w5 at *
      rw [hq]
      clear hq y0 y1 y2 y3 y4 y5 y6
      obtain ⟨y0, y1, y2, y3, y4, y5, y6⟩ := blk7 HM1.out
      obtain ⟨⟨z0, z1, z2, z3, z4, z5⟩, _⟩ := blk6 HF1.out.e
      have HUK' : Hid (ku = ek) := HUK
      by_cases hf : isFor ek ⟨sq, K, mk, mx, mv, mo, num⟩ = true
      · have HR : Hid (⟨k2, h2, v2, x2, n2, nv2⟩ = foldE ⟨k0, h0, v0, x0, n0, nv0⟩ (l.take (k + 1))) := Lib.hid (by rw [HFT.out, if_pos hf])
        have hw : (K == 4) = true ∨ (K == 4) = false ∧ (mk.toList == ku.toList) = true := by
          unfold isFor at hf
          simp only [Bool.or_eq_true, decide_eq_true_eq] at hf
          by_cases h4 : K = 4
          · exact .inl (by simpa using h4)
          · exact .inr ⟨by simpa using h4, by rw [HUK'.out]; exact hf.resolve_left h4⟩
        clear hf HF HUK HUK' HUS HFT HU
        rcases hw with hw | ⟨hw, hw2⟩
        all_goals
          go_wp2_with fail
          refine (HST.out _).mono ?_
          rintro r w6 ⟨rfl, hb⟩
          have HF2 := Lib.hid (HF1.out.keep (below_quiet hb))
          have HF3 := Lib.hid (HF2.out.set ⟨k2, h2, v2, x2, n2, nv2⟩)
          clear hb HF1 z0 z1 z2 z3 z4 z5 y0 y1 y2 y3 y4 y5 y6
          obtain ⟨⟨z0, z1, z2, z3, z4, z5⟩, f0, f1, f2, f3, f4, f5⟩ := blk6 HF2.out.e
          go_wp2_with fail
          clear z0 z1 z2 z3 z4 z5 f0 f1 f2 f3 f4 f5
          go_roundw
          case rel => exact ⟨k + 1, by omega, by go_num, Lib.hid ⟨_, HR.out, HSS.out, HF3.out⟩⟩
          case measure => simp [intOf]; omega
      · have HR : Hid (⟨ku, h1, v1, x1, n1, nv1⟩ = foldE ⟨k0, h0, v0, x0, n0, nv0⟩ (l.take (k + 1))) := Lib.hid (by rw [HFT.out, if_neg hf])
        have hw : (K == 4) = false ∧ (mk.toList == ku.toList) = false := by
          unfold isFor at hf
          simp only [Bool.or_eq_true, decide_eq_true_eq, not_or] at hf
          exact ⟨by simpa using hf.1, by rw [HUK'.out]; simpa using hf.2⟩
        obtain ⟨hw, hw2⟩ := hw
        clear hf HF HUK HUK' HFT HU
        go_wp2_with fail
        go_roundw
        case rel => exact ⟨k + 1, by omega, by go_num, Lib.hid ⟨_, HR.out, HUS.out, HF1.out⟩⟩
        case measure => simp [intOf]; omega
    · obtain rfl : k = n := by omega
      have hltI : ¬ (k : Int) < (k : Int) := by omega
      have HR : Hid (u = foldE ⟨k0, h0, v0, x0, n0, nv0⟩ l) := Lib.hid (by rw [HU.out, List.take_of_length_le (by rw [HN.out]; exact Nat.le_refl _)])
      have HFR := Lib.hid (fun W => fresh_any u W HUS.out)
      clear HU HUK HUS
      obtain ⟨ku, h1, v1, x1, n1, nv1⟩ := u
      obtain ⟨⟨z0, z1, z2, z3, z4, z5⟩, _⟩ := blk6 HF.out.e
      go_wp2_with fail
      refine (HFR.out _).mono ?_
      rintro r w6 ⟨rfl, hb⟩
      have HF2 := Lib.hid (HF.out.keep (below_quiet hb))
      clear hb HF z0 z1 z2 z3 z4 z5
      obtain ⟨⟨q0, q1, q2, q3, q4, q5⟩, l0, l1, l2, l3, l4, l5⟩ := blk6 HF2.out.r
      go_wp2_with fail
      refine bodyPost_ret (v := env ⟨ku, h1, v1, x1, n1, nv1⟩) (by simp [results, Try.results11, go_sem, q0, q1, q2, q3, q4, q5]) rfl ?_
      exact ⟨by rw [← HR.out], only_b (only_set6 HF2.out.only (by omega) _ _ _ _ _ _)⟩

end Go.Proofs.Ytlmpknhekoeecaa
