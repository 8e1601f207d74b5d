/-
  Package msg: what a Grow makes of a state; any message.
-/
import Derived.Test.YtlmpknhekoeecaaMsg6
import Derived.Test.YtlmpknhekoeecaaOrdG
namespace Go.Proofs.Ytlmpknhekoeecaa
open Go Go.RowKit
set_option linter.unusedVariables false
set_option linter.unusedSimpArgs false
set_option maxRecDepth 100000

theorem CgAt.setcm {w W : World} {p : Nat} {s : St} {m : Ms} (H : CgAt w W p s m) (u v : Mv) : CgAt w ((((W.setCell ⟨p, 0, none⟩ (.bool u.t)).setCell ⟨p, 1, none⟩ (.string u.b)).setCell ⟨p, 3, none⟩ (.bool v.t)).setCell ⟨p, 4, none⟩ (.string v.b)) p ⟨u, s.x, v⟩ m :=
  (H.setc u).setm v
theorem CgAt.setmc {w W : World} {p : Nat} {s : St} {m : Ms} (H : CgAt w W p s m) (u v : Mv) : CgAt w ((((W.setCell ⟨p, 3, none⟩ (.bool v.t)).setCell ⟨p, 4, none⟩ (.string v.b)).setCell ⟨p, 0, none⟩ (.bool u.t)).setCell ⟨p, 1, none⟩ (.string u.b)) p ⟨u, s.x, v⟩ m :=
  (H.setm v).setc u
theorem CgAt.c11 {w W : World} {p : Nat} {s : St} {m : Ms} (H : CgAt w W p s m) :
    W.cell? ⟨p, 0, none⟩ = some (.bool s.c.t) ∧ W.cell? ⟨p, 1, none⟩ = some (.string s.c.b) ∧ W.cell? ⟨p, 3, none⟩ = some (.bool s.m.t) ∧ W.cell? ⟨p, 4, none⟩ = some (.string s.m.b) ∧ W.cell? ⟨p + 1, 0, none⟩ = some (.int .u64 m.sq) ∧ W.cell? ⟨p + 1, 1, none⟩ = some (.int .i64 m.K) ∧ W.cell? ⟨p + 1, 2, none⟩ = some (.string m.k) ∧ W.cell? ⟨p + 1, 3, none⟩ = some (.int .u64 m.x) ∧ W.cell? ⟨p + 1, 4, none⟩ = some (.string m.v) ∧ W.cell? ⟨p + 1, 5, none⟩ = some (.int .i64 m.off) ∧ W.cell? ⟨p + 1, 6, none⟩ = some (.int .u64 m.num) := by
  obtain ⟨⟨a0, a1, a2, a3, a4⟩, _⟩ := blk5 H.s
  obtain ⟨b0, b1, b2, b3, b4, b5, b6⟩ := blk7 H.m
  exact ⟨a0, a1, a3, a4, b0, b1, b2, b3, b4, b5, b6⟩
set_option maxHeartbeats 2000000 in
theorem sgrown_any (s : St) (m : Ms) (w : World) (h4 : m.K = 4) (hm : MsOk m) (hc : s.c.b.size ≤ 140737488355328) (hn : s.m.b.size ≤ 140737488355328) :
    Calls Try.prog 26 #[stv s, msv m] w fun e w' => e = .returned (stv (s.grown m)) ∧ Below w.heap.size w w' := by
  have HCH := Lib.hid (fun v W (hs : v.b.size ≤ 140737488355328) => chg_any v m W (by omega) (by omega) (fun h => by omega) hm hs)
  have HC := Lib.hid hc
  have HN := Lib.hid hn
  obtain ⟨⟨t, b⟩, y, ⟨t2, b2⟩⟩ := s
  obtain ⟨sq, K, mk, x, mv, off, num⟩ := m
  simp only at h4
  subst h4
  obtain ⟨⟨t3, b3⟩, hu⟩ : ∃ u, chg ⟨t, b⟩ ⟨sq, 4, mk, x, mv, off, num⟩ = u := ⟨_, rfl⟩
  obtain ⟨⟨t4, b4⟩, hu2⟩ : ∃ u, chg ⟨t2, b2⟩ ⟨sq, 4, mk, x, mv, off, num⟩ = u := ⟨_, rfl⟩
  have HC1 := Lib.hid (fun W => HCH.out ⟨t, b⟩ W HC.out)
  have HC2 := Lib.hid (fun W => HCH.out ⟨t2, b2⟩ W HN.out)
  have HV : Hid (St.grown ⟨⟨t, b⟩, y, ⟨t2, b2⟩⟩ ⟨sq, 4, mk, x, mv, off, num⟩ = ⟨⟨t3, b3⟩, y, ⟨t4, b4⟩⟩) := Lib.hid (by unfold St.grown; rw [hu, hu2])
  rw [hu] at HC1
  rw [hu2] at HC2
  have HS := Lib.hid (CgAt.start w ⟨⟨t, b⟩, y, ⟨t2, b2⟩⟩ ⟨sq, 4, mk, x, mv, off, num⟩)
  have HCO := Lib.hid (fun W => changeof_any 4 W (by omega) (by omega))
  clear hm hc hn hu hu2
  go_enter Try.func26, Try.ntmps26
  go_wp2_with fail
  refine (HCO.out _).mono ?_
  rintro e w1 ⟨rfl, rfl⟩
  go_upto_region 2 with fail
  generalize World.alloc _ (.cells #[.bool false, .string ⟨#[]⟩, .int .u64 0, .bool false, .string ⟨#[]⟩] 45) = W1 at *
  have HSd := Lib.hid (HS.out.keep ((Only.refl _ _).drew))
  obtain ⟨⟨z0, z1, z2, z3, z4⟩, f0, f1, f2, f3, f4⟩ := blk5 HS.out.s
  obtain ⟨y0, y1, y2, y3, y4, y5, y6⟩ := blk7 HS.out.m
  have hcf := fun args W => callf 4 (by omega) (by omega) args W
  go_cut [5] (fun _ wx => CgCut w w.heap.size ⟨⟨t3, b3⟩, y, ⟨t4, b4⟩⟩ ⟨sq, 4, mk, x, mv, off, num⟩ wx)
  case first =>
    refine anyG.start (fun w' => w'.cell? ⟨w.heap.size, 0, none⟩ = some (.bool t) ∧ w'.cell? ⟨w.heap.size, 1, none⟩ = some (.string b) ∧ w'.cell? ⟨w.heap.size, 3, none⟩ = some (.bool t2) ∧ w'.cell? ⟨w.heap.size, 4, none⟩ = some (.string b2) ∧ w'.cell? ⟨w.heap.size + 1, 0, none⟩ = some (.int .u64 sq) ∧ w'.cell? ⟨w.heap.size + 1, 1, none⟩ = some (.int .i64 4) ∧ w'.cell? ⟨w.heap.size + 1, 2, none⟩ = some (.string mk) ∧ w'.cell? ⟨w.heap.size + 1, 3, none⟩ = some (.int .u64 x) ∧ w'.cell? ⟨w.heap.size + 1, 4, none⟩ = some (.string mv) ∧ w'.cell? ⟨w.heap.size + 1, 5, none⟩ = some (.int .i64 off) ∧ w'.cell? ⟨w.heap.size + 1, 6, none⟩ = some (.int .u64 num)) [11, 12, 13] (by kernel_rfl) ?_ (fun hHeld => ?_)
    · exact CgAt.c11 HSd.out
    refine anyG.take [] (i := 0) (oi := ?_) (v := ?_) ?_ (by kernel_rfl) (by kernel_rfl) (by kernel_rfl) (by kernel_rfl) (by kernel_rfl) (by kernel_rfl) ?_ (Or.inl ⟨?_, ?_⟩) (by assumption) ?_
    rotate_left 2
    · (simp only [List.getElem?_toArray, List.getElem?_cons_zero]; rfl)
    · exact fun _ _ _ h => h
    · rfl
    · (intro w hSw; (try dsimp only at hSw); go_simp <;> with_reducible rfl)
    (try simp only [Act.put, List.setIfInBounds_toArray, List.set_cons_zero, List.set_cons_succ])
    refine anyG.take [] (i := 1) (oi := ?_) (v := ?_) ?_ (by kernel_rfl) (by kernel_rfl) (by kernel_rfl) (by kernel_rfl) (by kernel_rfl) (by kernel_rfl) ?_ (Or.inl ⟨?_, ?_⟩) (by assumption) ?_
    rotate_left 2
    · (simp only [List.getElem?_toArray, List.getElem?_cons_succ, List.getElem?_cons_zero]; rfl)
    · exact fun _ _ _ h => h
    · rfl
    · (intro w hSw; (try dsimp only at hSw); go_simp <;> with_reducible rfl)
    (try simp only [Act.put, List.setIfInBounds_toArray, List.set_cons_zero, List.set_cons_succ])
    refine anyG.take [] (i := 2) (oi := ?_) (v := ?_) ?_ (by kernel_rfl) (by kernel_rfl) (by kernel_rfl) (by kernel_rfl) (by kernel_rfl) (by kernel_rfl) ?_ (Or.inl ⟨?_, ?_⟩) (by assumption) ?_
    rotate_left 2
    · (simp only [List.getElem?_toArray, List.getElem?_cons_succ, List.getElem?_cons_zero]; rfl)
    · exact fun _ _ _ h => h
    · rfl
    · (intro w hSw; (try dsimp only at hSw); go_simp <;> with_reducible rfl)
    (try simp only [Act.put, List.setIfInBounds_toArray, List.set_cons_zero, List.set_cons_succ])
    refine anyG.take [] (i := 3) (oi := ?_) (v := ?_) ?_ (by kernel_rfl) (by kernel_rfl) (by kernel_rfl) (by kernel_rfl) (by kernel_rfl) (by kernel_rfl) ?_ (Or.inl ⟨?_, ?_⟩) (by assumption) ?_
    rotate_left 2
    · (simp only [List.getElem?_toArray, List.getElem?_cons_succ, List.getElem?_cons_zero]; rfl)
    · exact fun _ _ _ h => h
    · rfl
    · (intro w hSw; (try dsimp only at hSw); go_simp <;> with_reducible rfl)
    (try simp only [Act.put, List.setIfInBounds_toArray, List.set_cons_zero, List.set_cons_succ])
    refine anyG.take [9] (i := 5) (oi := ?_) (v := ?_) ?_ (by kernel_rfl) (by kernel_rfl) (by kernel_rfl) (by kernel_rfl) (by kernel_rfl) (by kernel_rfl) ?_ (Or.inl ⟨?_, ?_⟩) (by assumption) ?_
    rotate_left 2
    · (simp only [List.getElem?_toArray, List.getElem?_cons_succ, List.getElem?_cons_zero]; rfl)
    · exact fun _ _ _ h => h
    · rfl
    · (intro w hSw; (try dsimp only at hSw); go_simp <;> with_reducible rfl)
    (try simp only [Act.put, List.setIfInBounds_toArray, List.set_cons_zero, List.set_cons_succ])
    refine anyG.take [] (i := 6) (oi := ?_) (v := ?_) ?_ (by kernel_rfl) (by kernel_rfl) (by kernel_rfl) (by kernel_rfl) (by kernel_rfl) (by kernel_rfl) ?_ (Or.inl ⟨?_, ?_⟩) (by assumption) ?_
    rotate_left 2
    · (simp only [List.getElem?_toArray, List.getElem?_cons_succ, List.getElem?_cons_zero]; rfl)
    · exact fun _ _ _ h => h
    · rfl
    · (intro w hSw; (try dsimp only at hSw); go_simp <;> with_reducible rfl)
    (try simp only [Act.put, List.setIfInBounds_toArray, List.set_cons_zero, List.set_cons_succ])
    refine anyG.take [] (i := 7) (oi := ?_) (v := ?_) ?_ (by kernel_rfl) (by kernel_rfl) (by kernel_rfl) (by kernel_rfl) (by kernel_rfl) (by kernel_rfl) ?_ (Or.inl ⟨?_, ?_⟩) (by assumption) ?_
    rotate_left 2
    · (simp only [List.getElem?_toArray, List.getElem?_cons_succ, List.getElem?_cons_zero]; rfl)
    · exact fun _ _ _ h => h
    · rfl
    · (intro w hSw; (try dsimp only at hSw); go_simp <;> with_reducible rfl)
    (try simp only [Act.put, List.setIfInBounds_toArray, List.set_cons_zero, List.set_cons_succ])
    refine anyG.take [9] (i := 8) (oi := ?_) (v := ?_) ?_ (by kernel_rfl) (by kernel_rfl) (by kernel_rfl) (by kernel_rfl) (by kernel_rfl) (by kernel_rfl) ?_ (Or.inl ⟨?_, ?_⟩) (by assumption) ?_
    rotate_left 2
    · (simp only [List.getElem?_toArray, List.getElem?_cons_succ, List.getElem?_cons_zero]; rfl)
    · exact fun _ _ _ h => h
    · rfl
    · (intro w hSw; (try dsimp only at hSw); go_simp <;> with_reducible rfl)
    (try simp only [Act.put, List.setIfInBounds_toArray, List.set_cons_zero, List.set_cons_succ])
    refine anyG.ready (rs := [4]) (by kernel_rfl) (by simp) (AllG.early (o := ?o4_1) ?h4_1 (fun K hK => ?s4_1) AllG.nil)
    case h4_1 => (simp only [List.getElem?_toArray, List.getElem?_cons_succ, List.getElem?_cons_zero]; rfl)
    case' s4_1 =>
      (go_simp; refine (HC1.out _).mono ?_; rintro e w2 ⟨rfl, ha⟩; have HS2 := Lib.hid (HSd.out.keep (below_quiet ha)); clear ha)
      refine hK.out _ _ ?_ (fun hHeld => ?_)
      · exact CgAt.c11 HS2.out
      clear hK K
      (try simp only [Act.put, List.setIfInBounds_toArray, List.set_cons_zero, List.set_cons_succ])
      refine anyG.take [] (i := 10) (oi := ?_) (v := ?_) ?_ (by kernel_rfl) (by kernel_rfl) (by kernel_rfl) (by kernel_rfl) (by kernel_rfl) (by kernel_rfl) ?_ (Or.inl ⟨?_, ?_⟩) (by assumption) ?_
      rotate_left 2
      · (simp only [List.getElem?_toArray, List.getElem?_cons_succ, List.getElem?_cons_zero]; rfl)
      · exact fun _ _ _ h => h
      · rfl
      · (intro w hSw; (try dsimp only at hSw); go_simp <;> with_reducible rfl)
      (try simp only [Act.put, List.setIfInBounds_toArray, List.set_cons_zero, List.set_cons_succ])
      refine anyG.ready (rs := [9]) (by kernel_rfl) (by simp) (AllG.early (o := ?o9_2) ?h9_2 (fun K hK => ?s9_2) AllG.nil)
      case h9_2 => (simp only [List.getElem?_toArray, List.getElem?_cons_succ, List.getElem?_cons_zero]; rfl)
      case' s9_2 =>
        (go_simp; refine (HC2.out _).mono ?_; rintro e w3 ⟨rfl, ha⟩; have HS3 := Lib.hid (HS2.out.keep (below_quiet ha)); obtain ⟨⟨v0, v1, v2, v3, v4⟩, l0, l1, l2, l3, l4⟩ := blk5 HS3.out.s; clear ha)
        refine hK.out _ _ ?_ (fun hHeld => ?_)
        · exact CgAt.c11 HS3.out
        clear hK K
        (try simp only [Act.put, List.setIfInBounds_toArray, List.set_cons_zero, List.set_cons_succ])
        refine anyG.ready (rs := [11]) (by kernel_rfl) (by simp) (AllG.late (o := ?o11_3) ?h11_3 (by kernel_rfl) (of_decide_eq_true (by kernel_rfl)) (fun K hK => ?s11_3) AllG.nil)
        case h11_3 => (simp only [List.getElem?_toArray, List.getElem?_cons_succ, List.getElem?_cons_zero]; rfl)
        case' s11_3 =>
          go_simp
          refine hK.out _ _ ?_
          clear hK K
          (try simp only [Act.put, List.setIfInBounds_toArray, List.set_cons_zero, List.set_cons_succ])
          refine anyG.ready (rs := [12]) (by kernel_rfl) (by simp) (AllG.late (o := ?o12_4) ?h12_4 (by kernel_rfl) (of_decide_eq_true (by kernel_rfl)) (fun K hK => ?s12_4) AllG.nil)
          case h12_4 => (simp only [List.getElem?_toArray, List.getElem?_cons_succ, List.getElem?_cons_zero]; rfl)
          case' s12_4 =>
            go_simp
            refine hK.out _ _ ?_
            clear hK K
            (try simp only [Act.put, List.setIfInBounds_toArray, List.set_cons_zero, List.set_cons_succ])
            refine anyG.ready (rs := [13]) (by kernel_rfl) (by simp) (AllG.late (o := ?o13_5) ?h13_5 (by kernel_rfl) (of_decide_eq_true (by kernel_rfl)) (fun K hK => ?s13_5) AllG.nil)
            case h13_5 => (simp only [List.getElem?_toArray, List.getElem?_cons_succ, List.getElem?_cons_zero]; rfl)
            case' s13_5 =>
              go_simp
              refine hK.out _ _ ?_
              clear hK K
              (try simp only [Act.put, List.setIfInBounds_toArray, List.set_cons_zero, List.set_cons_succ])
              refine anyG.done (by kernel_rfl) ?_
              have HE : Hid (CgCut w w.heap.size ⟨⟨t3, b3⟩, y, ⟨t4, b4⟩⟩ ⟨sq, 4, mk, x, mv, off, num⟩ _) := Lib.hid (HS3.out.setcm ⟨t3, b3⟩ ⟨t4, b4⟩)
              clear v0 v1 v2 v3 v4 l0 l1 l2 l3 l4 z0 z1 z2 z3 z4 f0 f1 f2 f3 f4 y0 y1 y2 y3 y4 y5 y6
              go_wp2_with fail
              go_meet
              exact HE.out
  case rest =>
    clear HS HSd HC1 HC2 hcf z0 z1 z2 z3 z4 f0 f1 f2 f3 f4 y0 y1 y2 y3 y4 y5 y6
    have HS : Hid (CgAt w _ w.heap.size ⟨⟨t3, b3⟩, y, ⟨t4, b4⟩⟩ ⟨sq, 4, mk, x, mv, off, num⟩) := Lib.hid hcut
    clear hcut
    obtain ⟨⟨z0, z1, z2, z3, z4⟩, f0, f1, f2, f3, f4⟩ := blk5 HS.out.s
    obtain ⟨⟨r0, r1, r2, r3, r4⟩, g0, g1, g2, g3, g4⟩ := blk5 HS.out.r
    go_wp2_with fail
    refine bodyPost_ret (v := stv ⟨⟨t3, b3⟩, y, ⟨t4, b4⟩⟩) (by simp [results, Try.results26, go_sem, r0, r1, r2, r3, r4]) rfl ?_
    exact ⟨by rw [HV.out], HS.out.done _ _ _ _ _⟩

end Go.Proofs.Ytlmpknhekoeecaa
