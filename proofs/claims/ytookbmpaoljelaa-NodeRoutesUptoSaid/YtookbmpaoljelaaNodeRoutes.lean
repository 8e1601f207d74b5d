/-
  NodeRoutes: its walk.
-/
import Derived.Test.YtookbmpaoljelaaNodeAw
import Derived.Test.YtookbmpaoljelaaNodeOrd
import Derived.Test.YtookbmpaoljelaaNode6
namespace Go.Proofs.Ytookbmpaoljelaa
open Go Go.RowKit
set_option linter.unusedVariables false
set_option linter.unusedSimpArgs false
set_option maxRecDepth 100000

theorem ndv_leaf (h : Nh) {n : Nd} {b : Bool} (hl : n.leaf = b) : ndv h n = .agg #[.bool b, .slice h.eo n.es.length h.ec, .slice h.po n.ps.length h.pc, .slice h.ko n.ks.length h.kc, .slice h.bo n.bs.length h.bc] := by
  subst hl
  rfl
set_option maxHeartbeats 8000000 in
theorem nroutes_walk (h : Nh) (n : Nd) (a b : ByteArray) (w : World) (H : NdAt w h n) :
    Calls Try.prog 5 #[ndv h n, .string a, .string b] w fun r w' => r = .returned (.bool true) ∧ Below w.heap.size w w' := by
  have H0 := Lib.hid (NbAt.start H)
  obtain ⟨c0, c1, c2, c3, c4⟩ := H0.out.cells
  go_enter Try.func5, Try.ntmps5
  go_wp2_with fail
  refine (awake_any _).mono ?_
  rintro r w1 ⟨rfl, ho⟩
  have H1 := Lib.hid (H0.out.keep ho)
  clear ho H0 c0 c1 c2 c3 c4 H
  obtain ⟨c0, c1, c2, c3, c4⟩ := H1.out.cells
  obtain ⟨lf, hlf⟩ : ∃ lf, n.leaf = lf := ⟨_, rfl⟩
  have HLF := Lib.hid hlf
  cases lf with
  | true =>
    rw [hlf] at c0
    clear hlf
    go_wp2_with fail
    go_ret
    exact ⟨rfl, only_b H1.out.only⟩
  | false =>
  have hri := right_any h n w1 H1.out.nd
  obtain ⟨rg, hrg⟩ : ∃ rg, rightB n = rg := ⟨_, rfl⟩
  rw [hrg, ndv_leaf h hlf] at hri
  have HRI := Lib.hid hri
  clear hri
  have HRG := Lib.hid hrg
  rw [hlf] at c0
  clear hlf hrg
  go_wp2_with fail
  refine HRI.out.mono ?_
  rintro r w2 ⟨rfl, ho⟩
  have H2 := Lib.hid (H1.out.keep ho)
  clear ho H1 c0 c1 c2 c3 c4 HRI
  obtain ⟨c0, c1, c2, c3, c4⟩ := H2.out.cells
  cases rg with
  | false =>
    go_wp2_with fail
    go_ret
    exact ⟨rfl, only_b H2.out.only⟩
  | true =>
  have HIN : Hid (innerB n = true) := Lib.hid (by have := HRG.out; unfold rightB at this; rwa [HLF.out, if_neg (by decide)] at this)
  have HSH : Hid (shapeB n = true) := Lib.hid (by have := HIN.out; unfold innerB at this; simp only [Bool.and_eq_true] at this; exact this.1.1.1.1.1)
  have HRS : Hid (riseB blt n.ps = true) := Lib.hid (by have := HIN.out; unfold innerB at this; simp only [Bool.and_eq_true] at this; exact this.1.1.1.2)
  go_wp2_with fail
  refine (route_any h n a w2 H2.out.nd).mono ?_
  rintro r w3 ⟨rfl, ho⟩
  have H3 := Lib.hid (H2.out.keep ho)
  clear ho H2 c0 c1 c2 c3 c4
  obtain ⟨c0, c1, c2, c3, c4⟩ := H3.out.cells
  go_wp2_with fail
  refine (route_any h n b w3 H3.out.nd).mono ?_
  rintro r w4 ⟨rfl, ho⟩
  have H4 := Lib.hid (H3.out.keep ho)
  clear ho H3 c0 c1 c2 c3 c4
  obtain ⟨c0, c1, c2, c3, c4⟩ := H4.out.cells
  obtain ⟨b1, b2, b3, b4, b5⟩ := shape_yes HSH.out
  clear b5
  obtain ⟨x, hx⟩ : ∃ x, routeN n.ps a = x := ⟨_, rfl⟩
  obtain ⟨y, hy⟩ : ∃ y, routeN n.ps b = y := ⟨_, rfl⟩
  have hxl : x ≤ n.ps.length := by rw [← hx]; exact route_le _ _
  have HM1 : Hid (ble a b = true → x ≤ y) := Lib.hid (fun h => by rw [← hx, ← hy]; exact route_mono h)
  have HM2 : Hid (ble b a = true → y ≤ x) := Lib.hid (fun h => by rw [← hx, ← hy]; exact route_mono h)
  have HRI : Hid (∀ i, i < n.ps.length → (x ≤ i ↔ blt a (n.ps.getD i default) = true)) := Lib.hid (fun i hi => by rw [← hx]; exact route_iff HRS.out a hi)
  have HRO : Hid (∀ i, i < n.ps.length → routeN n.ps (n.ps.getD i default) = i + 1) := Lib.hid (fun i hi => route_own HRS.out hi)
  rw [hx, hy]
  obtain ⟨K, hK⟩ : ∃ K, K = n.ks.length := ⟨_, rfl⟩
  obtain ⟨P, hP⟩ : ∃ P, P = n.ps.length := ⟨_, rfl⟩
  obtain ⟨B, hB⟩ : ∃ B, B = n.bs.length := ⟨_, rfl⟩
  rw [← hK] at c3 b1 b2 b3 b4
  rw [← hP] at c2 b3 hxl
  rw [← hB] at c4 b4
  have HP := Lib.hid hP
  have HB := Lib.hid hB
  have hxK : ¬ (K : Int) ≤ (x : Int) := by omega
  have hx0 : ¬ (x : Int) < 0 := by omega
  have hd1 : decide (K ≤ x) = false := by rw [decide_eq_false_iff_not]; omega
  obtain ⟨q1, hq1⟩ : ∃ q, Op.bytesLess a.toList b.toList = q := ⟨_, rfl⟩
  obtain ⟨q2, hq2⟩ : ∃ q, (a.toList == b.toList) = q := ⟨_, rfl⟩
  have hways : (q1 = true ∧ x ≤ y) ∨ (q1 = false ∧ q2 = true ∧ x = y) ∨ (q1 = false ∧ q2 = false ∧ y ≤ x) := by
    cases hq : q1 with
    | true =>
      left
      refine ⟨rfl, HM1.out ?_⟩
      unfold ble
      rw [hq1, hq]; rfl
    | false =>
      right
      have h1 : y ≤ x := HM2.out (by rw [ble_not]; unfold blt; rw [hq1, hq]; rfl)
      cases hz : q2 with
      | true =>
        left
        refine ⟨rfl, rfl, ?_⟩
        have h2 : x ≤ y := HM1.out (by unfold ble; rw [hq1, hq2, hq, hz]; rfl)
        omega
      | false => exact .inr ⟨rfl, rfl, h1⟩
  have HQ := Lib.hid (And.intro hq1 hq2)
  clear hK hP hB hx hy HM1 HM2
  have hthree : (Op.bytesLess a.toList b.toList = true ∧ ¬ (y : Int) < (x : Int) ∧ decide (y < x) = false) ∨ (Op.bytesLess a.toList b.toList = false ∧ (a.toList == b.toList) = true ∧ ¬ (y : Int) < (x : Int) ∧ decide (y < x) = false ∧ ¬ (x : Int) < (y : Int) ∧ decide (x < y) = false) ∨ (Op.bytesLess a.toList b.toList = false ∧ (a.toList == b.toList) = false ∧ ¬ (x : Int) < (y : Int) ∧ decide (x < y) = false) := by
    rw [hq1, hq2]
    rcases hways with ⟨e1, e2⟩ | ⟨e1, e2, e3⟩ | ⟨e1, e2, e3⟩
    · exact .inl ⟨e1, by omega, by rw [decide_eq_false_iff_not]; omega⟩
    · exact .inr (.inl ⟨e1, e2, by omega, by rw [decide_eq_false_iff_not]; omega, by omega, by rw [decide_eq_false_iff_not]; omega⟩)
    · exact .inr (.inr ⟨e1, e2, by omega, by rw [decide_eq_false_iff_not]; omega⟩)
  have HBB := Lib.hid (And.intro b2 (And.intro b3 b4))
  have hP64 : P ≤ 64 := by omega
  have hB64 : B ≤ 64 := by omega
  clear hways HQ hq1 hq2 b3 b4
  go_upto_region 7 with fail
  have HX0 := Lib.hid hx0
  have HXL := Lib.hid hxl
  go_cut [35, 45, 55] (fun _ _ s wx => s = .bool false ∧ Hid (wx = w4))
  case first =>
    rcases hthree with ⟨f1, f2, f3⟩ | ⟨f1, f2, f3, f4, f5, f6⟩ | ⟨f1, f2, f3, f4⟩
    all_goals
      go_wp2_with fail
      go_meet
      exact ⟨rfl, Lib.hid rfl⟩
  case rest =>
    obtain ⟨rfl, hwc⟩ := hcut
    obtain rfl := hwc.out
    clear hwc c0 c1 c2 c3 c4 hxK hd1 hx0 hthree HRG HIN HSH
    go_wp2_with fail
    go_loopw [9] (fun i wr => ∃ (k : Nat), k ≤ P ∧ i = .int .i64 (k : Int) ∧ Hid (NbAt w wr w.heap.size h n)) (fun i _ => P - (intOf i).toNat)
    case atStart => exact ⟨0, Nat.zero_le _, rfl, H4⟩
    case round =>
      clear H4
      obtain ⟨k, hk, rfl, HO⟩ := hrel
      by_cases hlt : k < P
      · have hkl : k < n.ps.length := by rw [← HP.out]; exact hlt
        obtain ⟨g, off, he, y0⟩ := HO.out.nd.p.st hkl
        have HRK := Lib.hid (HRO.out k hkl)
        have HIK := Lib.hid (HRI.out k hkl)
        have HHE := Lib.hid he
        have HP2 : Hid (k < n.ps.length) := Lib.hid hkl
        generalize n.ps.getD k default = p at *
        have HY := Lib.hid y0
        have HCL : Hid (∀ W, Only (fun _ => False) wr W → W.cell? ⟨w.heap.size, 0, none⟩ = some (.bool n.leaf) ∧ W.cell? ⟨w.heap.size, 1, none⟩ = some (.slice h.eo n.es.length h.ec) ∧ W.cell? ⟨w.heap.size, 2, none⟩ = some (.slice (some ⟨g, off, none⟩) n.ps.length h.pc) ∧ W.cell? ⟨w.heap.size, 3, none⟩ = some (.slice h.ko n.ks.length h.kc) ∧ W.cell? ⟨w.heap.size, 4, none⟩ = some (.slice h.bo n.bs.length h.bc) ∧ W.cell? ⟨g, off + k, none⟩ = some (.string p)) := Lib.hid (fun W hW => by
          obtain ⟨c0, c1, c2, c3, c4⟩ := (HO.out.keep hW).cells
          rw [HHE.out] at c2
          exact ⟨c0, c1, c2, c3, c4, hW.cellq HY.out⟩)
        have HRT := Lib.hid (fun W (hn : NdAt W h n) => route_any h n p W hn)
        have e2 : ndv h n = .agg #[.bool n.leaf, .slice h.eo n.es.length h.ec, .slice (some ⟨g, off, none⟩) n.ps.length h.pc, .slice h.ko n.ks.length h.kc, .slice h.bo n.bs.length h.bc] := by rw [← he]
        rw [HRK.out, e2] at HRT
        obtain ⟨v, hv⟩ : ∃ v, Op.bytesLess a.toList p.toList = v := ⟨_, rfl⟩
        have hv2 : decide ((x : Int) ≤ (k : Int)) = v := by
          rw [← hv, Bool.eq_iff_iff, decide_eq_true_eq]
          have := HIK.out
          unfold blt at this
          rw [← this]
          omega
        have hv3 : decide (x ≤ k) = v := by
          rw [← hv2, Bool.eq_iff_iff, decide_eq_true_eq, decide_eq_true_eq]
          omega
        have hltI : (k : Int) < (P : Int) := by omega
        have h0 : (0 : Int) ≤ (k : Int) := by omega
        have hlp : (k : Int) < (n.ps.length : Int) := by have := HP2.out; omega
        have hs1 : IntKind.i64.wrap ((k : Int) + 1) = (k : Int) + 1 := IntWalk.i64_in _ (by omega)
        have hs2 : ((k : Int)).toNat = k := by omega
        obtain ⟨c0, c1, c2, c3, c4, _⟩ := HCL.out wr (Only.refl _ _)
        clear hkl he e2 y0 HRO HRI
        go_upto_region 12 with fail
        clear c0 c1 c2 c3 c4
        refine wp_region_held_drew (S := (fun w' => w'.cell? ⟨w.heap.size, 0, none⟩ = some (.bool n.leaf) ∧ w'.cell? ⟨w.heap.size, 1, none⟩ = some (.slice h.eo n.es.length h.ec) ∧ w'.cell? ⟨w.heap.size, 2, none⟩ = some (.slice (some ⟨g, off, none⟩) n.ps.length h.pc) ∧ w'.cell? ⟨w.heap.size, 3, none⟩ = some (.slice h.ko n.ks.length h.kc) ∧ w'.cell? ⟨w.heap.size, 4, none⟩ = some (.slice h.bo n.bs.length h.bc) ∧ w'.cell? ⟨g, off + k, none⟩ = some (.string p))) (by kernel_rfl) ?_ (fun hHeld => ?_)
        · exact HCL.out _ ((Only.refl _ wr).drew)
        refine wpAnyH_take (i := 0) (oi := ?_) (v := ?_) ?_ (by kernel_rfl) (by kernel_rfl) (by kernel_rfl) ?_ (Or.inl ⟨?_, ?_⟩) (by assumption) ?_
        rotate_left 2
        · (simp only [List.getElem?_toArray, List.getElem?_cons_zero]; rfl)
        · exact fun _ _ _ h => h
        · rfl
        · (intro w hSw; (try dsimp only at hSw); go_simp <;> with_reducible rfl)
        (try simp only [Act.put, List.setIfInBounds_toArray, List.set_cons_zero, List.set_cons_succ])
        refine wpAnyH_take (i := 1) (oi := ?_) (v := ?_) ?_ (by kernel_rfl) (by kernel_rfl) (by kernel_rfl) ?_ (Or.inl ⟨?_, ?_⟩) (by assumption) ?_
        rotate_left 2
        · (simp only [List.getElem?_toArray, List.getElem?_cons_succ, List.getElem?_cons_zero]; rfl)
        · exact fun _ _ _ h => h
        · rfl
        · (intro w hSw; (try dsimp only at hSw); go_simp <;> with_reducible rfl)
        (try simp only [Act.put, List.setIfInBounds_toArray, List.set_cons_zero, List.set_cons_succ])
        refine wpAnyH_take (i := 2) (oi := ?_) (v := ?_) ?_ (by kernel_rfl) (by kernel_rfl) (by kernel_rfl) ?_ (Or.inl ⟨?_, ?_⟩) (by assumption) ?_
        rotate_left 2
        · (simp only [List.getElem?_toArray, List.getElem?_cons_succ, List.getElem?_cons_zero]; rfl)
        · exact fun _ _ _ h => h
        · rfl
        · (intro w hSw; (try dsimp only at hSw); go_simp <;> with_reducible rfl)
        (try simp only [Act.put, List.setIfInBounds_toArray, List.set_cons_zero, List.set_cons_succ])
        refine wpAnyH_take (i := 3) (oi := ?_) (v := ?_) ?_ (by kernel_rfl) (by kernel_rfl) (by kernel_rfl) ?_ (Or.inl ⟨?_, ?_⟩) (by assumption) ?_
        rotate_left 2
        · (simp only [List.getElem?_toArray, List.getElem?_cons_succ, List.getElem?_cons_zero]; rfl)
        · exact fun _ _ _ h => h
        · rfl
        · (intro w hSw; (try dsimp only at hSw); go_simp <;> with_reducible rfl)
        (try simp only [Act.put, List.setIfInBounds_toArray, List.set_cons_zero, List.set_cons_succ])
        refine wpAnyH_take (i := 4) (oi := ?_) (v := ?_) ?_ (by kernel_rfl) (by kernel_rfl) (by kernel_rfl) ?_ (Or.inl ⟨?_, ?_⟩) (by assumption) ?_
        rotate_left 2
        · (simp only [List.getElem?_toArray, List.getElem?_cons_succ, List.getElem?_cons_zero]; rfl)
        · exact fun _ _ _ h => h
        · rfl
        · (intro w hSw; (try dsimp only at hSw); go_simp <;> with_reducible rfl)
        (try simp only [Act.put, List.setIfInBounds_toArray, List.set_cons_zero, List.set_cons_succ])
        refine wpAnyH_take (i := 5) (oi := ?_) (v := ?_) ?_ (by kernel_rfl) (by kernel_rfl) (by kernel_rfl) ?_ (Or.inl ⟨?_, ?_⟩) (by assumption) ?_
        rotate_left 2
        · (simp only [List.getElem?_toArray, List.getElem?_cons_succ, List.getElem?_cons_zero]; rfl)
        · exact fun _ _ _ h => h
        · rfl
        · (intro w hSw; (try dsimp only at hSw); go_simp <;> with_reducible rfl)
        (try simp only [Act.put, List.setIfInBounds_toArray, List.set_cons_zero, List.set_cons_succ])
        refine wpAnyH_take (i := 7) (oi := ?_) (v := ?_) ?_ (by kernel_rfl) (by kernel_rfl) (by kernel_rfl) ?_ (Or.inl ⟨?_, ?_⟩) (by assumption) ?_
        rotate_left 2
        · (simp only [List.getElem?_toArray, List.getElem?_cons_succ, List.getElem?_cons_zero]; rfl)
        · exact fun _ _ _ h => h
        · rfl
        · (intro w hSw; (try dsimp only at hSw); go_simp <;> with_reducible rfl)
        (try simp only [Act.put, List.setIfInBounds_toArray, List.set_cons_zero, List.set_cons_succ])
        refine wpAnyH_take (i := 8) (oi := ?_) (v := ?_) ?_ (by kernel_rfl) (by kernel_rfl) (by kernel_rfl) ?_ (Or.inl ⟨?_, ?_⟩) (by assumption) ?_
        rotate_left 2
        · (simp only [List.getElem?_toArray, List.getElem?_cons_succ, List.getElem?_cons_zero]; rfl)
        · exact fun _ _ _ h => h
        · rfl
        · (intro w hSw; (try dsimp only at hSw); go_simp <;> with_reducible rfl)
        (try simp only [Act.put, List.setIfInBounds_toArray, List.set_cons_zero, List.set_cons_succ])
        refine wpAnyH_ready (rs := [6]) (by kernel_rfl) (by simp) (AllReadyH.cons (o := ?o6_1) ?h6_1 (fun K hK => ?s6_1) AllReadyH.nil)
        case h6_1 => (simp only [List.getElem?_toArray, List.getElem?_cons_succ, List.getElem?_cons_zero]; rfl)
        case' s6_1 =>
          (go_simp; refine (HRT.out _ (HO.out.nd.keep ((Only.refl _ wr).drew))).mono ?_; rintro r w5 ⟨rfl, ho⟩; have HO1 : Hid (Only (fun _ => False) wr w5) := Lib.hid (((Only.refl _ wr).drew).trans ho (fun _ _ h => h)); clear ho)
          refine hK.out _ _ ?_ (fun hHeld => ?_)
        · exact HCL.out _ HO1.out
        clear hK K
        (try simp only [Act.put, List.setIfInBounds_toArray, List.set_cons_zero, List.set_cons_succ])
        refine wpAnyH_take (i := 9) (oi := ?_) (v := ?_) ?_ (by kernel_rfl) (by kernel_rfl) (by kernel_rfl) ?_ (Or.inl ⟨?_, ?_⟩) (by assumption) ?_
        rotate_left 2
        · (simp only [List.getElem?_toArray, List.getElem?_cons_succ, List.getElem?_cons_zero]; rfl)
        · exact fun _ _ _ h => h
        · rfl
        · (intro w hSw; (try dsimp only at hSw); go_simp <;> with_reducible rfl)
        (try simp only [Act.put, List.setIfInBounds_toArray, List.set_cons_zero, List.set_cons_succ])
        refine wpAnyH_take (i := 10) (oi := ?_) (v := ?_) ?_ (by kernel_rfl) (by kernel_rfl) (by kernel_rfl) ?_ (Or.inl ⟨?_, ?_⟩) (by assumption) ?_
        rotate_left 2
        · (simp only [List.getElem?_toArray, List.getElem?_cons_succ, List.getElem?_cons_zero]; rfl)
        · exact fun _ _ _ h => h
        · rfl
        · (intro w hSw; (try dsimp only at hSw); go_simp <;> with_reducible rfl)
        (try simp only [Act.put, List.setIfInBounds_toArray, List.set_cons_zero, List.set_cons_succ])
        refine wpAnyH_take (i := 11) (oi := ?_) (v := ?_) ?_ (by kernel_rfl) (by kernel_rfl) (by kernel_rfl) ?_ (Or.inl ⟨?_, ?_⟩) (by assumption) ?_
        rotate_left 2
        · (simp only [List.getElem?_toArray, List.getElem?_cons_succ, List.getElem?_cons_zero]; rfl)
        · exact fun _ _ _ h => h
        · rfl
        · (intro w hSw; (try dsimp only at hSw); go_simp <;> with_reducible rfl)
        (try simp only [Act.put, List.setIfInBounds_toArray, List.set_cons_zero, List.set_cons_succ])
        refine wpAnyH_take (i := 12) (oi := ?_) (v := ?_) ?_ (by kernel_rfl) (by kernel_rfl) (by kernel_rfl) ?_ (Or.inl ⟨?_, ?_⟩) (by assumption) ?_
        rotate_left 2
        · (simp only [List.getElem?_toArray, List.getElem?_cons_succ, List.getElem?_cons_zero]; rfl)
        · exact fun _ _ _ h => h
        · rfl
        · (intro w hSw; (try dsimp only at hSw); go_simp <;> with_reducible rfl)
        (try simp only [Act.put, List.setIfInBounds_toArray, List.set_cons_zero, List.set_cons_succ])
        refine wpAnyH_take (i := 13) (oi := ?_) (v := ?_) ?_ (by kernel_rfl) (by kernel_rfl) (by kernel_rfl) ?_ (Or.inl ⟨?_, ?_⟩) (by assumption) ?_
        rotate_left 2
        · (simp only [List.getElem?_toArray, List.getElem?_cons_succ, List.getElem?_cons_zero]; rfl)
        · exact fun _ _ _ h => h
        · rfl
        · (intro w hSw; (try dsimp only at hSw); go_simp <;> with_reducible rfl)
        (try simp only [Act.put, List.setIfInBounds_toArray, List.set_cons_zero, List.set_cons_succ])
        refine wpAnyH_take (i := 14) (oi := ?_) (v := ?_) ?_ (by kernel_rfl) (by kernel_rfl) (by kernel_rfl) ?_ (Or.inl ⟨?_, ?_⟩) (by assumption) ?_
        rotate_left 2
        · (simp only [List.getElem?_toArray, List.getElem?_cons_succ, List.getElem?_cons_zero]; rfl)
        · exact fun _ _ _ h => h
        · rfl
        · (intro w hSw; (try dsimp only at hSw); go_simp <;> with_reducible rfl)
        (try simp only [Act.put, List.setIfInBounds_toArray, List.set_cons_zero, List.set_cons_succ])
        refine wpAnyH_take (i := 15) (oi := ?_) (v := ?_) ?_ (by kernel_rfl) (by kernel_rfl) (by kernel_rfl) ?_ (Or.inl ⟨?_, ?_⟩) (by assumption) ?_
        rotate_left 2
        · (simp only [List.getElem?_toArray, List.getElem?_cons_succ, List.getElem?_cons_zero]; rfl)
        · exact fun _ _ _ h => h
        · rfl
        · (intro w hSw; (try dsimp only at hSw); go_simp <;> with_reducible rfl)
        (try simp only [Act.put, List.setIfInBounds_toArray, List.set_cons_zero, List.set_cons_succ])
        refine wpAnyH_take (i := 16) (oi := ?_) (v := ?_) ?_ (by kernel_rfl) (by kernel_rfl) (by kernel_rfl) ?_ (Or.inl ⟨?_, ?_⟩) (by assumption) ?_
        rotate_left 2
        · (simp only [List.getElem?_toArray, List.getElem?_cons_succ, List.getElem?_cons_zero]; rfl)
        · exact fun _ _ _ h => h
        · rfl
        · (intro w hSw; (try dsimp only at hSw); go_simp <;> with_reducible rfl)
        (try simp only [Act.put, List.setIfInBounds_toArray, List.set_cons_zero, List.set_cons_succ])
        refine wpAnyH_take (i := 17) (oi := ?_) (v := ?_) ?_ (by kernel_rfl) (by kernel_rfl) (by kernel_rfl) ?_ (Or.inl ⟨?_, ?_⟩) (by assumption) ?_
        rotate_left 2
        · (simp only [List.getElem?_toArray, List.getElem?_cons_succ, List.getElem?_cons_zero]; rfl)
        · exact fun _ _ _ h => h
        · rfl
        · (intro w hSw; (try dsimp only at hSw); go_simp <;> with_reducible rfl)
        (try simp only [Act.put, List.setIfInBounds_toArray, List.set_cons_zero, List.set_cons_succ])
        refine wpAnyH_take (i := 18) (oi := ?_) (v := ?_) ?_ (by kernel_rfl) (by kernel_rfl) (by kernel_rfl) ?_ (Or.inl ⟨?_, ?_⟩) (by assumption) ?_
        rotate_left 2
        · (simp only [List.getElem?_toArray, List.getElem?_cons_succ, List.getElem?_cons_zero]; rfl)
        · exact fun _ _ _ h => h
        · rfl
        · (intro w hSw; (try dsimp only at hSw); go_simp <;> with_reducible rfl)
        (try simp only [Act.put, List.setIfInBounds_toArray, List.set_cons_zero, List.set_cons_succ])
        refine wpAnyH_take (i := 19) (oi := ?_) (v := ?_) ?_ (by kernel_rfl) (by kernel_rfl) (by kernel_rfl) ?_ (Or.inl ⟨?_, ?_⟩) (by assumption) ?_
        rotate_left 2
        · (simp only [List.getElem?_toArray, List.getElem?_cons_succ, List.getElem?_cons_zero]; rfl)
        · exact fun _ _ _ h => h
        · rfl
        · (intro w hSw; (try dsimp only at hSw); go_simp <;> with_reducible rfl)
        (try simp only [Act.put, List.setIfInBounds_toArray, List.set_cons_zero, List.set_cons_succ])
        refine wpAnyH_take (i := 20) (oi := ?_) (v := ?_) ?_ (by kernel_rfl) (by kernel_rfl) (by kernel_rfl) ?_ (Or.inl ⟨?_, ?_⟩) (by assumption) ?_
        rotate_left 2
        · (simp only [List.getElem?_toArray, List.getElem?_cons_succ, List.getElem?_cons_zero]; rfl)
        · exact fun _ _ _ h => h
        · rfl
        · (intro w hSw; (try dsimp only at hSw); go_simp <;> with_reducible rfl)
        (try simp only [Act.put, List.setIfInBounds_toArray, List.set_cons_zero, List.set_cons_succ])
        refine wpAnyH_take (i := 21) (oi := ?_) (v := ?_) ?_ (by kernel_rfl) (by kernel_rfl) (by kernel_rfl) ?_ (Or.inl ⟨?_, ?_⟩) (by assumption) ?_
        rotate_left 2
        · (simp only [List.getElem?_toArray, List.getElem?_cons_succ, List.getElem?_cons_zero]; rfl)
        · exact fun _ _ _ h => h
        · rfl
        · (intro w hSw; (try dsimp only at hSw); go_simp <;> with_reducible rfl)
        (try simp only [Act.put, List.setIfInBounds_toArray, List.set_cons_zero, List.set_cons_succ])
        refine wpAnyH_take (i := 22) (oi := ?_) (v := ?_) ?_ (by kernel_rfl) (by kernel_rfl) (by kernel_rfl) ?_ (Or.inl ⟨?_, ?_⟩) (by assumption) ?_
        rotate_left 2
        · (simp only [List.getElem?_toArray, List.getElem?_cons_succ, List.getElem?_cons_zero]; rfl)
        · exact fun _ _ _ h => h
        · rfl
        · (intro w hSw; (try dsimp only at hSw); go_simp <;> with_reducible rfl)
        (try simp only [Act.put, List.setIfInBounds_toArray, List.set_cons_zero, List.set_cons_succ])
        refine wpAnyH_done (by kernel_rfl) ?_ _
        have H5 := Lib.hid (HO.out.keep HO1.out)
        clear HCL HO HO1 HRT hs1 hs2
        cases v
        all_goals
          go_wp2_with fail
          go_roundw
          case rel => exact ⟨k + 1, by omega, by go_num, H5⟩
          case measure => simp [intOf]; omega
      · have hltI : ¬ (k : Int) < (P : Int) := by omega
        obtain ⟨c0, c1, c2, c3, c4⟩ := HO.out.cells
        rw [← HP.out] at c2
        rw [← HB.out] at c4
        clear HRO HRI
        go_wp2_with fail
        clear c0 c1 c2 c3 c4
        go_loopw [10, 11] (fun sm i wr => ∃ (z : Nat), z ≤ B ∧ i = .int .i64 (z : Int) ∧ Hid (sm = .int .i64 (waitW (n.bs.take z))) ∧ Hid (NbAt w wr w.heap.size h n)) (fun _ i _ => B - (intOf i).toNat)
        case atStart => exact ⟨0, Nat.zero_le _, rfl, Lib.hid rfl, HO⟩
        case round =>
          clear HO
          obtain ⟨z, hz, rfl, HR, HO⟩ := hrel
          obtain ⟨r, hr⟩ : ∃ r : Int, waitW (n.bs.take z) = r := ⟨_, rfl⟩
          have HRK := Lib.hid hr
          rw [hr] at HR
          obtain rfl := HR.out
          clear HR hr
          obtain ⟨c0, c1, c2, c3, c4⟩ := HO.out.cells
          by_cases hlt : z < B
          · obtain ⟨g, off, ao, c, he, y, _, _⟩ := HO.out.nd.b z (by rw [← HB.out]; exact hlt)
            have HST := Lib.hid (waitW_step (by rw [← HB.out]; exact hlt : z < n.bs.length))
            rw [← HB.out, he] at c4
            generalize n.bs.getD z default = l at *
            rw [HRK.out] at HST
            obtain ⟨q, hq⟩ : ∃ q, q = l.length := ⟨_, rfl⟩
            rw [← hq] at y HST
            have hltI : (z : Int) < (B : Int) := by omega
            have h0 : (0 : Int) ≤ (z : Int) := by omega
            clear hq he c0 c1 c2 c3
            go_wp2_with fail
            go_roundw
            case rel => exact ⟨z + 1, by omega, by go_num, Lib.hid (by rw [HST.out]), HO⟩
            case measure => simp [intOf]; omega
          · have hltI : ¬ (z : Int) < (B : Int) := by omega
            have HE : Hid (waitW n.bs = r) := Lib.hid (by rw [← HRK.out, List.take_of_length_le (by have := HB.out; omega)])
            have hwt := waiting_any h n wr HO.out.nd
            have e2 : ndv h n = .agg #[.bool n.leaf, .slice h.eo n.es.length h.ec, .slice h.po n.ps.length h.pc, .slice h.ko n.ks.length h.kc, .slice h.bo B h.bc] := by rw [HB.out]
            rw [HE.out, e2] at hwt
            have HWT := Lib.hid hwt
            rw [← HB.out] at c4
            clear hwt e2
            go_wp2_with fail
            refine HWT.out.mono ?_
            rintro e w6 ⟨rfl, ho⟩
            have H6 := Lib.hid (HO.out.keep ho)
            clear ho HO HWT c0 c1 c2 c3 c4
            go_wp2_with fail
            go_ret
            exact ⟨by simp, only_b H6.out.only⟩

end Go.Proofs.Ytookbmpaoljelaa
