/-
  MsgFolds: its walk.
-/
import Derived.Test.YtlmpknhekoeecaaMsgFoldsP
import Derived.Laws.StructEq
namespace Go.Proofs.Ytlmpknhekoeecaa
open Go Go.RowKit
set_option linter.unusedVariables false
set_option linter.unusedSimpArgs false
set_option maxRecDepth 100000

theorem filter_take {f : Ms → Bool} {l : List Ms} {k : Nat} (h : k < l.length) : (l.take (k + 1)).filter f = if f (l.getD k default) = true then (l.take k).filter f ++ [l.getD k default] else (l.take k).filter f := by
  have e1 : l.take (k + 1) = l.take k ++ [l.getD k default] := by
    rw [List.take_succ_eq_append_getElem h]
    simp [h]
  rw [e1, List.filter_append]
  by_cases hf : f (l.getD k default) = true
  · rw [if_pos hf, List.filter_cons_of_pos hf, List.filter_nil]
  · rw [if_neg hf, List.filter_cons_of_neg hf, List.filter_nil, List.append_nil]

set_option maxHeartbeats 16000000 in
theorem mfolds_walk (e : En) (ao : Option Addr) (cap : Nat) (l : List Ms) (z : Int) (w : World) (he : EnOk e) (hl : SlM w ao l) (hb : l.length * 72 ≤ 140737488351232) (hsh : Shp ao l.length cap) :
    Calls Try.prog 5 #[env e, .slice ao l.length cap, .int .i64 z] w fun r w' => r = .returned (.bool true) ∧ Below w.heap.size w w' := by
  obtain ⟨n, hn⟩ : ∃ n, n = l.length := ⟨_, rfl⟩
  rw [← hn] at hsh ⊢
  have HN := Lib.hid hn
  have HSL := Lib.hid hl
  have HBY := Lib.hid hb
  have HSH := Lib.hid hsh
  have HMO : Hid (∀ m ∈ l, MsOk m) := Lib.hid hl.ok
  have HL := Lib.hid (LawAt.start w e)
  have HA := Lib.hid (fun W => apply_any e m0 W he m0_ok)
  have s1 := apply_size he m0_ok
  obtain ⟨e1, hu⟩ : ∃ u, applyE e m0 = u := ⟨_, rfl⟩
  rw [hu] at HA s1
  have HES := Lib.hid s1
  have HC0 := Lib.hid (fun W => fold_any e1 ao n cap l W s1)
  clear hu he s1 hn hl hb hsh
  obtain ⟨k, h, v, x, nt, nv⟩ := e
  obtain ⟨k1, h1, v1, x1, n1, nv1⟩ := e1
  have hnI : (n : Int) ≤ 1954687338212 := by have := HBY.out; have := HN.out; omega
  have hn0 : (0 : Int) ≤ (n : Int) := by omega
  go_enter Try.func5, Try.ntmps5
  go_wp2_with fail
  refine (mawake_any _).mono ?_
  rintro r w1 ⟨rfl, ha⟩
  have H1 := Lib.hid (HL.out.keep (below_quiet ha))
  clear ha HL
  obtain ⟨⟨z0, z1, z2, z3, z4, z5⟩, f0, f1, f2, f3, f4, f5⟩ := blk6 H1.out.e
  go_wp2_with fail
  refine (HA.out _).mono ?_
  rintro r w2 ⟨rfl, ha⟩
  have H2 := Lib.hid (H1.out.keep (below_quiet ha))
  have H3 := Lib.hid (H2.out.set ⟨k1, h1, v1, x1, n1, nv1⟩)
  clear ha H1 z0 z1 z2 z3 z4 z5 f0 f1 f2 f3 f4 f5
  obtain ⟨⟨z0, z1, z2, z3, z4, z5⟩, f0, f1, f2, f3, f4, f5⟩ := blk6 H2.out.e
  go_upto_region 4 with fail
  clear z0 z1 z2 z3 z4 z5 f0 f1 f2 f3 f4 f5 H2
  generalize World.setCell (World.setCell (World.setCell (World.setCell (World.setCell (World.setCell w2 _ _) _ _) _ _) _ _) _ _) _ _ = w3 at *
  obtain ⟨r, q, hr, hr1, hr2, hqn, hq⟩ := rem_spec n z
  have hne : ((n : Int) + 1 == 0) = false := by rw [beq_eq_false_iff_ne]; omega
  have hnz : ¬ ((n : Int) + 1 = 0) := by omega
  go_upto_region 5 with fail
  clear hr hr1 hr2 hq hne hnz
  have HQN := Lib.hid hqn
  clear hqn
  have HO : Hid (Own w3 w3 (Sep (RowV 28 7 (.slice none 0 0) ((l.take 0).filter (isFor k1)).length (mcells ((l.take 0).filter (isFor k1)))) Emp)) := Lib.hid ((Own.start w3).row_nil 28 7)
  go_wp2_with fail
  go_loopw [7, 8] (fun ov i wr => ∃ (k : Nat) (V : Value), k ≤ n ∧ i = .int .i64 (k : Int) ∧ V = ov ∧ Hid (Own w3 wr (Sep (RowV 28 7 V ((l.take k).filter (isFor k1)).length (mcells ((l.take k).filter (isFor k1)))) Emp))) (fun _ i _ => n - (intOf i).toNat)
  case atStart => exact ⟨0, _, Nat.zero_le _, rfl, rfl, HO⟩
  case round =>
    clear HO
    obtain ⟨k, ov, hk, rfl, rfl, HO⟩ := hrel
    have HLW := Lib.hid (H3.out.keep HO.out.only)
    have hk0 : (0 : Int) ≤ (k : Int) := by omega
    by_cases hlt : k < n
    · have hltI : (k : Int) < (n : Int) := by omega
      have hkl : k < l.length := by rw [← HN.out]; exact hlt
      have HFT := Lib.hid (filter_take (f := isFor k1) hkl)
      have HXL : Hid (((l.take k).filter (isFor k1)).length ≤ k) := Lib.hid (Nat.le_trans (List.length_filter_le _ _) (by rw [List.length_take]; omega))
      obtain ⟨g, off, rfl, hm⟩ := (HSL.out.keep HLW.out.only) k hkl
      generalize l.getD k default = m at *
      generalize (l.take k).filter (isFor k1) = xs at *
      obtain ⟨sq, K, mk, mx, mv, mo, num⟩ := m
      obtain ⟨y0, y1, y2, y3, y4, y5, y6, _⟩ := hm
      obtain ⟨⟨z0, z1, z2, z3, z4, z5⟩, _⟩ := blk6 HLW.out.e
      clear hkl
      by_cases hf : isFor k1 ⟨sq, K, mk, mx, mv, mo, num⟩ = true
      · have HR : Hid ((l.take (k + 1)).filter (isFor k1) = xs ++ [⟨sq, K, mk, mx, mv, mo, num⟩]) := Lib.hid (by rw [HFT.out, if_pos hf])
        have hw : (K == 4) = true ∨ (K == 4) = false ∧ (mk.toList == k1.toList) = true := by
          unfold isFor at hf
          simp only [Bool.or_eq_true, decide_eq_true_eq] at hf
          by_cases h4 : K = 4
          · exact .inl (by simpa using h4)
          · exact .inr ⟨by simpa using h4, hf.resolve_left h4⟩
        clear hf HFT
        rcases hw with hw | ⟨hw, hw2⟩
        all_goals
          go_upto_region 9 with fail
          go_quiet (fail)
          go_upto_region 10 with fail
          have HOD := Lib.hid (HO.out.drewN nq)
          have yy := fun (c : Addr) (u : Value) (h : wr.cell? c = some u) => (((Only.refl (fun _ => False) wr).drewN nq).cellq h)
          replace y0 := yy _ _ y0
          replace y1 := yy _ _ y1
          replace y2 := yy _ _ y2
          replace y3 := yy _ _ y3
          replace y4 := yy _ _ y4
          replace y5 := yy _ _ y5
          replace y6 := yy _ _ y6
          clear yy
          generalize World.drewN wr nq = wr2 at *
          go_wp2_with (at_builtin; go_loud (refine own_appendM HOD.out ⟨sq, K, mk, mx, mv, mo, num⟩ 1 (by have := HXL.out; have := HBY.out; have := HN.out; omega) rfl _ _ rfl rfl rfl ?_))
          intro g2 cap2 n2 w5 hn2 hown
          have HO2 : Hid (Own w3 w5 (Sep (RowV 28 7 (.slice (some ⟨g2, 0, none⟩) n2 cap2) ((l.take (k + 1)).filter (isFor k1)).length (mcells ((l.take (k + 1)).filter (isFor k1)))) Emp)) := Lib.hid (by rw [HR.out, List.length_append]; exact hown.out)
          clear hown hn2 HO HOD HR z0 z1 z2 z3 z4 z5 y0 y1 y2 y3 y4 y5 y6
          go_wp2_with fail
          go_roundw
          case rel => exact ⟨k + 1, _, by omega, by go_num, rfl, HO2⟩
          case measure => simp [intOf]; omega
      · have HR : Hid ((l.take (k + 1)).filter (isFor k1) = xs) := Lib.hid (by rw [HFT.out, if_neg hf])
        have hw : (K == 4) = false ∧ (mk.toList == k1.toList) = false := by
          unfold isFor at hf
          simp only [Bool.or_eq_true, decide_eq_true_eq, not_or] at hf
          exact ⟨by simpa using hf.1, by simpa using hf.2⟩
        obtain ⟨hw, hw2⟩ := hw
        clear hf HFT
        go_upto_region 9 with fail
        go_quiet (fail)
        have HO2 : Hid (Own w3 (wr.drewN nq) (Sep (RowV 28 7 ov ((l.take (k + 1)).filter (isFor k1)).length (mcells ((l.take (k + 1)).filter (isFor k1)))) Emp)) := Lib.hid (by rw [HR.out]; exact HO.out.drewN nq)
        clear HO HR z0 z1 z2 z3 z4 z5 y0 y1 y2 y3 y4 y5 y6
        go_wp2_with fail
        go_roundw
        case rel => exact ⟨k + 1, _, by omega, by go_num, rfl, HO2⟩
        case measure => simp [intOf]; omega
    · obtain rfl : k = n := by omega
      have hltI : ¬ (k : Int) < (k : Int) := by omega
      have hown := HO.out
      rw [List.take_of_length_le (by rw [HN.out]; exact Nat.le_refl _)] at hown
      have HOS : Hid (∀ m ∈ l.filter (isFor k1), MsOk m) := Lib.hid (fun m hm => HMO.out m ((List.mem_filter.1 hm).1))
      have hfo : foldE ⟨k1, h1, v1, x1, n1, nv1⟩ (l.filter (isFor k1)) = foldE ⟨k1, h1, v1, x1, n1, nv1⟩ l := fold_own l ⟨k1, h1, v1, x1, n1, nv1⟩
      have hfl : (l.filter (isFor k1)).length ≤ l.length := List.length_filter_le _ _
      obtain ⟨oo, oc, rfl, hos, hsh2⟩ := row_slm hown HOS.out
      generalize l.filter (isFor k1) = own at *
      have HSO := Lib.hid hos
      clear hown hsh2 hos HO
      obtain ⟨bo, hbk, hbs, hbl⟩ := back_ms HSH.out HQN.out
      have hfr := fun W => front_ms HSH.out HQN.out W
      have HBK := Lib.hid (fun W hs => hbl W l HN.out.symm hs)
      have HBS := Lib.hid hbs
      have HFS := Lib.hid (HSH.out.front HQN.out)
      have HDL : Hid (k - q = (l.drop q).length) := Lib.hid (by rw [List.length_drop, ← HN.out])
      clear hbl hbs
      obtain ⟨d, hd⟩ : ∃ d, k - q = d := ⟨_, rfl⟩
      obtain ⟨bc, hbc⟩ : ∃ bc, cap - q = bc := ⟨_, rfl⟩
      rw [hd] at hbk HBS HDL
      rw [hbc] at hbk HBS
      clear hd hbc
      obtain ⟨E1, hE1⟩ : ∃ u, foldE ⟨k1, h1, v1, x1, n1, nv1⟩ (l.take q) = u := ⟨_, rfl⟩
      obtain ⟨A, hA⟩ : ∃ u, foldE ⟨k1, h1, v1, x1, n1, nv1⟩ l = u := ⟨_, rfl⟩
      have hA2 : foldE E1 (l.drop q) = A := by rw [← hE1, ← fold_append, List.take_append_drop, hA]
      have hE1s : EnOk E1 := by rw [← hE1]; exact fold_size _ _ HES.out (fun m hm => HMO.out m (List.mem_of_mem_take hm))
      have hAk : A.k = k1 := by rw [← hA, fold_k]
      have hlt' : (l.take q).length ≤ l.length := by rw [List.length_take]; omega
      have hld' : (l.drop q).length ≤ l.length := by rw [List.length_drop]; omega
      have HC1 : Hid (∀ g c W, SlM W (some ⟨g, 0, none⟩) (l.take q) → Calls Try.prog 11 #[env ⟨k1, h1, v1, x1, n1, nv1⟩, .slice (some ⟨g, 0, none⟩) q c] W fun r w' => r = .returned (env E1) ∧ Below W.heap.size W w') := Lib.hid (fun g c W hs => by
        have := fold_any ⟨k1, h1, v1, x1, n1, nv1⟩ (some ⟨g, 0, none⟩) q c (l.take q) W HES.out hs (by rw [List.length_take]; have := HQN.out; have := HN.out; omega) (by have := HBY.out; omega)
        rwa [hE1] at this)
      have HC2 : Hid (∀ g c W, SlM W (some ⟨g, 0, none⟩) (l.drop q) → Calls Try.prog 11 #[env E1, .slice (some ⟨g, 0, none⟩) d c] W fun r w' => r = .returned (env A) ∧ Below W.heap.size W w') := Lib.hid (fun g c W hs => by
        have := fold_any E1 (some ⟨g, 0, none⟩) d c (l.drop q) W hE1s hs HDL.out (by have := HBY.out; omega)
        rwa [hA2] at this)
      have HC3 : Hid (∀ W, SlM W oo own → Calls Try.prog 11 #[env ⟨k1, h1, v1, x1, n1, nv1⟩, .slice oo own.length oc] W fun r w' => r = .returned (env A) ∧ Below W.heap.size W w') := Lib.hid (fun W hs => by
        have := fold_any ⟨k1, h1, v1, x1, n1, nv1⟩ oo own.length oc own W HES.out hs rfl (by have := HBY.out; omega)
        rwa [hfo, hA] at this)
      have HC4 : Hid (∀ W, Calls Try.prog 11 #[env ⟨k1, h1, v1, x1, n1, nv1⟩, .slice none 0 0] W fun r w' => r = .returned (env ⟨k1, h1, v1, x1, n1, nv1⟩) ∧ Below W.heap.size W w') := Lib.hid (fun W =>
        fold_any ⟨k1, h1, v1, x1, n1, nv1⟩ none 0 0 [] W HES.out (fun j hj => by simp at hj) rfl (by simp))
      have HC0 : Hid (∀ W, SlM W ao l → Calls Try.prog 11 #[env ⟨k1, h1, v1, x1, n1, nv1⟩, .slice ao k cap] W fun r w' => r = .returned (env A) ∧ Below W.heap.size W w') := Lib.hid (fun W hs => by
        have := HC0.out W hs HN.out HBY.out
        rwa [hA] at this)
      clear hfo hfl hE1 hA hA2 hE1s hlt' hld' HMO HOS
      obtain ⟨kE, hE, vE, xE, nE, nvE⟩ := E1
      obtain ⟨kA, hA, vA, xA, nA, nvA⟩ := A
      obtain rfl : kA = k1 := hAk
      obtain ⟨⟨z0, z1, z2, z3, z4, z5⟩, _⟩ := blk6 HLW.out.e
      go_wp2_with fail
      refine (HC0.out _ (HSL.out.keep HLW.out.only)).mono ?_
      rintro r w6 ⟨rfl, ha⟩
      have HL6 := Lib.hid (HLW.out.keep (below_quiet ha))
      have HS6 := Lib.hid (HSO.out.keep (below_quiet ha))
      clear ha HLW HSO z0 z1 z2 z3 z4 z5 HC0
      go_upto_region 12 with fail
      have HW : Hid (FlAt w (w6.alloc (.cells #[.string kA, .bool hA, .string vA, .int .u64 xA, .bool nA, .string nvA] 26)) w6.heap.size ⟨kA, h1, v1, x1, n1, nv1⟩ ⟨kA, hA, vA, xA, nA, nvA⟩ ao oo l own q none none) := Lib.hid (by
        have ho := (Only.refl (fun _ => False) w6).alloc (.cells #[.string kA, .bool hA, .string vA, .int .u64 xA, .bool nA, .string nvA] 26)
        exact ⟨(HL6.out.keep ho).e, hasE_new w6 ⟨kA, hA, vA, xA, nA, nvA⟩, (HL6.out.keep ho).only, HSL.out.keep (HL6.out.keep ho).only, HS6.out.keep ho, (fun g e => by cases e), (fun g e => by cases e)⟩)
      obtain ⟨pa, hp⟩ : ∃ p, w6.heap.size = p := ⟨_, rfl⟩
      rw [hp] at HW
      generalize w6.alloc (.cells #[.string kA, .bool hA, .string vA, .int .u64 xA, .bool nA, .string nvA] 26) = w7 at *
      rw [hp]
      clear hp HL6 HS6 H3 HSL HES HA
      go_region_held3 (fun w' => w'.cell? ⟨w.heap.size, 0, none⟩ = some (.string kA) ∧ w'.cell? ⟨w.heap.size, 1, none⟩ = some (.bool h1) ∧ w'.cell? ⟨w.heap.size, 2, none⟩ = some (.string v1) ∧ w'.cell? ⟨w.heap.size, 3, none⟩ = some (.int .u64 x1) ∧ w'.cell? ⟨w.heap.size, 4, none⟩ = some (.bool n1) ∧ w'.cell? ⟨w.heap.size, 5, none⟩ = some (.string nv1) ∧
          w'.cell? ⟨pa, 0, none⟩ = some (.string kA) ∧ w'.cell? ⟨pa, 1, none⟩ = some (.bool hA) ∧ w'.cell? ⟨pa, 2, none⟩ = some (.string vA) ∧ w'.cell? ⟨pa, 3, none⟩ = some (.int .u64 xA) ∧ w'.cell? ⟨pa, 4, none⟩ = some (.bool nA) ∧ w'.cell? ⟨pa, 5, none⟩ = some (.string nvA))
        (with_reducible refine HW.out.cells ?_; repeat (first | with_reducible exact Only.refl _ _ | with_reducible refine Only.drew ?_ | with_reducible refine Only.alloc ?_ _))
        (first
          | ((with_reducible refine fl_app1 HW.out rfl (.tmp 61) (.tmp 64) cap rfl (by have := HQN.out; have := HN.out; omega) HBY.out HFS.out ?_ ?_ ?_ ?_); (go_must (exact ⟨_, rfl⟩)); (go_must (first | rfl | simp [Act.eval])); (go_must (repeat (first | exact Only.refl _ _ | refine Only.drew ?_ | refine Only.alloc ?_ _))); (go_must (intro g1 c1 wa hna; replace HW := hna)))
          | ((with_reducible refine fl_app2 HW.out rfl (.tmp 67) (.tmp 70) bo d bc rfl HDL.out HBY.out HBS.out HBK.out ?_ ?_ ?_ ?_); (go_must (exact ⟨_, rfl⟩)); (go_must (first | rfl | simp [Act.eval])); (go_must (repeat (first | exact Only.refl _ _ | refine Only.drew ?_ | refine Only.alloc ?_ _))); (go_must (intro g2 c2 wc hnc; replace HW := hnc)))
          | (go_at_call 11; (with_reducible refine (HC1.out _ _ _ ((HW.out.keep (by repeat (first | exact Only.refl _ _ | refine Only.drew ?_ | refine Only.alloc ?_ _))).t1 _ rfl)).mono ?_); rintro r wb ⟨rfl, hbb⟩; replace HW := Lib.hid ((HW.out.keep (by repeat (first | exact Only.refl _ _ | refine Only.drew ?_ | refine Only.alloc ?_ _))).keep (below_quiet hbb)); clear hbb)
          | (go_at_call 11; (with_reducible refine (HC2.out _ _ _ ((HW.out.keep (by repeat (first | exact Only.refl _ _ | refine Only.drew ?_ | refine Only.alloc ?_ _))).t2 _ rfl)).mono ?_); rintro r wd ⟨rfl, hbb⟩; replace HW := Lib.hid ((HW.out.keep (by repeat (first | exact Only.refl _ _ | refine Only.drew ?_ | refine Only.alloc ?_ _))).keep (below_quiet hbb)); clear hbb)
          | (go_at_call 11; (with_reducible refine (HC3.out _ (HW.out.keep (by repeat (first | exact Only.refl _ _ | refine Only.drew ?_ | refine Only.alloc ?_ _))).so).mono ?_); rintro r we ⟨rfl, hbb⟩; replace HW := Lib.hid ((HW.out.keep (by repeat (first | exact Only.refl _ _ | refine Only.drew ?_ | refine Only.alloc ?_ _))).keep (below_quiet hbb)); clear hbb)
          | (go_at_call 11; (with_reducible refine (HC4.out _).mono ?_); rintro r wf ⟨rfl, hbb⟩; replace HW := Lib.hid ((HW.out.keep (by repeat (first | exact Only.refl _ _ | refine Only.drew ?_ | refine Only.alloc ?_ _))).keep (below_quiet hbb)); clear hbb))
      all_goals
        go_wp2_with fail
        go_ret
        exact ⟨rfl, only_b HW.out.only⟩

end Go.Proofs.Ytlmpknhekoeecaa
