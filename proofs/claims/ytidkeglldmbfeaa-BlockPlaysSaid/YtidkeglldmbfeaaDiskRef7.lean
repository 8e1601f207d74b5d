/-
  Contract of the reference's Crash.
-/
import Derived.Test.YtidkeglldmbfeaaDiskRef6
namespace Go.Proofs.Ytidkeglldmbfeaa
open Go Go.RowKit
set_option linter.unusedVariables false
set_option linter.unusedSimpArgs false
set_option maxRecDepth 100000

theorem wputs_at : ∀ (L : List (Nat × Nat)) (j : Nat), j < L.length → (wputs L)[j * 2]? = some (.int .i64 (L.getD j default).1) ∧ (wputs L)[j * 2 + 1]? = some (sl64 (L.getD j default).2)
  | [], j, h => by simp at h
  | x :: L, 0, h => by simp [wputs]
  | x :: L, j + 1, h => by
    have := wputs_at L j (by simpa using h)
    have e : wputs (x :: L) = .int .i64 x.1 :: sl64 x.2 :: wputs L := by simp [wputs]
    rw [e, show (j + 1) * 2 = j * 2 + 1 + 1 by omega]
    simpa using this
theorem RefM.waitCell {w : World} {r gk gs ck cs : Nat} {vw : Value} {f : Int} {dn : Bool} {wr sy n m : Nat} {kb sb : List Nat} {wb : List (Nat × Nat)} (h : RefM w r gk gs ck cs vw f dn wr sy n m kb sb wb) {j : Nat} (hj : j < m) :
    ∃ gw cap, vw = .slice (some ⟨gw, 0, none⟩) m cap ∧ w.cell? ⟨gw, j * 2, none⟩ = some (.int .i64 (wb.getD j default).1) ∧ w.cell? ⟨gw, j * 2 + 1, none⟩ = some (sl64 (wb.getD j default).2) := by
  obtain ⟨h1, h2⟩ := wputs_at wb j (by rw [h.lw]; exact hj)
  have hrow := h.row
  rcases hrow.2 with ⟨_, e⟩ | ⟨gw, cap, cur, rfl, _⟩
  · omega
  · exact ⟨gw, cap, rfl, by rw [hrow.cellAt (j * 2) (by omega)]; exact h1, by rw [hrow.cellAt (j * 2 + 1) (by omega)]; exact h2⟩
theorem chosen_enough : ∀ (W : List (Nat × List UInt8)) (keep : List Int) (j : Nat), keep.length ≤ j → chosen (W.take j) keep = chosen W keep
  | [], keep, j, h => by simp
  | x :: W, [], j, h => by simp [chosen]
  | x :: W, z :: keep, 0, h => by simp at h
  | x :: W, z :: keep, j + 1, h => by
    have := chosen_enough W keep j (by simpa using h)
    simp only [chosen] at this
    simp only [chosen, List.take_succ_cons, List.zip_cons_cons, List.filterMap_cons, this]

/-- What is kept, while a Crash goes over what waits. -/
def KeptAs (w : World) (n : Nat) (kb : List Nat) (K : List UInt8) : Prop := kb.length = n ∧ K.length = n * 64 ∧ ∀ q, q < n → HasB w (kb.getD q 0) (sec K q)
theorem KeptAs.lay {w : World} {n q g : Nat} {kb : List Nat} {K s : List UInt8} (h : KeptAs w n kb K) (hq : q < n) (hg : HasB w g s) : KeptAs w n (kb.set q g) (put K q s) := by
  obtain ⟨h1, h2, h3⟩ := h
  refine ⟨by simpa using h1, put_length h2 hq hg.2, fun j hj => ?_⟩
  by_cases e : j = q
  · subst e
    rw [sec_put_same h2 hq hg.2, show (kb.set j g).getD j 0 = g by simp [List.getD_eq_getElem?_getD, h1, hq]]
    exact hg
  · rw [sec_put_other h2 hq hg.2 e, show (kb.set q g).getD j 0 = kb.getD j 0 by simp [List.getD_eq_getElem?_getD, List.getElem?_set_ne (Ne.symm e)]]
    exact h3 j hj

theorem ref_crashed {w w' : World} {r gk gs ck cs : Nat} {vw : Value} {f : Int} {kb sb kb' : List Nat} {wb : List (Nat × Nat)} {D : DS} {n wrn sy : Nat} {keep : List Int} (h : RefAt w r gk gs ck cs vw f kb sb wb D) (hcoh : Coh D) (en : n = D.n) (ew : wrn = D.wr) (es : sy = D.sy)
    (hm : RefM w' r gk gs ck cs (.slice none 0 0) (-1) false wrn sy n 0 kb' kb' []) (ho : Only (RCore r gk gs vw) w w') (hK : KeptAs w n kb' (lays D.K (chosen D.W keep))) : RefAt w' r gk gs ck cs (.slice none 0 0) (-1) kb' kb' [] (D.crash keep) := by
  subst en ew es
  have hN := hcoh.crashed h.ok keep
  refine ⟨⟨h.ok.n, ?_, hK.2.1, (fun x hx => by cases hx), show (-9223372036854775808 : Int) ≤ -1 ∧ (-1 : Int) ≤ 9223372036854775807 from ⟨by decide, by decide⟩⟩, hm, fun _ => rfl, fun j hj => (hK.2.2 j hj).hold h.m ho, fun j hj => ?_, (fun j hj => by cases hj)⟩
  · rw [hN]; exact hK.2.1
  · rw [hN]; exact (hK.2.2 j hj).hold h.m ho

set_option maxRecDepth 100000 in
set_option maxHeartbeats 2000000 in
theorem ref_crash {w : World} {r gk gs ck cs : Nat} {vw : Value} {f : Int} {kb sb : List Nat} {wb : List (Nat × Nat)} {D : DS} (h : RefAt w r gk gs ck cs vw f kb sb wb D) (hcoh : Coh D) (ko : Option Addr) (kc : Nat) (keep : List Int) (hk : SlIO w (RCore r gk gs vw) ko keep) (hW : D.W.length ≤ 1000000) :
    Calls Try.prog 29 #[.pointer (some ⟨r, 0, none⟩), .slice ko keep.length kc] w fun e w' => e = .returned (.tuple #[]) ∧
      (∃ kb', RefAt w' r gk gs ck cs (.slice none 0 0) (-1) kb' kb' [] (D.crash keep) ∧ ∀ k, k ∈ kb' → RFoot r gk gs vw kb sb wb k) ∧ Only (RCore r gk gs vw) w w' := by
  have H := Lib.hid h
  have HK := Lib.hid hk
  have HC := Lib.hid hcoh
  have hm := h.m
  have hn := h.ok.n
  have hK0 : KeptAs w D.n kb (lays D.K (chosen (D.W.take 0) keep)) ∧ ∀ k, k ∈ kb → RFoot r gk gs vw kb sb wb k := ⟨⟨hm.lk, h.ok.K, h.hk⟩, fun k hk => .inr (.inr (.inr (.inr (.inl hk))))⟩
  clear h hk hcoh
  obtain ⟨n, en⟩ : ∃ n, n = D.n := ⟨_, rfl⟩
  obtain ⟨m, em⟩ : ∃ m, m = D.W.length := ⟨_, rfl⟩
  obtain ⟨sy, es⟩ : ∃ sy, sy = D.sy := ⟨_, rfl⟩
  obtain ⟨wrn, ew⟩ : ∃ wrn, wrn = D.wr := ⟨_, rfl⟩
  obtain ⟨dn, ed⟩ : ∃ dn, dn = D.down := ⟨_, rfl⟩
  rw [← en] at hm hn hK0
  rw [← em, ← es, ← ew, ← ed] at hm
  rw [← em] at hW
  have EN := Lib.hid en
  have EM := Lib.hid em
  have ES := Lib.hid es
  have EW := Lib.hid ew
  clear en em es ew ed
  have HM0 := Lib.hid hm
  have HK0 := Lib.hid hK0
  clear hm hK0
  go_enter Try.func29, Try.ntmps29
  go_wp2_with fail
  go_loopw [4] (fun i wr => ∃ (j : Nat) (kb' : List Nat), j ≤ m ∧ i = .int .i64 j ∧ Hid (RefM wr r gk gs ck cs vw f dn wrn sy n m kb' sb wb ∧ Only (RCore r gk gs vw) w wr) ∧ Hid (KeptAs w n kb' (lays D.K (chosen (D.W.take j) keep)) ∧ ∀ k, k ∈ kb' → RFoot r gk gs vw kb sb wb k)) (fun i _ => m - (intOf i).toNat)
  case atStart => exact ⟨0, kb, Nat.zero_le _, rfl, Lib.hid ⟨HM0.out, Only.refl _ _⟩, HK0⟩
  case round =>
    clear HM0 HK0
    obtain ⟨j, kb', hj, rfl, HM, HQ⟩ := hrel
    have hc2 := HM.out.1.cell 2
    simp only [List.getElem?_toArray, List.getElem?_cons_succ, List.getElem?_cons_zero] at hc2
    by_cases hlt : j < m
    · obtain ⟨gw, cap, rfl, hw1, hw2⟩ := HM.out.1.waitCell hlt
      have hltI : (j : Int) < (m : Int) := by omega
      have hj0 : (0 : Int) ≤ (j : Int) := by omega
      have hj' : j < D.W.length := by rw [← EM.out]; exact hlt
      have HLT := Lib.hid (lays_chosen_take D.K D.W keep hj')
      by_cases hkj : j < keep.length
      · have hkjI : (j : Int) < (keep.length : Int) := by omega
        obtain ⟨kg, koff, rfl, hck⟩ := HK.out.at' HM.out.2 hkj
        have hkb : keptAt keep j = oddZ (keep.getD j 0) := by rw [keptAt, decide_eq_true hkj]; rfl
        obtain ⟨z, hz⟩ : ∃ z, z = keep.getD j 0 := ⟨_, rfl⟩
        rw [← hz] at hck hkb
        clear hz
        by_cases hodd : z.tmod 2 = 0
        · have HLT' : Hid (lays D.K (chosen (D.W.take (j + 1)) keep) = lays D.K (chosen (D.W.take j) keep)) := Lib.hid (by rw [HLT.out, hkb]; simp [oddZ, hodd])
          have HQ2 : Hid (KeptAs w n kb' (lays D.K (chosen (D.W.take (j + 1)) keep)) ∧ ∀ k, k ∈ kb' → RFoot r gk gs (.slice (some ⟨gw, 0, none⟩) m cap) kb sb wb k) := Lib.hid (by rw [HLT'.out]; exact HQ.out)
          clear HQ HLT HLT' hkb hw1 hw2
          go_wp2_with fail
          go_roundw
          case rel => exact ⟨j + 1, kb', by omega, by go_num, HM, HQ2⟩
          case measure => simp [intOf]; omega
        · obtain ⟨hq1, hq2⟩ := H.out.hw j hj'
          have hx := (H.out.ok.W _ (List.getElem_mem hj')).1
          have eW : D.W.getD j default = D.W[j] := by simp [List.getD_eq_getElem?_getD, hj']
          rw [eW] at hq1 hq2
          rw [← EN.out, ← hq1] at hx
          obtain ⟨q, hq⟩ : ∃ q, q = (wb.getD j default).1 := ⟨_, rfl⟩
          obtain ⟨B, hB⟩ : ∃ B, B = (wb.getD j default).2 := ⟨_, rfl⟩
          rw [← hq] at hx hq1 hw1
          rw [← hB] at hw2 hq2
          have HQ2 : Hid (KeptAs w n (kb'.set q B) (lays D.K (chosen (D.W.take (j + 1)) keep)) ∧ ∀ k, k ∈ kb'.set q B → RFoot r gk gs (.slice (some ⟨gw, 0, none⟩) m cap) kb sb wb k) := Lib.hid (by
            rw [HLT.out, hkb, show oddZ z = true by simp [oddZ, hodd], if_pos rfl, ← hq1]
            refine ⟨HQ.out.1.lay hx hq2, fun k hk => ?_⟩
            rcases List.mem_or_eq_of_mem_set hk with h | rfl
            · exact HQ.out.2 k h
            · exact .inr (.inr (.inr (.inr (.inr (.inr (by rw [hB]; exact List.mem_map.2 ⟨_, mem_at (by rw [HM.out.1.lw]; exact hlt), rfl⟩)))))))
          obtain ⟨hm2, hfz⟩ := HM.out.1.putKept hx B
          have hdq := HM.out.1.keptCell hx
          have hc0 := HM.out.1.cell 0
          simp only [List.getElem?_toArray, List.getElem?_cons_succ, List.getElem?_cons_zero] at hc0
          have HM2 := Lib.hid hm2
          have HO2 := Lib.hid (HM.out.2.setCell (p := ⟨gk, q, none⟩) (fun _ => .inr (.inl rfl)) (sl64 B))
          rw [sl64] at hw2 HM2 HO2
          have hqI : (q : Int) < (n : Int) := by omega
          have hq0 : (0 : Int) ≤ (q : Int) := by omega
          clear HQ HLT hkb hq hB hq1 hq2 hm2 HM eW
          go_upto_region 4 with fail
          go_region
          all_goals
            go_wp2
            go_roundw
            case rel => exact ⟨j + 1, kb'.set q B, by omega, by go_num, Lib.hid ⟨HM2.out.keep (fun _ _ => rfl), HO2.out.drew⟩, HQ2⟩
            case measure => simp [intOf]; omega
      · have HKA : Hid (KeptAs w n kb' (lays D.K (chosen D.W keep)) ∧ ∀ k, k ∈ kb' → RFoot r gk gs (.slice (some ⟨gw, 0, none⟩) m cap) kb sb wb k) := Lib.hid (by rw [← chosen_enough D.W keep j (by omega)]; exact HQ.out)
        have hkjJ : ¬ (j : Int) < (keep.length : Int) := by omega
        clear HQ HLT hw1 hw2
        have HL := Lib.hid (show sb.length = kb'.length by rw [HM.out.1.ls, HM.out.1.lk])
        have HLs := Lib.hid HM.out.1.ls
        have HLk := Lib.hid HM.out.1.lk
        go_wp2_with fail
        go_loopw [5] (fun i wr2 => ∃ k : Nat, k ≤ n ∧ i = .int .i64 k ∧ Hid (RefM wr2 r gk gs ck cs (.slice (some ⟨gw, 0, none⟩) m cap) f dn wrn sy n m kb' (kb'.take k ++ sb.drop k) wb ∧ Only (RCore r gk gs (.slice (some ⟨gw, 0, none⟩) m cap)) w wr2)) (fun i _ => n - (intOf i).toNat)
        case atStart => exact ⟨0, Nat.zero_le _, rfl, Lib.hid (by simpa using HM.out)⟩
        case round =>
          rename_i wr2 _ _ _ _
          clear HM
          obtain ⟨k, hk, rfl, HM⟩ := hrel
          have hc0 := HM.out.1.cell 0
          have hc1 := HM.out.1.cell 1
          simp only [List.getElem?_toArray, List.getElem?_cons_succ, List.getElem?_cons_zero] at hc0 hc1
          by_cases hlt2 : k < n
          · have hd0 := HM.out.1.keptCell hlt2
            rw [sl64] at hd0
            have hd1 := HM.out.1.seenCell hlt2
            obtain ⟨hm2, hfz⟩ := HM.out.1.putSeen hlt2 (kb'.getD k 0)
            rw [set_take_drop HL.out (by rw [HLs.out]; exact hlt2)] at hm2
            rw [sl64] at hm2
            obtain ⟨b, hb⟩ : ∃ b, b = kb'.getD k 0 := ⟨_, rfl⟩
            rw [← hb] at hm2 hd0
            have HM2 := Lib.hid hm2
            have HO2 := Lib.hid (HM.out.2.setCell (p := ⟨gs, k, none⟩) (fun _ => .inr (.inr (.inl rfl))) (.slice (some ⟨b, 0, none⟩) 64 64))
            have hltI2 : (k : Int) < (n : Int) := by omega
            have hk0 : (0 : Int) ≤ (k : Int) := by omega
            clear hm2 HM hb
            go_upto_region 8 with fail
            go_region
            all_goals
              go_wp2
              go_roundw
              case rel => exact ⟨k + 1, by omega, by go_num, Lib.hid ⟨HM2.out.keep (fun _ _ => rfl), HO2.out.drew⟩⟩
              case measure => simp [intOf]; omega
          · obtain rfl : k = n := by omega
            have hm2 := HM.out.1
            rw [List.take_of_length_le (by rw [HLk.out]; exact Nat.le_refl _), List.drop_of_length_le (by rw [HLs.out]; exact Nat.le_refl _), List.append_nil] at hm2
            have hf2 := hm2.free 2
            have hd2 := hm2.cell 2
            have hm3 := hm2.calm
            have hf4 := hm3.free 4
            have hd4 := hm3.cell 4
            have hm4 := hm3.set (f' := f) (dn' := false) (wr' := wrn) (sy' := sy) 4 (.bool false) rfl
            have hf3 := hm4.free 3
            have hd3 := hm4.cell 3
            simp only [List.getElem?_toArray, List.getElem?_cons_succ, List.getElem?_cons_zero] at hd2 hd3 hd4
            have HM5 := Lib.hid (hm4.set (f' := -1) (dn' := false) (wr' := wrn) (sy' := sy) 3 (.int .i64 (-1)) rfl)
            have HO5 := Lib.hid (((HM.out.2.setCell (p := ⟨r, 2, none⟩) (fun _ => .inl rfl) (.slice none 0 0)).setCell (p := ⟨r, 4, none⟩) (fun _ => .inl rfl) (.bool false)).setCell (p := ⟨r, 3, none⟩) (fun _ => .inl rfl) (.int .i64 (-1)))
            clear hm2 hm3 hm4 HM hlt2 hk
            go_wp2_with fail
            go_end0
            exact ⟨rfl, ⟨kb', ref_crashed H.out HC.out EN.out EW.out ES.out HM5.out HO5.out HKA.out.1, HKA.out.2⟩, HO5.out⟩
    · have HKA : Hid (KeptAs w n kb' (lays D.K (chosen D.W keep)) ∧ ∀ k, k ∈ kb' → RFoot r gk gs vw kb sb wb k) := Lib.hid (by have := HQ.out; rwa [List.take_of_length_le (by rw [← EM.out]; omega)] at this)
      obtain rfl : j = m := by omega
      obtain ⟨ao, cap, rfl⟩ := own_shapeN HM.out.1.row
      clear HQ
      have HL := Lib.hid (show sb.length = kb'.length by rw [HM.out.1.ls, HM.out.1.lk])
      have HLs := Lib.hid HM.out.1.ls
      have HLk := Lib.hid HM.out.1.lk
      go_wp2_with fail
      go_loopw [5] (fun i wr2 => ∃ k : Nat, k ≤ n ∧ i = .int .i64 k ∧ Hid (RefM wr2 r gk gs ck cs (.slice ao j cap) f dn wrn sy n j kb' (kb'.take k ++ sb.drop k) wb ∧ Only (RCore r gk gs (.slice ao j cap)) w wr2)) (fun i _ => n - (intOf i).toNat)
      case atStart => exact ⟨0, Nat.zero_le _, rfl, Lib.hid (by simpa using HM.out)⟩
      case round =>
        rename_i wr2 _ _ _ _
        clear HM
        obtain ⟨k, hk, rfl, HM⟩ := hrel
        have hc0 := HM.out.1.cell 0
        have hc1 := HM.out.1.cell 1
        simp only [List.getElem?_toArray, List.getElem?_cons_succ, List.getElem?_cons_zero] at hc0 hc1
        by_cases hlt2 : k < n
        · have hd0 := HM.out.1.keptCell hlt2
          rw [sl64] at hd0
          have hd1 := HM.out.1.seenCell hlt2
          obtain ⟨hm2, hfz⟩ := HM.out.1.putSeen hlt2 (kb'.getD k 0)
          rw [set_take_drop HL.out (by rw [HLs.out]; exact hlt2)] at hm2
          rw [sl64] at hm2
          obtain ⟨b, hb⟩ : ∃ b, b = kb'.getD k 0 := ⟨_, rfl⟩
          rw [← hb] at hm2 hd0
          have HM2 := Lib.hid hm2
          have HO2 := Lib.hid (HM.out.2.setCell (p := ⟨gs, k, none⟩) (fun _ => .inr (.inr (.inl rfl))) (.slice (some ⟨b, 0, none⟩) 64 64))
          have hltI2 : (k : Int) < (n : Int) := by omega
          have hk0 : (0 : Int) ≤ (k : Int) := by omega
          clear hm2 HM hb
          go_upto_region 8 with fail
          go_region
          all_goals
            go_wp2
            go_roundw
            case rel => exact ⟨k + 1, by omega, by go_num, Lib.hid ⟨HM2.out.keep (fun _ _ => rfl), HO2.out.drew⟩⟩
            case measure => simp [intOf]; omega
        · obtain rfl : k = n := by omega
          have hm2 := HM.out.1
          rw [List.take_of_length_le (by rw [HLk.out]; exact Nat.le_refl _), List.drop_of_length_le (by rw [HLs.out]; exact Nat.le_refl _), List.append_nil] at hm2
          have hf2 := hm2.free 2
          have hd2 := hm2.cell 2
          have hm3 := hm2.calm
          have hf4 := hm3.free 4
          have hd4 := hm3.cell 4
          have hm4 := hm3.set (f' := f) (dn' := false) (wr' := wrn) (sy' := sy) 4 (.bool false) rfl
          have hf3 := hm4.free 3
          have hd3 := hm4.cell 3
          simp only [List.getElem?_toArray, List.getElem?_cons_succ, List.getElem?_cons_zero] at hd2 hd3 hd4
          have HM5 := Lib.hid (hm4.set (f' := -1) (dn' := false) (wr' := wrn) (sy' := sy) 3 (.int .i64 (-1)) rfl)
          have HO5 := Lib.hid (((HM.out.2.setCell (p := ⟨r, 2, none⟩) (fun _ => .inl rfl) (.slice none 0 0)).setCell (p := ⟨r, 4, none⟩) (fun _ => .inl rfl) (.bool false)).setCell (p := ⟨r, 3, none⟩) (fun _ => .inl rfl) (.int .i64 (-1)))
          clear hm2 hm3 hm4 HM hlt2 hk
          go_wp2_with fail
          go_end0
          exact ⟨rfl, ⟨kb', ref_crashed H.out HC.out EN.out EW.out ES.out HM5.out HO5.out HKA.out.1, HKA.out.2⟩, HO5.out⟩

end Go.Proofs.Ytidkeglldmbfeaa
