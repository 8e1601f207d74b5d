/-
  Package pool: New; the laws' back.
-/
import Derived.Test.YtjmelhmjcbliaaaPoP9
namespace Go.Proofs.Ytjmelhmjcbliaaa
open Go Go.RowKit
set_option linter.unusedVariables false
set_option linter.unusedSimpArgs false
set_option maxRecDepth 100000

set_option maxHeartbeats 4000000 in
theorem pnew_any {w0 w : World} {bb : Nat} {bk : Bk} {J : Res} [Stab J] (h : Own w0 w (Sep (BkR bb bk) J)) (most : Nat) (h1 : 1 ≤ most) (h2 : most ≤ 4096) :
    Calls Try.prog 9 #[backV bb, .int .i64 (most : Int)] w fun e w' => ∃ p, e = .returned (.tuple #[ptr p, .int .i64 0]) ∧ Own w0 w' (Sep (PoR p bb [] [] ⟨[], 0, bk, most⟩) J) := by
  have H1 := Lib.hid (h.fresh ((Only.refl _ w).alloc (.map #[] 0)) (J := MapR w.heap.size (.map [])) (B := fun k => k = w.heap.size) ⟨World.ownsMap_made w _ _ _, fun k => Iff.rfl⟩ (fun k e => by omega))
  have H2 := Lib.hid (H1.out.alloc (.cells #[backV bb, .int .i64 (most : Int), .slice none 0 0, .map (some w.heap.size), .int .i64 0] 66))
  have hmk := fun (w : World) => run_makeMap (P := Try.prog) 63 w
  have c1 : ¬ (most : Int) < 1 := by omega
  have c2 : ¬ (4096 : Int) < (most : Int) := by omega
  clear h h1 h2
  go_enter Try.func9, Try.ntmps9
  go_wp2_with fail
  go_ret2
  refine ⟨_, rfl, ?_⟩
  have h2 := H2.out
  refine Own.shutPo (mb := w.heap.size) (ro := none) (rc := 0) (D := .map []) (L := []) (Z := []) (st := ⟨[], 0, bk, most⟩) ?_ (.inl ⟨rfl, rfl, rfl⟩) ?_
  · exact ⟨rfl, ⟨List.nodup_nil, fun x hx => (by cases hx), .inl rfl⟩, Maps.tidy_empty, fun i _ _ => by simp [Maps.has, Po.ids], fun i _ _ => rfl, rfl⟩
  · rw [World.size_alloc] at h2
    have h3 := ((h2.rnil (α := Pb) 67).fix0 (P := BytesOk ([] ++ [])) (fun w x hx => (by cases hx)))
    have h4 : Own w0 _ (Sep (PlsR ([] ++ [])) _) := h3.imp fun F hF => ⟨fun _ => False, F, fun _ h => h, hF, fun _ h => h.elim, fun k => by simp⟩
    show Own w0 _ (Sep (Blk (w.heap.size + 1) (.cells #[backV bb, .int .i64 (most : Int), .slice none 0 0, .map (some w.heap.size), .int .i64 0] 66)) (Sep (RowG 67 (.slice none 0 0) ([] : List Pb)) (Sep (MapR w.heap.size (.map [])) (Sep (PlsR ([] ++ [])) (Sep (Fix (BytesOk ([] ++ []))) (Sep (BkR bb bk) J))))))
    exact h4.ac (by ac_rfl)
/-- The laws' back behind its first rounds. -/
def bk0 (k : Nat) : Bk := ⟨(List.range k).map fun j => ((j + 1 : Nat) : Int), (List.range k).map fun j => [UInt8.ofNat (98 + j)], [], -1⟩
theorem bk0_next (k : Nat) : (bk0 (k + 1)).ids = (bk0 k).ids ++ [((k + 1 : Nat) : Int)] ∧ (bk0 (k + 1)).bs = (bk0 k).bs ++ [[UInt8.ofNat (98 + k)]] := by
  unfold bk0
  simp [List.range_succ]
theorem bk0_len (k : Nat) : (bk0 k).ids.length = k ∧ (bk0 k).bs.length = k := by unfold bk0; simp
set_option maxHeartbeats 4000000 in
theorem back_any {w0 w : World} {J : Res} [Stab J] (h : Own w0 w J) :
    Calls Try.prog 8 #[] w fun e w' => ∃ bb, e = .returned (ptr bb) ∧ Own w0 w' (Sep (BkR bb (bk0 6)) J) := by
  have H0 := Lib.hid (h.alloc (.cells #[.slice none 0 0, .slice none 0 0, .slice none 0 0, .int .i64 (-1)] 51))
  clear h
  go_enter Try.func8, Try.ntmps8
  go_upto_region 2 with fail
  obtain ⟨bb, hbb⟩ : ∃ b, w.heap.size = b := ⟨_, rfl⟩
  rw [hbb] at H0 ⊢
  generalize World.alloc w _ = W1 at *
  clear hbb
  have HS : Hid (Own w0 W1 (Sep (BkR bb (bk0 0)) J)) := Lib.hid (by
    have h2 := (((H0.out.rnil (α := Int) 34).rnil (α := Hd) 35).rnil (α := Int) 34).fix0 (P := HdsOk [] (bk0 0).bs) (fun w j hj => by simp [bk0] at hj)
    refine Own.shutBk (b := bk0 0) (hb := ⟨none, 0, none, 0, none, 0⟩) (hs := []) ⟨rfl, rfl, .inl ⟨rfl, rfl, rfl⟩, .inl ⟨rfl, rfl, rfl⟩, .inl ⟨rfl, rfl, rfl⟩, by decide, by decide⟩ ?_
    show Own w0 _ (Sep (Blk bb (.cells #[.slice none 0 0, .slice none 0 0, .slice none 0 0, .int .i64 (-1)] 51)) (Sep (RowG 34 (.slice none 0 0) ([] : List Int)) (Sep (RowG 35 (.slice none 0 0) ([] : List Hd)) (Sep (RowG 34 (.slice none 0 0) ([] : List Int)) (Sep (Fix (HdsOk [] (bk0 0).bs)) J)))))
    exact h2.ac (by ac_rfl))
  clear H0
  go_wp2_with fail
  go_loopw [2] (fun v wr => ∃ k : Nat, k ≤ 6 ∧ v = .int .i64 ((k : Int) + 1) ∧ Hid (Own w0 wr (Sep (BkR bb (bk0 k)) J))) (fun v _ => 8 - (intOf v).toNat)
  case atStart => exact ⟨0, by omega, rfl, HS⟩
  case round =>
    clear HS
    obtain ⟨k, hk, rfl, HO⟩ := hrel
    by_cases hlt : k < 6
    · have hc1 : (k : Int) + 1 ≤ 6 := by omega
      have hu : IntKind.u64.wrap ((k : Int) + 1) = ((k + 1 : Nat) : Int) := by rw [wrapU]; unfold wu; omega
      have hu8 : IntKind.u8.wrap (97 + ((k : Int) + 1)) = ((98 + k : Nat) : Int) := by
        have : ∀ z : Int, IntKind.u8.wrap z = z % 256 := fun z => rfl
        rw [this]; omega
      have hw1 : wrap64 (97 + ((k : Int) + 1)) = 97 + ((k : Int) + 1) := IntWalk.wrap64_in _ ⟨by omega, by omega⟩
      have hw2 : wrap64 ((k : Int) + 1 + 1) = (k : Int) + 1 + 1 := IntWalk.wrap64_in _ ⟨by omega, by omega⟩
      obtain ⟨hd, hs, hko, h1⟩ := HO.out.openBk
      have HK := Lib.hid hko
      unfold bkc at h1
      rw [(bk0_len k).1, (bk0_len k).2] at h1
      have hsn : hs.length = k := by rw [hko.n]; exact (bk0_len k).2
      have HSN := Lib.hid hsn
      rw [hsn] at h1
      obtain ⟨a0, ha0⟩ : ∃ a, ((k + 1 : Nat) : Int) = a := ⟨_, rfl⟩
      have HA0 := Lib.hid ha0
      have HS0 := Lib.hid h1.swap
      obtain ⟨⟨c0, c1, c2, c3⟩, f0, f1, f2, f3⟩ := h1.blk4c
      rw [ha0] at hu
      clear h1 hko HO hsn ha0
      go_wp2_with (at_builtin; refine own_appendG elNu HS0.out a0 1 (by rw [(bk0_len k).1]; omega) (by rw [(bk0_len k).1]; omega) rfl _ _ rfl (by first | rfl | simp [Act.eval]) #[.int .u64 a0] rfl (by first | rfl | simp [Act.eval]) ?_)
      intro g3 cap3 n3 w8 hn3 hown
      have HM3 : Hid (((bk0 k).ids ++ [a0]).length = n3) := Lib.hid (by have h1 := hn3.out; rw [List.length_append, List.length_singleton]; (try simp only [List.length_append, List.length_singleton] at h1); omega)
      have HSH3 : Hid (Shp (some (⟨g3, 0, none⟩ : Addr)) n3 cap3) := Lib.hid (by
        have h1 := (shp_own hown.out).1
        rw [HM3.out] at h1
        exact h1)
      have HS1 := Lib.hid hown.out.swap
      clear hown hn3 c0 c1 c2 c3 f0 f1 f2 f3 HS0
      obtain ⟨⟨c0, c1, c2, c3⟩, f0, f1, f2, f3⟩ := HS1.out.blk4c
      go_upto_region 6 with fail
      have HS2 := Lib.hid (HS1.out.store 0 (.slice (some ⟨g3, 0, none⟩) n3 cap3))
      generalize World.setCell w8 _ _ = w9 at *
      clear HS1 c0 c1 c2 c3 f0 f1 f2 f3
      obtain ⟨⟨c0, c1, c2, c3⟩, f0, f1, f2, f3⟩ := Own.blk4c (a0 := .slice (some ⟨g3, 0, none⟩) n3 cap3) (a1 := .slice hd.ho k hd.hc) HS2.out
      obtain ⟨y, hy⟩ : ∃ y, y = UInt8.ofNat (98 + k) := ⟨_, rfl⟩
      have hyn : ((98 + k : Nat) : Int) = (y.toNat : Int) := by rw [hy]; simp; omega
      have HY := Lib.hid hy
      rw [hyn] at hu8
      have HS3 := Lib.hid (HS2.out.alloc (.cells #[.int .u8 (y.toNat : Int)] 5))
      have HS4 : Hid (Own w0 _ (Sep (RowG 35 (.slice hd.ho k hd.hc) hs) _)) := Lib.hid (HS3.out.ac (by ac_rfl : _ = Sep (RowG 35 (.slice hd.ho k hd.hc) hs) (Sep (Blk w9.heap.size (.cells #[.int .u8 (y.toNat : Int)] 5)) (Sep (Blk bb (.cells #[.slice (some ⟨g3, 0, none⟩) n3 cap3, .slice hd.ho k hd.hc, .slice hd.qo (bk0 k).asked.length hd.qc, .int .i64 (bk0 k).full] 51)) (Sep (RowG 34 (.slice (some ⟨g3, 0, none⟩) n3 cap3) ((bk0 k).ids ++ [a0])) (Sep (RowG 34 (.slice hd.qo (bk0 k).asked.length hd.qc) (bk0 k).asked) (Sep (Fix (HdsOk hs (bk0 k).bs)) J)))))))
      clear HS2 HS3 hy
      go_wp2_with (at_builtin; refine own_appendG elHdB HS4.out (⟨some ⟨w9.heap.size, 0, none⟩, 1, 1⟩ : Hd) 1 (by rw [HSN.out]; omega) (by rw [HSN.out]; omega) rfl _ _ rfl (by first | rfl | simp [Act.eval]) #[.slice (some ⟨w9.heap.size, 0, none⟩) 1 1] rfl (by first | rfl | simp [Act.eval]) ?_)
      intro g4 cap4 n4 wc hn4 hown
      have HN4 : Hid ((hs ++ [(⟨some ⟨w9.heap.size, 0, none⟩, 1, 1⟩ : Hd)]).length = n4) := Lib.hid (by have h1 := hn4.out; rw [List.length_append, List.length_singleton]; (try simp only [List.length_append, List.length_singleton] at h1); omega)
      have HSH4 : Hid (Shp (some (⟨g4, 0, none⟩ : Addr)) n4 cap4) := Lib.hid (by have h1 := (shp_own hown.out).1; rw [HN4.out] at h1; exact h1)
      have HB2 := Lib.hid (hown.out.ac (by ac_rfl : _ = Sep (Blk bb (.cells #[.slice (some ⟨g3, 0, none⟩) n3 cap3, .slice hd.ho k hd.hc, .slice hd.qo (bk0 k).asked.length hd.qc, .int .i64 (bk0 k).full] 51)) (Sep (RowG 35 (.slice (some ⟨g4, 0, none⟩) n4 cap4) (hs ++ [(⟨some ⟨w9.heap.size, 0, none⟩, 1, 1⟩ : Hd)])) (Sep (Blk w9.heap.size (.cells #[.int .u8 (y.toNat : Int)] 5)) (Sep (RowG 34 (.slice (some ⟨g3, 0, none⟩) n3 cap3) ((bk0 k).ids ++ [a0])) (Sep (RowG 34 (.slice hd.qo (bk0 k).asked.length hd.qc) (bk0 k).asked) (Sep (Fix (HdsOk hs (bk0 k).bs)) J)))))))
      clear hown hn4 HS4 c0 c1 c2 c3 f0 f1 f2 f3
      obtain ⟨⟨c0, c1, c2, c3⟩, f0, f1, f2, f3⟩ := HB2.out.blk4c
      go_upto_region 4 with fail
      have HB3 := Lib.hid (HB2.out.store 1 (.slice (some ⟨g4, 0, none⟩) n4 cap4))
      generalize World.setCell wc _ _ = wd at *
      clear HB2 c0 c1 c2 c3 f0 f1 f2 f3
      have hfin : Own w0 wd (Sep (BkR bb (bk0 (k + 1))) J) := by
        have h9 : Own w0 wd (Sep (Blk w9.heap.size (.cells #[.int .u8 (y.toNat : Int)] 5)) (Sep (Fix (HdsOk hs (bk0 k).bs)) (Sep (Blk bb (.cells #[.slice (some ⟨g3, 0, none⟩) n3 cap3, .slice (some ⟨g4, 0, none⟩) n4 cap4, .slice hd.qo (bk0 k).asked.length hd.qc, .int .i64 (bk0 k).full] 51)) (Sep (RowG 35 (.slice (some ⟨g4, 0, none⟩) n4 cap4) (hs ++ [(⟨some ⟨w9.heap.size, 0, none⟩, 1, 1⟩ : Hd)])) (Sep (RowG 34 (.slice (some ⟨g3, 0, none⟩) n3 cap3) ((bk0 k).ids ++ [a0])) (Sep (RowG 34 (.slice hd.qo (bk0 k).asked.length hd.qc) (bk0 k).asked) J)))))) := HB3.out.ac (by simp only [List.setIfInBounds_toArray, List.set_cons_zero, List.set_cons_succ]; ac_rfl)
        have h10 : Own w0 wd (Sep (Fix fun w => SlC w (.slice (some ⟨w9.heap.size, 0, none⟩) [y].length 1) [y]) _) := h9.imp fun F hF => hF.imp (fun A hA => ⟨fun k hk => by rw [(hA.2 k).1 hk]; exact lt_of_some hA.1, fun W hW => by
          have h11 : W.heap[w9.heap.size]? = some (.cells (u8s [y]).toArray 5 (0, 0)) := (hW _ ((hA.2 _).2 rfl)).trans hA.1
          exact row_bytes' h11 rfl⟩) (fun _ h => h)
        have h12 := h10.fix2.fixI (Q := HdsOk (hs ++ [(⟨some ⟨w9.heap.size, 0, none⟩, 1, 1⟩ : Hd)]) ((bk0 k).bs ++ [[y]])) fun w hw => HdsOk.add (x := [y]) hw.2 HK.out.n hw.1 (by simp)
        have e1 : (bk0 (k + 1)) = ⟨(bk0 k).ids ++ [a0], (bk0 k).bs ++ [[y]], (bk0 k).asked, (bk0 k).full⟩ := by
          have h13 := bk0_next k
          rw [HA0.out, ← HY.out] at h13
          show Bk.mk (bk0 (k + 1)).ids (bk0 (k + 1)).bs [] (-1) = _
          rw [h13.1, h13.2]
          rfl
        have hnn : n4 = k + 1 := by rw [← HN4.out, List.length_append, HSN.out]; rfl
        refine Own.shutBkP (hd := ⟨some ⟨g3, 0, none⟩, cap3, some ⟨g4, 0, none⟩, cap4, hd.qo, hd.qc⟩) (hs := hs ++ [⟨some ⟨w9.heap.size, 0, none⟩, 1, 1⟩]) e1 (ni := n3) (nb := n4) (nh := n4) (nq := (bk0 k).asked.length) ?_ ⟨?_, ?_, ?_, ?_, HK.out.sq, HK.out.f0, HK.out.f1⟩ HM3.out ?_ HN4.out rfl
        · unfold BkP; dsimp only; exact h12.ac (by ac_rfl)
        · rw [List.length_append, List.length_append, HK.out.n]; rfl
        · rw [List.length_append, List.length_append, HK.out.m]; rfl
        · show Shp _ ((bk0 k).ids ++ [a0]).length _; rw [HM3.out]; exact HSH3.out
        · show Shp _ ((bk0 k).bs ++ [[y]]).length _; rw [List.length_append, (bk0_len k).2, List.length_singleton, ← hnn]; exact HSH4.out
        · show ((bk0 k).bs ++ [[y]]).length = n4; rw [List.length_append, (bk0_len k).2, List.length_singleton, hnn]
      have HFIN := Lib.hid hfin
      clear hfin HB3
      go_wp2_with fail
      go_roundw
      case rel => exact ⟨k + 1, by omega, by push_cast; go_num, HFIN⟩
      case measure => simp [intOf]; omega
    · obtain rfl : k = 6 := by omega
      go_wp2_with fail
      go_ret
      exact ⟨bb, rfl, HO.out⟩

end Go.Proofs.Ytjmelhmjcbliaaa
