/-
  The document's own keys: one value read: numbers, truths (kinds 1 to 3).
-/
import Derived.Test.YtlmpknhekoeecaaDoorKeyN5
namespace Go.Proofs.YtlmpknhekoeecaaDoor
open Go Go.RowKit
set_option linter.unusedVariables false
set_option linter.unusedSimpArgs false
set_option maxRecDepth 100000

theorem okV_yes {x : Vl × List UInt8} (h : x.1.okB = true) : okV (some x) = some x := by
  unfold okV
  simp [h]
theorem okV_no {x : Vl × List UInt8} (h : x.1.okB = false) : okV (some x) = none := by
  unfold okV
  simp [h]
theorem raw1_one {q : List UInt8} (h : 8 ≤ q.length) : raw1 1 q = some (vl 1 ((flipN (numB (q.take 8)) : Nat) : Int) ⟨#[]⟩, q.drop 8) := by
  unfold raw1
  rw [if_pos (.inl rfl), if_neg (by omega), if_pos rfl, vl_nil]
theorem raw1_two {q : List UInt8} (h : 8 ≤ q.length) : raw1 2 q = some (vl 2 ((numB (q.take 8) : Nat) : Int) ⟨#[]⟩, q.drop 8) := by
  unfold raw1
  rw [if_pos (.inr rfl), if_neg (by omega), if_neg (by decide), vl_nil]
theorem raw1_short {k : Int} {q : List UInt8} (hk : k = 1 ∨ k = 2) (h : ¬ 8 ≤ q.length) : raw1 k q = none := by
  unfold raw1
  rw [if_pos hk, if_pos (by omega)]
theorem TwoAt.apart {w W : World} {pv pi cp : Nat} {T : List UInt8} {K N : Int} {S : ByteArray} {a : Nat} {bad : Bool} (h : TwoAt w W pv pi cp T K N S a bad) (x y : Value) : ((W.setCell ⟨w.heap.size, 0, none⟩ x).setCell ⟨w.heap.size, 1, none⟩ y).cell? ⟨pi, 1, none⟩ = some (.int .i64 (a : Int)) := by
  have h1 := h.hi
  rw [World.cell?_of_block (Below.heap_setCell _ _ _ _ (fun e => by simp at e; omega)), World.cell?_of_block (Below.heap_setCell _ _ _ _ (fun e => by simp at e; omega))]
  exact h.i.c.2.1
def OneT (w : World) (T : List UInt8) (wx : World) : Prop := OneAt w wx T
set_option maxHeartbeats 16000000 in
theorem rone3 (k : Int) (d : Bool) (s : ByteArray) (w : World) (hs : s.size ≤ 256) (hk1 : 1 ≤ k) (hk5 : k ≤ 3) :
    Calls Tryd.prog 30 #[.int .i64 k, .bool d, .string s] w fun e w' => OnePost k d s w e w' := by
  obtain ⟨n, hn⟩ : ∃ n, n = s.size := ⟨_, rfl⟩
  obtain ⟨T, hT⟩ : ∃ T, T = turnL d s.toList := ⟨_, rfl⟩
  have HT := Lib.hid hT
  have HN := Lib.hid hn
  have HTL : Hid (T.length = n) := Lib.hid (by rw [hT, turnL_length, ba_size, hn])
  have hn256 : (n : Int) ≤ 256 := by omega
  have hcv := Lib.run_convert_string_bytes (P := Tryd.prog) (w.alloc (.cells #[.int .i64 0, .int .u64 0, .string ⟨#[]⟩] 42)) 9 49 5 s (u := .string) Tryd.underlying9 Tryd.underlying49 Tryd.underlying5
  have hst := OneAt.start w s
  obtain ⟨W1, hW1⟩ : ∃ W1, W1 = Lib.bytesWorld (w.alloc (.cells #[.int .i64 0, .int .u64 0, .string ⟨#[]⟩] 42)) 5 s := ⟨_, rfl⟩
  rw [← hW1, World.size_alloc, ← hn] at hcv
  rw [← hW1] at hst
  have HCP := Lib.hid (grownCap_ge (w.alloc (.cells #[.int .i64 0, .int .u64 0, .string ⟨#[]⟩] 42)) n 0 5)
  have H1 := Lib.hid hst
  have HK15 := Lib.hid (And.intro hk1 hk5)
  obtain ⟨OP, hOP⟩ : ∃ OP : Ending → World → Prop, OP = fun e w' => OnePost k d s w e w' := ⟨_, rfl⟩
  clear hW1 hst hs hn hT hk1 hk5 hOP OP
  go_enter Tryd.func30, Tryd.ntmps30
  go_upto_block 0 with fail
  clear hcv
  go_cut [9] (fun _ wx => OneT w T wx)
  case first =>
    go_wp2_with fail
    go_loopw [9] (fun i wr => ∃ j : Nat, j ≤ n ∧ i = .int .i64 (j : Int) ∧ Hid (d = false → j = 0) ∧ Hid (OneAt w wr (if d = true then (s.toList.take j).map not8 ++ s.toList.drop j else s.toList))) (fun i _ => n - (intOf i).toNat)
    case atStart => exact ⟨0, Nat.zero_le _, rfl, Lib.hid (fun _ => rfl), Lib.hid (by have := H1.out; split <;> simpa using this)⟩
    case round =>
      clear H1
      obtain ⟨j, hj, rfl, HJ, HO⟩ := hrel
      have hj0 : (0 : Int) ≤ (j : Int) := by omega
      cases d with
      | false =>
        have HE : Hid (OneT w T wr) := Lib.hid (by rw [HT.out]; exact HO.out)
        obtain rfl := HJ.out rfl
        by_cases hpos : (0 : Int) < (n : Int)
        all_goals
          go_wp2_with fail
          go_meet
          exact HE.out
      | true =>
        by_cases hlt : j < n
        · have hky : j < s.toList.length := by rw [ba_size, ← HN.out]; exact hlt
          obtain ⟨L, hL⟩ : ∃ L, L = (s.toList.take j).map not8 ++ s.toList.drop j := ⟨_, rfl⟩
          have hO := HO.out
          rw [if_pos rfl, ← hL] at hO
          have hLl : j < L.length := by rw [hL]; simp at hky ⊢; omega
          obtain ⟨b, hb⟩ : ∃ b, s.toList.getD j 0 = b := ⟨_, rfl⟩
          have hLj : L.getD j 0 = b := by
            rw [hL, List.getD_eq_getElem?_getD, List.getElem?_append_right (by simp; omega), ← hb]
            simp
            rw [show j - min j s.toList.length = 0 by omega]
            rfl
          obtain ⟨hc, hf⟩ := hO.b.cell hLl
          rw [hLj] at hc
          have hst := turn_step [] s.toList j hky
          rw [List.nil_append, List.nil_append, List.length_nil, Nat.zero_add, hb] at hst
          have hS := hO.set hLl (not8 b)
          rw [hL, hst] at hS
          obtain ⟨z, hz⟩ : ∃ z : Int, (b.toNat : Int) = z := ⟨_, rfl⟩
          obtain ⟨z2, hz2⟩ : ∃ z2 : Int, ((not8 b).toNat : Int) = z2 := ⟨_, rfl⟩
          have hx1 := sub_not b
          rw [hz, hz2] at hx1
          have hx2 : (255 - z) % 256 = z2 := by rw [← IntKind.wrap_u8']; exact hx1
          rw [hz] at hc
          rw [hz2] at hS
          have HSS := Lib.hid hS
          have hltI : (j : Int) < (n : Int) := by omega
          clear hS hst hO hL hLl hLj hb hz hz2 hky
          go_wp2_with fail
          go_roundw
          case rel => exact ⟨j + 1, by omega, by go_num, Lib.hid (fun h => by cases h), HSS⟩
          case measure => simp [intOf]; omega
        · obtain rfl : j = n := by omega
          have hltI : ¬ (j : Int) < (j : Int) := by omega
          have HE : Hid (OneT w T wr) := Lib.hid (by
            have := HO.out
            rw [if_pos rfl, List.take_of_length_le (by rw [ba_size, ← HN.out]; exact Nat.le_refl _), List.drop_of_length_le (by rw [ba_size, ← HN.out]; exact Nat.le_refl _), List.append_nil] at this
            rw [HT.out]
            exact this)
          go_wp2_with fail
          go_meet
          exact HE.out
  case rest =>
    have HA : Hid (OneAt w _ T) := Lib.hid hcut
    clear hcut H1
    generalize grownCap (w.alloc (.cells #[.int .i64 0, .int .u64 0, .string ⟨#[]⟩] 42)) n 0 5 = cp at *
    obtain ⟨⟨r0, r1, r2⟩, f0, f1, f2⟩ := HA.out.res
    have HRE := Lib.hid (only_res HA.out.only)
    cases T with
    | nil =>
      have hn0 : (n : Int) = 0 := by have := HTL.out; simp at this; omega
      have HNO : Hid (val1 k (turnL d s.toList) = none) := Lib.hid (by rw [← HT.out]; rfl)
      obtain rfl : n = 0 := by omega
      clear hn0 hn256
      go_wp2_with fail
      refine bodyPost_ret (v := .tuple #[vlv 0 0 ⟨#[]⟩, .int .i64 0]) (by simp [results, Tryd.results30, go_sem, r0, r1, r2]) rfl ?_
      exact one_none HNO.out (HRE.out _ _ _)
    | cons c q =>
      have hl := HTL.out
      simp only [List.length_cons] at hl
      have hpos : (0 : Int) < (n : Int) := by omega
      have hn0 : ((n : Int) == 0) = false := by rw [beq_eq_false_iff_ne]; omega
      have hcell := (HA.out.b.cell (j := 0) (by simp)).1
      obtain ⟨z, hz⟩ : ∃ z : Int, (c.toNat : Int) = z := ⟨_, rfl⟩
      simp only [List.getD_cons_zero] at hcell
      rw [hz] at hcell
      have HQL : Hid (q.length + 1 = n) := Lib.hid hl
      clear hl
      have hz0 : 0 ≤ z := by omega
      by_cases h1 : 1 < z
      · have HNO : Hid (val1 k (turnL d s.toList) = none) := Lib.hid (by
          rw [← HT.out]
          show (if c = 0 then some ((⟨0, 0, []⟩ : Vl), q) else if c = 1 then okV (raw1 k q) else none) = none
          rw [if_neg (fun e => by rw [e] at hz; simp at hz; omega), if_neg (fun e => by rw [e] at hz; simp at hz; omega)])
        clear hz
        go_wp2_with fail
        refine bodyPost_ret (v := .tuple #[vlv 0 0 ⟨#[]⟩, .int .i64 0]) (by simp [results, Tryd.results30, go_sem, r0, r1, r2]) rfl ?_
        exact one_none HNO.out (HRE.out _ _ _)
      · by_cases h0 : z = 0
        · have HYE : Hid (val1 k (turnL d s.toList) = some (vl 0 0 ⟨#[]⟩, (turnL d s.toList).drop 1)) := Lib.hid (by
            rw [← HT.out]
            show (if c = 0 then some ((⟨0, 0, []⟩ : Vl), q) else if c = 1 then okV (raw1 k q) else none) = _
            rw [if_pos (UInt8.toNat_inj.1 (by show c.toNat = 0; omega))]
            show _ = some ((⟨0, 0, (ByteArray.mk #[]).toList⟩ : Vl), _)
            rw [ba_nil]
            rfl)
          have HNS : Hid (1 ≤ s.size) := Lib.hid (by rw [← HN.out, ← HQL.out]; omega)
          subst h0
          clear hz
          go_wp2_with fail
          refine bodyPost_ret (v := .tuple #[vlv 0 0 ⟨#[]⟩, .int .i64 1]) (by simp [results, Tryd.results30, go_sem, r0, r1, r2]) rfl ?_
          exact ⟨0, 0, ⟨#[]⟩, 1, rfl, ⟨by omega, by omega⟩, HRE.out _ _ _, .inr ⟨Nat.le_refl _, HNS.out, HYE.out⟩⟩
        · obtain rfl : z = 1 := by omega
          have HV1 : Hid (val1 k (turnL d s.toList) = okV (raw1 k q)) := Lib.hid (by
            rw [← HT.out]
            have hc1 : c = 1 := UInt8.toNat_inj.1 (by show c.toNat = 1; omega)
            show (if c = 0 then some ((⟨0, 0, []⟩ : Vl), q) else if c = 1 then okV (raw1 k q) else none) = _
            rw [if_neg (by rw [hc1]; decide), if_pos hc1])
          have HDR : Hid (∀ m, (turnL d s.toList).drop (m + 1) = q.drop m) := Lib.hid (fun m => by rw [← HT.out]; rfl)
          have HTW := Lib.hid (TwoAt.start (cp := cp) HA.out k (by simp) (by rw [HTL.out]; omega) (by rw [HTL.out]; exact HCP.out))
          rw [HTL.out] at HTW
          clear hz h0 h1 r0 r1 r2 f0 f1 f2 HRE HA
          go_upto_region 12 with fail
          clear hcell
          generalize (World.alloc (World.alloc _ (.cells #[.int .i64 k, .int .u64 0, .string ⟨#[]⟩] 42)) (.cells #[.slice (some ⟨w.heap.size + 1, 0, none⟩) n cp, .int .i64 1, .bool false] 80)) = w3 at *
          have hk : k = 1 ∨ k = 2 ∨ k = 3 := by have := HK15.out; omega
          rcases hk with rfl | rfl | rfl
          · by_cases h9 : 8 ≤ q.length
            · have HNS : Hid (8 + 1 ≤ s.size) := Lib.hid (by rw [← HN.out, ← HQL.out]; omega)
              obtain ⟨x, hx⟩ : ∃ x, numB (((c :: q).drop 1).take 8) = x := ⟨_, rfl⟩
              have hx2 : x < 256 ^ 8 := by rw [← hx]; exact numB_lt 8 _ (by simp; omega)
              rw [pow8] at hx2
              have hxo := flip_bits x hx2
              obtain ⟨y, hy⟩ : ∃ y, flipN x = y := ⟨_, rfl⟩
              have HU64 : Hid (U64 (y : Int)) := Lib.hid (u64_nat (by rw [← hy]; exact flipN_lt hx2))
              have HRAW : Hid (raw1 1 q = some (vl 1 (y : Int) ⟨#[]⟩, q.drop 8)) := Lib.hid (by
                have h := raw1_one h9
                rw [show numB (q.take 8) = x from hx, hy] at h
                exact h)
              rw [hy] at hxo
              clear hy
              have HIN : Hid (TwoAt w w3 _ _ cp (c :: q) 1 0 ⟨#[]⟩ 1 false) := HTW
              have hnum := rinum_ok w3 _ _ cp 8 (c :: q) 1 HIN.out.i (by simp; omega) (by omega)
              rw [hx] at hnum
              have HNUM := Lib.hid hnum
              have HLQ : Hid (1 + 8 ≤ (c :: q).length) := Lib.hid (by simp; omega)
              clear hnum hx hx2 h9
              go_wp2_with fail
              refine HNUM.out.mono ?_
              rintro e w4 ⟨rfl, qq, hw4⟩
              have hT4 := (HIN.out.drewN qq).move (1 + 8) HLQ.out
              rw [hw4] at hT4
              have HT4 := Lib.hid hT4
              have HT5 := Lib.hid (hT4.num (y : Int))
              clear hT4 hw4 HNUM HTW HIN
              obtain ⟨⟨c0, c1, c2⟩, f0, f1, f2⟩ := HT4.out.cells
              go_upto_region 29 with fail
              generalize World.setCell w4 _ (.int .u64 (y : Int)) = w5 at *
              clear c0 c1 c2 f0 f1 f2 HT4 hxo
              obtain ⟨⟨c0, c1, c2⟩, f0, f1, f2⟩ := HT5.out.cells
              obtain ⟨b0, b1, b2⟩ := HT5.out.i.c
              obtain ⟨B, hB⟩ : ∃ B, (vl 1 (y : Int) ⟨#[]⟩).okB = B := ⟨_, rfl⟩
              have HBB := Lib.hid hB
              have HVA : Hid (∀ W, Calls Tryd.prog 25 #[vlv 1 (y : Int) ⟨#[]⟩] W fun e w' => e = .returned (.bool B) ∧ Below W.heap.size W w') := Lib.hid (fun W => by
                have h := rvalid_any (K := 1) (s := ⟨#[]⟩) HU64.out W
                rw [hB] at h
                exact h)
              clear hB
              go_wp2_with fail
              refine (HVA.out _).mono ?_
              rintro e w6 ⟨rfl, hb6⟩
              have HT6 := Lib.hid (HT5.out.keep (below_quiet hb6))
              clear hb6 HT5 HVA c0 c1 c2 f0 f1 f2 b0 b1 b2
              obtain ⟨⟨c0, c1, c2⟩, f0, f1, f2⟩ := HT6.out.cells
              obtain ⟨b0, b1, b2⟩ := HT6.out.i.c
              obtain ⟨⟨r0, r1, r2⟩, e0, e1, e2⟩ := HT6.out.res
              cases B with
              | false =>
                have HNO : Hid (val1 1 (turnL d s.toList) = none) := Lib.hid (by
                  rw [HV1.out, HRAW.out]
                  exact okV_no HBB.out)
                have HRE := Lib.hid (only_res HT6.out.only)
                go_wp2_with fail
                refine bodyPost_ret (v := .tuple #[vlv 0 0 ⟨#[]⟩, .int .i64 0]) (by simp [results, Tryd.results30, go_sem, r0, r1, r2]) rfl ?_
                exact one_none HNO.out (HRE.out _ _ _)
              | true =>
                have HYE : Hid (val1 1 (turnL d s.toList) = some (vl 1 (y : Int) ⟨#[]⟩, (turnL d s.toList).drop (8 + 1))) := Lib.hid (by
                  rw [HV1.out, HRAW.out, HDR.out]
                  exact okV_yes HBB.out)
                have HRE := Lib.hid (only_res HT6.out.only.drew)
                have hap := HT6.out.apart (.int .i64 1) (.int .u64 (y : Int))
                go_upto_region 31 with fail
                go_region
                all_goals
                  go_wp2_with fail
                  refine bodyPost_ret (v := .tuple #[vlv 1 (y : Int) ⟨#[]⟩, .int .i64 ((8 + 1 : Nat) : Int)]) (by simp [results, Tryd.results30, go_sem, r0, r1, r2]) rfl ?_
                  exact ⟨1, (y : Int), ⟨#[]⟩, 8 + 1, rfl, HU64.out, HRE.out _ _ _, .inr ⟨by omega, HNS.out, HYE.out⟩⟩
            · have HNO : Hid (val1 1 (turnL d s.toList) = none) := Lib.hid (by
                rw [HV1.out]
                rw [raw1_short (by omega) h9]
                rfl)
              have HIN : Hid (TwoAt w w3 _ _ cp (c :: q) 1 0 ⟨#[]⟩ 1 false) := HTW
              have HNUM := Lib.hid (rinum_bad w3 _ _ cp 8 (c :: q) 1 false HIN.out.i (.inr (by simp; omega)))
              clear h9
              go_wp2_with fail
              refine HNUM.out.mono ?_
              rintro e w4 ⟨rfl, qq, hw4⟩
              have hT4 := (HIN.out.drewN qq).spoil
              rw [hw4] at hT4
              have HT4 := Lib.hid hT4
              clear hT4 hw4 HNUM HTW HIN
              obtain ⟨⟨c0, c1, c2⟩, f0, f1, f2⟩ := HT4.out.cells
              go_upto_region 29 with fail
              have HT5 := Lib.hid (HT4.out.num (bits BinOp.xor IntKind.u64 0 9223372036854775808))
              generalize World.setCell w4 _ (.int .u64 (bits BinOp.xor IntKind.u64 0 9223372036854775808)) = w5 at *
              clear c0 c1 c2 f0 f1 f2 HT4
              obtain ⟨⟨c0, c1, c2⟩, f0, f1, f2⟩ := HT5.out.cells
              obtain ⟨b0, b1, b2⟩ := HT5.out.i.c
              obtain ⟨⟨r0, r1, r2⟩, e0, e1, e2⟩ := HT5.out.res
              have HRE := Lib.hid (only_res HT5.out.only)
              go_wp2_with fail
              refine bodyPost_ret (v := .tuple #[vlv 0 0 ⟨#[]⟩, .int .i64 0]) (by simp [results, Tryd.results30, go_sem, r0, r1, r2]) rfl ?_
              exact one_none HNO.out (HRE.out _ _ _)
          · by_cases h9 : 8 ≤ q.length
            · have HNS : Hid (8 + 1 ≤ s.size) := Lib.hid (by rw [← HN.out, ← HQL.out]; omega)
              obtain ⟨x, hx⟩ : ∃ x, numB (((c :: q).drop 1).take 8) = x := ⟨_, rfl⟩
              have hx2 : x < 256 ^ 8 := by rw [← hx]; exact numB_lt 8 _ (by simp; omega)
              rw [pow8] at hx2
              have HU64 : Hid (U64 (x : Int)) := Lib.hid (u64_nat hx2)
              have HRAW : Hid (raw1 2 q = some (vl 2 (x : Int) ⟨#[]⟩, q.drop 8)) := Lib.hid (by
                have h := raw1_two h9
                rw [show numB (q.take 8) = x from hx] at h
                exact h)
              have HIN : Hid (TwoAt w w3 _ _ cp (c :: q) 2 0 ⟨#[]⟩ 1 false) := HTW
              have hnum := rinum_ok w3 _ _ cp 8 (c :: q) 1 HIN.out.i (by simp; omega) (by omega)
              rw [hx] at hnum
              have HNUM := Lib.hid hnum
              have HLQ : Hid (1 + 8 ≤ (c :: q).length) := Lib.hid (by simp; omega)
              clear hnum hx hx2 h9
              go_wp2_with fail
              refine HNUM.out.mono ?_
              rintro e w4 ⟨rfl, qq, hw4⟩
              have hT4 := (HIN.out.drewN qq).move (1 + 8) HLQ.out
              rw [hw4] at hT4
              have HT4 := Lib.hid hT4
              have HT5 := Lib.hid (hT4.num (x : Int))
              clear hT4 hw4 HNUM HTW HIN
              obtain ⟨⟨c0, c1, c2⟩, f0, f1, f2⟩ := HT4.out.cells
              go_upto_region 29 with fail
              generalize World.setCell w4 _ (.int .u64 (x : Int)) = w5 at *
              clear c0 c1 c2 f0 f1 f2 HT4
              obtain ⟨⟨c0, c1, c2⟩, f0, f1, f2⟩ := HT5.out.cells
              obtain ⟨b0, b1, b2⟩ := HT5.out.i.c
              obtain ⟨B, hB⟩ : ∃ B, (vl 2 (x : Int) ⟨#[]⟩).okB = B := ⟨_, rfl⟩
              have HBB := Lib.hid hB
              have HVA : Hid (∀ W, Calls Tryd.prog 25 #[vlv 2 (x : Int) ⟨#[]⟩] W fun e w' => e = .returned (.bool B) ∧ Below W.heap.size W w') := Lib.hid (fun W => by
                have h := rvalid_any (K := 2) (s := ⟨#[]⟩) HU64.out W
                rw [hB] at h
                exact h)
              clear hB
              go_wp2_with fail
              refine (HVA.out _).mono ?_
              rintro e w6 ⟨rfl, hb6⟩
              have HT6 := Lib.hid (HT5.out.keep (below_quiet hb6))
              clear hb6 HT5 HVA c0 c1 c2 f0 f1 f2 b0 b1 b2
              obtain ⟨⟨c0, c1, c2⟩, f0, f1, f2⟩ := HT6.out.cells
              obtain ⟨b0, b1, b2⟩ := HT6.out.i.c
              obtain ⟨⟨r0, r1, r2⟩, e0, e1, e2⟩ := HT6.out.res
              cases B with
              | false =>
                have HNO : Hid (val1 2 (turnL d s.toList) = none) := Lib.hid (by
                  rw [HV1.out, HRAW.out]
                  exact okV_no HBB.out)
                have HRE := Lib.hid (only_res HT6.out.only)
                go_wp2_with fail
                refine bodyPost_ret (v := .tuple #[vlv 0 0 ⟨#[]⟩, .int .i64 0]) (by simp [results, Tryd.results30, go_sem, r0, r1, r2]) rfl ?_
                exact one_none HNO.out (HRE.out _ _ _)
              | true =>
                have HYE : Hid (val1 2 (turnL d s.toList) = some (vl 2 (x : Int) ⟨#[]⟩, (turnL d s.toList).drop (8 + 1))) := Lib.hid (by
                  rw [HV1.out, HRAW.out, HDR.out]
                  exact okV_yes HBB.out)
                have HRE := Lib.hid (only_res HT6.out.only.drew)
                have hap := HT6.out.apart (.int .i64 2) (.int .u64 (x : Int))
                go_upto_region 31 with fail
                go_region
                all_goals
                  go_wp2_with fail
                  refine bodyPost_ret (v := .tuple #[vlv 2 (x : Int) ⟨#[]⟩, .int .i64 ((8 + 1 : Nat) : Int)]) (by simp [results, Tryd.results30, go_sem, r0, r1, r2]) rfl ?_
                  exact ⟨2, (x : Int), ⟨#[]⟩, 8 + 1, rfl, HU64.out, HRE.out _ _ _, .inr ⟨by omega, HNS.out, HYE.out⟩⟩
            · have HNO : Hid (val1 2 (turnL d s.toList) = none) := Lib.hid (by
                rw [HV1.out]
                rw [raw1_short (by omega) h9]
                rfl)
              have HIN : Hid (TwoAt w w3 _ _ cp (c :: q) 2 0 ⟨#[]⟩ 1 false) := HTW
              have HNUM := Lib.hid (rinum_bad w3 _ _ cp 8 (c :: q) 1 false HIN.out.i (.inr (by simp; omega)))
              clear h9
              go_wp2_with fail
              refine HNUM.out.mono ?_
              rintro e w4 ⟨rfl, qq, hw4⟩
              have hT4 := (HIN.out.drewN qq).spoil
              rw [hw4] at hT4
              have HT4 := Lib.hid hT4
              clear hT4 hw4 HNUM HTW HIN
              obtain ⟨⟨c0, c1, c2⟩, f0, f1, f2⟩ := HT4.out.cells
              go_upto_region 29 with fail
              have HT5 := Lib.hid (HT4.out.num 0)
              generalize World.setCell w4 _ (.int .u64 0) = w5 at *
              clear c0 c1 c2 f0 f1 f2 HT4
              obtain ⟨⟨c0, c1, c2⟩, f0, f1, f2⟩ := HT5.out.cells
              obtain ⟨b0, b1, b2⟩ := HT5.out.i.c
              obtain ⟨⟨r0, r1, r2⟩, e0, e1, e2⟩ := HT5.out.res
              have HRE := Lib.hid (only_res HT5.out.only)
              go_wp2_with fail
              refine bodyPost_ret (v := .tuple #[vlv 0 0 ⟨#[]⟩, .int .i64 0]) (by simp [results, Tryd.results30, go_sem, r0, r1, r2]) rfl ?_
              exact one_none HNO.out (HRE.out _ _ _)
          · by_cases h9 : 1 ≤ q.length
            · have HNS : Hid (1 + 1 ≤ s.size) := Lib.hid (by rw [← HN.out, ← HQL.out]; omega)
              obtain ⟨x, hx⟩ : ∃ x, numB (((c :: q).drop 1).take 1) = x := ⟨_, rfl⟩
              have hx2 : x < 256 ^ 1 := by rw [← hx]; exact numB_lt 1 _ (by simp; omega)
              have HU64 : Hid (U64 (x : Int)) := Lib.hid (u64_nat (by omega))
              have HRAW : Hid (raw1 3 q = some (vl 3 (x : Int) ⟨#[]⟩, q.drop 1)) := Lib.hid (by
                match q, h9, hx with
                | b :: r, _, hx =>
                  rw [vl_nil, ← hx]
                  show some ((⟨3, b.toNat, []⟩ : Vl), r) = some ((⟨3, numB [b], []⟩ : Vl), r)
                  simp [numB])
              have HIN : Hid (TwoAt w w3 _ _ cp (c :: q) 3 0 ⟨#[]⟩ 1 false) := HTW
              have hnum := rinum_ok w3 _ _ cp 1 (c :: q) 1 HIN.out.i (by simp; omega) (by omega)
              rw [hx] at hnum
              have HNUM := Lib.hid hnum
              have HLQ : Hid (1 + 1 ≤ (c :: q).length) := Lib.hid (by simp; omega)
              clear hnum hx hx2 h9
              go_wp2_with fail
              refine HNUM.out.mono ?_
              rintro e w4 ⟨rfl, qq, hw4⟩
              have hT4 := (HIN.out.drewN qq).move (1 + 1) HLQ.out
              rw [hw4] at hT4
              have HT4 := Lib.hid hT4
              have HT5 := Lib.hid (hT4.num (x : Int))
              clear hT4 hw4 HNUM HTW HIN
              obtain ⟨⟨c0, c1, c2⟩, f0, f1, f2⟩ := HT4.out.cells
              go_upto_region 29 with fail
              generalize World.setCell w4 _ (.int .u64 (x : Int)) = w5 at *
              clear c0 c1 c2 f0 f1 f2 HT4
              obtain ⟨⟨c0, c1, c2⟩, f0, f1, f2⟩ := HT5.out.cells
              obtain ⟨b0, b1, b2⟩ := HT5.out.i.c
              obtain ⟨B, hB⟩ : ∃ B, (vl 3 (x : Int) ⟨#[]⟩).okB = B := ⟨_, rfl⟩
              have HBB := Lib.hid hB
              have HVA : Hid (∀ W, Calls Tryd.prog 25 #[vlv 3 (x : Int) ⟨#[]⟩] W fun e w' => e = .returned (.bool B) ∧ Below W.heap.size W w') := Lib.hid (fun W => by
                have h := rvalid_any (K := 3) (s := ⟨#[]⟩) HU64.out W
                rw [hB] at h
                exact h)
              clear hB
              go_wp2_with fail
              refine (HVA.out _).mono ?_
              rintro e w6 ⟨rfl, hb6⟩
              have HT6 := Lib.hid (HT5.out.keep (below_quiet hb6))
              clear hb6 HT5 HVA c0 c1 c2 f0 f1 f2 b0 b1 b2
              obtain ⟨⟨c0, c1, c2⟩, f0, f1, f2⟩ := HT6.out.cells
              obtain ⟨b0, b1, b2⟩ := HT6.out.i.c
              obtain ⟨⟨r0, r1, r2⟩, e0, e1, e2⟩ := HT6.out.res
              cases B with
              | false =>
                have HNO : Hid (val1 3 (turnL d s.toList) = none) := Lib.hid (by
                  rw [HV1.out, HRAW.out]
                  exact okV_no HBB.out)
                have HRE := Lib.hid (only_res HT6.out.only)
                go_wp2_with fail
                refine bodyPost_ret (v := .tuple #[vlv 0 0 ⟨#[]⟩, .int .i64 0]) (by simp [results, Tryd.results30, go_sem, r0, r1, r2]) rfl ?_
                exact one_none HNO.out (HRE.out _ _ _)
              | true =>
                have HYE : Hid (val1 3 (turnL d s.toList) = some (vl 3 (x : Int) ⟨#[]⟩, (turnL d s.toList).drop (1 + 1))) := Lib.hid (by
                  rw [HV1.out, HRAW.out, HDR.out]
                  exact okV_yes HBB.out)
                have HRE := Lib.hid (only_res HT6.out.only.drew)
                have hap := HT6.out.apart (.int .i64 3) (.int .u64 (x : Int))
                go_upto_region 31 with fail
                go_region
                all_goals
                  go_wp2_with fail
                  refine bodyPost_ret (v := .tuple #[vlv 3 (x : Int) ⟨#[]⟩, .int .i64 ((1 + 1 : Nat) : Int)]) (by simp [results, Tryd.results30, go_sem, r0, r1, r2]) rfl ?_
                  exact ⟨3, (x : Int), ⟨#[]⟩, 1 + 1, rfl, HU64.out, HRE.out _ _ _, .inr ⟨by omega, HNS.out, HYE.out⟩⟩
            · have HNO : Hid (val1 3 (turnL d s.toList) = none) := Lib.hid (by
                rw [HV1.out]
                match q, h9 with
                | [], _ => rfl
                | _ :: _, h9 => exact absurd (by simp) h9)
              have HIN : Hid (TwoAt w w3 _ _ cp (c :: q) 3 0 ⟨#[]⟩ 1 false) := HTW
              have HNUM := Lib.hid (rinum_bad w3 _ _ cp 1 (c :: q) 1 false HIN.out.i (.inr (by simp; omega)))
              clear h9
              go_wp2_with fail
              refine HNUM.out.mono ?_
              rintro e w4 ⟨rfl, qq, hw4⟩
              have hT4 := (HIN.out.drewN qq).spoil
              rw [hw4] at hT4
              have HT4 := Lib.hid hT4
              clear hT4 hw4 HNUM HTW HIN
              obtain ⟨⟨c0, c1, c2⟩, f0, f1, f2⟩ := HT4.out.cells
              go_upto_region 29 with fail
              have HT5 := Lib.hid (HT4.out.num 0)
              generalize World.setCell w4 _ (.int .u64 0) = w5 at *
              clear c0 c1 c2 f0 f1 f2 HT4
              obtain ⟨⟨c0, c1, c2⟩, f0, f1, f2⟩ := HT5.out.cells
              obtain ⟨b0, b1, b2⟩ := HT5.out.i.c
              obtain ⟨⟨r0, r1, r2⟩, e0, e1, e2⟩ := HT5.out.res
              have HRE := Lib.hid (only_res HT5.out.only)
              go_wp2_with fail
              refine bodyPost_ret (v := .tuple #[vlv 0 0 ⟨#[]⟩, .int .i64 0]) (by simp [results, Tryd.results30, go_sem, r0, r1, r2]) rfl ?_
              exact one_none HNO.out (HRE.out _ _ _)

end Go.Proofs.YtlmpknhekoeecaaDoor
