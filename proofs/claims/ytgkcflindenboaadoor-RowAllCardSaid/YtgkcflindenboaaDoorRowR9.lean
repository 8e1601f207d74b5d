/-
  The document's own rows: Decode, Place.
-/
import Derived.Test.YtgkcflindenboaaDoorRowR8
namespace Go.Proofs.YtgkcflindenboaaDoor
open Go Go.RowKit
set_option linter.unusedVariables false
set_option linter.unusedSimpArgs false
set_option maxRecDepth 100000

/-- What take has told of a row's bytes. -/
theorem take_readN {cs : List Cv} {s : List UInt8} (h : ∀ b r, s = b :: r → 1 ≤ b.toNat → b.toNat ≤ cs.length → takeL (cs.take b.toNat) r = none) : readR cs s = none := by
  unfold readR
  split
  · rfl
  · match s, h with
    | [], _ => rfl
    | b :: r, h =>
      simp only
      split
      · rfl
      · rename_i hb
        exact h b r rfl (by omega) (by omega)
theorem take_readY {cs : List Cv} {b : UInt8} {r : List UInt8} {vs : List Vv} {ats : List Nat} (h1 : 1 ≤ b.toNat) (h2 : b.toNat ≤ cs.length) (h5 : ¬ 512 < (b :: r).length) (h : TakeS (cs.take b.toNat) r vs ats b.toNat []) : readR cs (b :: r) = some (vs.map Vv.vl) := by
  unfold readR
  rw [if_neg h5]
  simp only
  rw [if_neg (by omega), h.ends (by rw [List.length_take]; omega), if_pos rfl]
theorem readR_long {cs : List Cv} {s : List UInt8} (h : 512 < s.length) : readR cs s = none := by
  unfold readR
  rw [if_pos h]
theorem defs_next {cs : List Cv} {k q : Nat} (hk : k < cs.length) (hq : q ≤ k) : ((cs.take (k + 1)).drop q).map Cv.d = ((cs.take k).drop q).map Cv.d ++ [(cs.getD k default).d] := by
  rw [List.take_succ_eq_append_getElem hk, List.drop_append_of_le_length (by rw [List.length_take]; omega), List.map_append]
  simp [List.getD_eq_getElem?_getD, hk]

set_option maxHeartbeats 8000000 in
theorem rdecode8 (co : Option Addr) (n cc : Nat) (cs : List Cv) (s : ByteArray) (w : World) (hc : SlCs w co cs) (hn : n = cs.length) (hs : s.size ≤ 140737488351232) :
    Calls Tryd.prog 15 #[.slice co n cc, .string s] w fun e w' => RDecPost cs s.toList w e w' := by
  have HC := Lib.hid hc
  have HN := Lib.hid hn
  have HCO := Lib.hid (rcols8 co n cc cs w hc hn)
  obtain ⟨B, hB⟩ : ∃ B, colsB cs = B := ⟨_, rfl⟩
  rw [hB] at HCO
  have HB := Lib.hid hB
  have HSZ : Hid (s.toList.length = s.size) := Lib.hid (ba_size s)
  have HS47 := Lib.hid hs
  clear hc hn hB hs
  cases B with
  | false =>
    have HE : Hid (([], 1) = rdec cs s.toList) := Lib.hid (by unfold rdec; rw [if_pos HB.out])
    go_enter Tryd.func15, Tryd.ntmps15
    go_wp2_with fail
    refine HCO.out.mono ?_
    rintro e w1 ⟨rfl, h1⟩
    have H1 := Lib.hid h1
    clear h1 HCO
    go_wp2_with fail
    go_ret2
    exact rdec_none HE.out H1.out
  | true =>
    have HCB := Lib.hid (colsB_iff.1 HB.out)
    have hn24 : n ≤ 24 := by have := HCB.out.2.1; have := HN.out; omega
    go_enter Tryd.func15, Tryd.ntmps15
    go_wp2_with fail
    refine HCO.out.mono ?_
    rintro e w1 ⟨rfl, h1⟩
    have H1 := Lib.hid h1
    have HRD := Lib.hid (rtake8 co n cc cs s w1 (HC.out.keep h1) HN.out HCB.out.2.2 HCB.out.2.1 HS47.out)
    clear h1 HCO
    go_wp2_with fail
    refine HRD.out.mono ?_
    rintro e w2 ⟨lv, av, vs, ats, ok, rfl, hy, hno, h2⟩
    have HY := Lib.hid hy
    have HNO := Lib.hid hno
    have H2 : Hid (Own w w2 (Sep (RowV 42 3 lv vs.length (vcells vs)) (RowV 3 1 av ats.length (icells ats)))) := Lib.hid (by
      obtain ⟨F, q1, q2, q3⟩ := h2
      exact ⟨F, q1, fun k hk => Nat.le_trans H1.out.size (q2 k hk), H1.out.trans q3 (fun _ _ h => h)⟩)
    obtain ⟨lo, lc, rfl⟩ := own_shapeN H2.out.owns
    obtain ⟨ao, ac, rfl⟩ := own_shapeN H2.out.snd.emp'.owns
    clear hy hno h2 HRD
    cases ok with
    | false =>
      have HE : Hid (([], 2) = rdec cs s.toList) := Lib.hid (by
        unfold rdec
        rw [if_neg (by rw [HB.out]; decide), take_readN (HNO.out rfl)])
      go_wp2_with fail
      go_ret2
      exact rdec_none HE.out H2.out.only
    | true =>
      obtain ⟨b, r, e0, e1, e2, e3⟩ := HY.out rfl
      by_cases h5 : 512 < s.size
      · have h5I : (512 : Int) < (s.size : Int) := by omega
        have HE : Hid (([], 2) = rdec cs s.toList) := Lib.hid (by
          unfold rdec
          rw [if_neg (by rw [HB.out]; decide), readR_long (by rw [HSZ.out]; exact h5)])
        clear e0 e1 e2 e3 h5
        go_wp2_with fail
        go_ret2
        exact rdec_none HE.out H2.out.only
      have h5I : ¬ (512 : Int) < (s.size : Int) := by omega
      obtain ⟨q, hq⟩ : ∃ q, q = vs.length := ⟨_, rfl⟩
      have HRR : Hid (readR cs s.toList = some (vs.map Vv.vl)) := Lib.hid (by
        rw [e0]
        exact take_readY e1 e2 (by rw [← e0, HSZ.out]; exact h5) e3)
      have HQ : Hid (q = vs.length ∧ q ≤ n) := Lib.hid ⟨hq, by rw [hq, e3.rd.len, HN.out]; exact e2⟩
      have HU : Hid (∀ v ∈ vs, U64 v.N) := Lib.hid e3.rd.u64
      have HO : Hid (Own w w2 (RowV 42 3 (.slice lo q lc) q (vcells vs))) := Lib.hid (by rw [hq]; exact H2.out.fst)
      have hqn : q ≤ n := HQ.out.2
      rw [← hq]
      clear e0 e1 e2 e3 h5 hq H2 HNO HY
      go_wp2_with fail
      go_loopw [6, 9] (fun lv i wr => ∃ (k : Nat) (lo : Option Addr) (lc : Nat), q ≤ k ∧ k ≤ n ∧ i = .int .i64 (k : Int) ∧ lv = .slice lo k lc ∧ Hid (Own w wr (RowV 42 3 (.slice lo k lc) k (vcells (vs ++ ((cs.take k).drop q).map Cv.d))))) (fun _ i _ => n - (intOf i).toNat)
      case atStart => exact ⟨q, lo, lc, Nat.le_refl _, hqn, rfl, rfl, Lib.hid (by rw [List.drop_of_length_le (by rw [List.length_take]; omega), List.map_nil, List.append_nil]; exact HO.out)⟩
      case round =>
        clear HO
        obtain ⟨k, lo, lc, hk0, hk, rfl, rfl, HO⟩ := hrel
        by_cases hlt : k < n
        · have HKL : Hid (k < cs.length) := Lib.hid (by rw [← HN.out]; exact hlt)
          obtain ⟨g2, off2, rfl, hca⟩ := (HC.out.keep HO.out.only) k HKL.out
          have HDN := Lib.hid (defs_next HKL.out hk0)
          obtain ⟨c, hce⟩ : ∃ c, cs.getD k default = c := ⟨_, rfl⟩
          rw [hce] at hca HDN
          obtain ⟨y0, y1, y2, y3, y4, y5, y6, hu⟩ := hca
          have hltI : (k : Int) < (n : Int) := by omega
          have hk0I : (0 : Int) ≤ (k : Int) := by omega
          have hbs := fun w => run_buildSlice_one (P := Tryd.prog) w 22 42 _ 3 Tryd.underlying22 Tryd.infoVal rfl (by decide) (by decide) #[.int .i64 c.dK, .int .u64 c.dN, .string c.dS] rfl
          obtain ⟨i0, hi0, hz0, hz1, hz2⟩ := info_parts Tryd.infoVal3
          have HRW := Lib.hid (HO.out.emp'.owns.alloc (.cells #[.int .i64 c.dK, .int .u64 c.dN, .string c.dS] 42))
          have HA := Lib.hid ((HO.out.emp'.alloc (.cells #[.int .i64 c.dK, .int .u64 c.dN, .string c.dS] 42)).snd)
          have HVC : Hid (vcells (vs ++ ((cs.take (k + 1)).drop q).map Cv.d) = vcells (vs ++ ((cs.take k).drop q).map Cv.d) ++ [.int .i64 c.dK, .int .u64 c.dN, .string c.dS]) := Lib.hid (by rw [HDN.out, ← List.append_assoc]; exact vcells_snoc _ c.d)
          have HVL : Hid ((vcells (vs ++ ((cs.take k).drop q).map Cv.d)).length = k * 3) := Lib.hid (by
            rw [vcells_length, List.length_append, List.length_map, List.length_drop, List.length_take, ← HQ.out.1]
            have := HKL.out
            omega)
          obtain ⟨X, hX⟩ : ∃ X, vs ++ ((cs.take k).drop q).map Cv.d = X := ⟨_, rfl⟩
          rw [hX] at HRW HA HVC HVL
          clear hce hu HO HDN hX
          go_wp2_with (first | (at_builtin; refine wpList_append_lies _ rfl (.tmp 35) (.tmp 41) 22 rfl 0 42 i0 _ 3 32 Tryd.underlying22 hi0 hz0 hz1 hz2 rfl (by decide) (.slice lo k lc) k (vcells X) rfl HRW.out ⟨wr.heap.size, 0, none⟩ 1 1 [.int .i64 c.dK, .int .u64 c.dN, .string c.dS] rfl rfl (World.news_of_block (heap_alloc_new wr _)) ?_ Nat.zero_lt_one ?_ ?_ (Nat.zero_le _) (wr.heap.size + 1) ?_ ?_))
          · exact vcells_one [c.d]
          · unfold maxLen; omega
          · omega
          · simp
          intro g3 cap3 w6 hown hgrow hat hlt5
          have h5 := HA.out.appended hown hgrow (hat.imp (fun h => h) (fun h => by simp; omega))
          rw [← HVC.out] at h5
          have H6 : Hid (Own w w6 (RowV 42 3 (.slice (some ⟨g3, 0, none⟩) (k + 1) cap3) (k + 1) (vcells (vs ++ ((cs.take (k + 1)).drop q).map Cv.d)))) := Lib.hid h5.fst
          clear hown hgrow hat hlt5 h5 HA HRW hi0 hz0 hz1 hz2 hbs y0 y1 y2 y3 y4 y5 y6 HVC HVL
          go_wp2_with fail
          go_roundw
          case rel => exact ⟨k + 1, some ⟨g3, 0, none⟩, cap3, by omega, by omega, by go_num, rfl, H6⟩
          case measure => simp [intOf]; omega
        · obtain rfl : k = n := by omega
          have hltI : ¬ (k : Int) < (k : Int) := by omega
          go_wp2_with fail
          go_ret2
          have hO := HO.out
          rw [List.take_of_length_le (by rw [← HN.out]; exact Nat.le_refl _)] at hO
          refine ⟨_, vs ++ (cs.drop q).map Cv.d, 0, rfl, ?_, ?_, ?_⟩
          · unfold rdec
            rw [if_neg (by rw [HB.out]; decide), HRR.out]
            simp only [List.length_map, ← HQ.out.1, List.map_append, List.map_map]
            rfl
          · intro v hv
            rcases List.mem_append.1 hv with hv | hv
            · exact HU.out v hv
            · obtain ⟨c, hc, rfl⟩ := List.mem_map.1 hv
              exact HC.out.u64 c (List.mem_of_mem_drop hc)
          · rw [show (vs ++ (cs.drop q).map Cv.d).length = k by rw [List.length_append, List.length_map, List.length_drop, ← HQ.out.1, ← HN.out]; omega]
            exact hO

end Go.Proofs.YtgkcflindenboaaDoor
