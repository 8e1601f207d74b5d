/-
  The document's own keys: one value read, and Decode: it answers decE.
-/
import Derived.Test.YtlmpknhekoeecaaDoorKeyN7
namespace Go.Proofs.YtlmpknhekoeecaaDoor
open Go Go.RowKit
set_option linter.unusedVariables false
set_option linter.unusedSimpArgs false
set_option maxRecDepth 100000

theorem rone (k : Int) (d : Bool) (s : ByteArray) (w : World) (hs : s.size ≤ 256) (hk1 : 1 ≤ k) (hk5 : k ≤ 5) :
    Calls Tryd.prog 30 #[.int .i64 k, .bool d, .string s] w fun e w' => OnePost k d s w e w' := by
  by_cases h : k ≤ 3
  · exact rone3 k d s w hs hk1 h
  · exact rone45 k d s w hs (by omega) hk5
/-- Behind a call of one: the value in a block of its own, how many bytes. -/
def OneCut (z : Int) (dd : Bool) (x : ByteArray) (wr : World) (pv nv : Value) (wx : World) : Prop :=
  ∃ (p : Nat) (v : Vv) (nn : Nat), pv = .pointer (some ⟨p, 0, none⟩) ∧ nv = .int .i64 (nn : Int) ∧ wx.heap[p]? = some (.cells #[.int .i64 v.K, .int .u64 v.N, .string v.S] 42 (0, 0)) ∧ U64 v.N ∧ Only (fun _ => False) wr wx ∧
    (nn = 0 ∧ val1 z (turnL dd x.toList) = none ∨ 1 ≤ nn ∧ nn ≤ x.size ∧ val1 z (turnL dd x.toList) = some (v.vl, (turnL dd x.toList).drop nn))
theorem two_held {wr W W' : World} {A B : Addr} {u v : Value} (h : Only (fun _ => False) wr W) (h2 : Only (fun _ => False) W W') (ha : wr.cell? A = some u) (hb : wr.cell? B = some v) : W'.cell? A = some u ∧ W'.cell? B = some v :=
  ⟨h2.cellq (h.cellq ha), h2.cellq (h.cellq hb)⟩
theorem two_heldS {wr W : World} {A B : Addr} {u v a b c : Value} (h : Only (fun _ => False) wr W) (ha : wr.cell? A = some u) (hb : wr.cell? B = some v) :
    (((W.setCell ⟨wr.heap.size, 0, none⟩ a).setCell ⟨wr.heap.size, 1, none⟩ b).setCell ⟨wr.heap.size, 2, none⟩ c).cell? A = some u ∧ (((W.setCell ⟨wr.heap.size, 0, none⟩ a).setCell ⟨wr.heap.size, 1, none⟩ b).setCell ⟨wr.heap.size, 2, none⟩ c).cell? B = some v :=
  ⟨(only_res h a b c).cellq ha, (only_res h a b c).cellq hb⟩
theorem one_cutA {z : Int} {dd : Bool} {x : ByteArray} {wr W : World} {K N : Int} {S : ByteArray} {nn : Nat} (ho : Only (fun _ => False) wr W) (hb : W.heap[wr.heap.size]? = some (.cells #[.int .i64 0, .int .u64 0, .string ⟨#[]⟩] 42 (0, 0))) (hN : U64 N)
    (hv : nn = 0 ∧ val1 z (turnL dd x.toList) = none ∨ 1 ≤ nn ∧ nn ≤ x.size ∧ val1 z (turnL dd x.toList) = some (vl K N S, (turnL dd x.toList).drop nn)) :
    OneCut z dd x wr (.pointer (some ⟨wr.heap.size, 0, none⟩)) (.int .i64 (nn : Int)) (((W.setCell ⟨wr.heap.size, 0, none⟩ (.int .i64 K)).setCell ⟨wr.heap.size, 1, none⟩ (.int .u64 N)).setCell ⟨wr.heap.size, 2, none⟩ (.string S)) := by
  refine ⟨wr.heap.size, ⟨K, N, S⟩, nn, rfl, rfl, ?_, hN, only_res ho _ _ _, hv⟩
  have h1 := heap_set hb 0 (.int .i64 K)
  have h2 := heap_set h1 1 (.int .u64 N)
  have h3 := heap_set h2 2 (.string S)
  simpa using h3
theorem one_cutB {z : Int} {dd : Bool} {x : ByteArray} {wr W : World} {K N : Int} {S : ByteArray} {nn : Nat} (ho : Only (fun _ => False) wr W) (hN : U64 N)
    (hv : nn = 0 ∧ val1 z (turnL dd x.toList) = none ∨ 1 ≤ nn ∧ nn ≤ x.size ∧ val1 z (turnL dd x.toList) = some (vl K N S, (turnL dd x.toList).drop nn)) :
    OneCut z dd x wr (.pointer (some ⟨W.heap.size, 0, none⟩)) (.int .i64 (nn : Int)) (W.alloc (.cells #[.int .i64 K, .int .u64 N, .string S] 42)) :=
  ⟨W.heap.size, ⟨K, N, S⟩, nn, rfl, rfl, heap_alloc_new W _, hN, ho.alloc _, hv⟩
theorem bad_kind {ks : List Int} {k : Nat} {ds : List Bool} {s : List UInt8} (hk : k < ks.length) (h : ks.getD k 0 < 1 ∨ 5 < ks.getD k 0) : ([], 1) = decE ks ds s := by
  unfold decE
  rw [if_pos (.inr (List.any_eq_true.2 ⟨ks.getD k 0, by simp [hk], by simp only [Bool.or_eq_true, decide_eq_true_eq]; exact h⟩))]

set_option maxHeartbeats 16000000 in
theorem rdecode (kao dao : Option Addr) (n kc m dc : Nat) (ks : List Int) (ds : List Bool) (s : ByteArray) (w : World) (hk : SlI w kao ks) (hd : SlBo w dao ds) (hn : n = ks.length) (hm : m = ds.length) (hkl : ks.length ≤ 140737488355328) :
    Calls Tryd.prog 9 #[.slice kao n kc, .slice dao m dc, .string s] w fun e w' => DecPost ks ds s.toList w e w' := by
  have HK := Lib.hid hk
  have HD := Lib.hid hd
  have HN := Lib.hid hn
  have HM := Lib.hid hm
  have hn47 : n ≤ 140737488355328 := by omega
  clear hk hd hn hm hkl
  by_cases hnm : m = n
  case neg =>
    have HE : Hid (([], 1) = decE ks ds s.toList) := Lib.hid (by unfold decE; rw [if_pos (.inl (by have := HN.out; have := HM.out; omega))])
    have hne : ((n : Int) != (m : Int)) = true := by simp; omega
    go_enter Tryd.func9, Tryd.ntmps9
    go_wp2
    go_ret2
    exact dec_none HE.out (Only.refl _ _)
  subst hnm
  have HQ0 : Hid (Only (fun _ => False) w w) := Lib.hid (Only.refl _ w)
  go_enter Tryd.func9, Tryd.ntmps9
  go_wp2_with fail
  go_loopw [8] (fun i wr => ∃ k : Nat, k ≤ m ∧ i = .int .i64 (k : Int) ∧ Hid ((ks.take k).any noKind = false) ∧ Hid (Only (fun _ => False) w wr)) (fun i _ => m - (intOf i).toNat)
  case atStart => exact ⟨0, Nat.zero_le _, rfl, Lib.hid rfl, HQ0⟩
  case round =>
    clear HQ0
    obtain ⟨k, hk, rfl, HB, HO⟩ := hrel
    have hk0 : (0 : Int) ≤ (k : Int) := by omega
    by_cases hlt : k < m
    · have HKL : Hid (k < ks.length) := Lib.hid (by rw [← HN.out]; exact hlt)
      obtain ⟨gk, ok, rfl, hck⟩ := (HK.out.keep' HO.out).at HKL.out
      have HBK := Lib.hid (fun h => bad_kind (ds := ds) (s := s.toList) HKL.out h)
      have HAT := Lib.hid (any_take ks k HKL.out)
      obtain ⟨z, hz⟩ : ∃ z, ks.getD k 0 = z := ⟨_, rfl⟩
      rw [hz] at hck HBK HAT
      have hltI : (k : Int) < (m : Int) := by omega
      clear hz
      by_cases h1 : z < 1
      · have HE := Lib.hid (HBK.out (.inl h1))
        go_wp2_with fail
        go_ret2
        exact dec_none HE.out (by first | exact HO.out | exact HO.out.drew | exact HO.out.drewN _)
      · by_cases h5 : 5 < z
        · have HE := Lib.hid (HBK.out (.inr h5))
          go_wp2_with fail
          go_ret2
          exact dec_none HE.out (by first | exact HO.out | exact HO.out.drew | exact HO.out.drewN _)
        · have HB2 : Hid ((ks.take (k + 1)).any noKind = false) := Lib.hid (by rw [HAT.out, HB.out]; simp [noKind]; omega)
          go_wp2_with fail
          go_roundw
          case rel => exact ⟨k + 1, by omega, by go_num, HB2, by first | exact HO | exact Lib.hid HO.out.drew | exact Lib.hid (HO.out.drewN _)⟩
          case measure => simp [intOf]; omega
    · obtain rfl : m = k := by omega
      have hltI : ¬ (m : Int) < (m : Int) := by omega
      have HB2 : Hid (ks.any noKind = false) := Lib.hid (by have := HB.out; rwa [List.take_of_length_le (by rw [← HN.out]; exact Nat.le_refl _)] at this)
      clear HB
      by_cases h256 : 256 < s.size
      · have h1 : ¬ ks.length ≠ ds.length := by have := HN.out; have := HM.out; omega
        have HE : Hid (([], 2) = decE ks ds s.toList) := Lib.hid (by
          have hb := HB2.out
          unfold decE
          rw [if_neg (fun e => e.elim h1 (fun e => by rw [show ks.any noKind = true from e] at hb; cases hb)), if_pos (by rw [ba_size]; exact h256)])
        have hsI : (256 : Int) < (s.size : Int) := by omega
        clear h1 h256
        go_wp2_with fail
        go_ret2
        exact dec_none HE.out HO.out
      have hsI : ¬ (256 : Int) < (s.size : Int) := by omega
      have HOK : Hid (ks.length = ds.length ∧ (∀ k ∈ ks, 1 ≤ k ∧ k ≤ 5) ∧ s.toList.length ≤ 256) := Lib.hid ⟨by rw [← HN.out, ← HM.out], fun k hk => by
        obtain ⟨j, hj, rfl⟩ := List.getElem_of_mem hk
        have := noKind_of HB2.out hj
        simpa [hj] using this, by rw [ba_size]; omega⟩
      have h0 : Own w wr Emp := ⟨fun _ => False, fun _ h => h, fun _ h => h.elim, HO.out⟩
      have HQ0 : Hid (Own w wr (Sep (RowV 42 3 (.slice none 0 0) 0 (vcells [])) Emp)) := Lib.hid (h0.row_nil 42 3)
      clear h0
      clear hk hk0 HO h256
      go_wp2_with fail
      clear hltI
      go_loopw [2, 9, 10] (fun sv lv i wr => ∃ (k : Nat) (lo : Option Addr) (lc : Nat) (vs : List Vv) (x : ByteArray), k ≤ m ∧ i = .int .i64 (k : Int) ∧ lv = .slice lo k lc ∧ sv = .string x ∧ Hid (DecIn ks ds s.toList vs k x.toList) ∧ Hid (Own w wr (Sep (RowV 42 3 (.slice lo k lc) k (vcells vs)) Emp))) (fun _ _ i _ => m - (intOf i).toNat)
      case atStart => exact ⟨0, none, 0, [], s, Nat.zero_le _, rfl, rfl, rfl, Lib.hid ⟨rfl, by simp, fun _ h => by simp at h, by simp⟩, HQ0⟩
      case round =>
        clear HQ0
        obtain ⟨k, lo, lc, vs, x, hk, rfl, rfl, rfl, HI, HQ⟩ := hrel
        have hk0 : (0 : Int) ≤ (k : Int) := by omega
        by_cases hlt : k < m
        · have HKL : Hid (k < ks.length ∧ k < ds.length) := Lib.hid (by rw [← HN.out, ← HM.out]; exact ⟨hlt, hlt⟩)
          obtain ⟨gk, ok, rfl, hck⟩ := (HK.out.keep' HQ.out.only).at HKL.out.1
          obtain ⟨gd, od, rfl, hcd⟩ := (HD.out.keep HQ.out.only) k HKL.out.2
          obtain ⟨z, hz⟩ : ∃ z, ks.getD k 0 = z := ⟨_, rfl⟩
          obtain ⟨dd, hdd⟩ : ∃ dd, ds.getD k false = dd := ⟨_, rfl⟩
          have HZ : Hid (1 ≤ z ∧ z ≤ 5) := Lib.hid (hz ▸ noKind_of HB2.out HKL.out.1)
          rw [hz] at hck
          rw [hdd] at hcd
          have HZE := Lib.hid hz
          have HDE := Lib.hid hdd
          have HXS : Hid (x.size ≤ 256) := Lib.hid (by have h1 := HI.out.size; have h2 := HOK.out.2.2; have h3 := ba_size x; omega)
          have HONE := Lib.hid (fun W => rone z dd x W HXS.out HZ.out.1 HZ.out.2)
          have hltI : (k : Int) < (m : Int) := by omega
          clear hz hdd
          have HSd : Hid (Only (fun _ => False) wr wr.drew) := Lib.hid ((Only.refl _ wr).drew)
          go_upto_region 14 with fail
          go_cut [11, 12] (fun pv nv wx => OneCut z dd x wr pv nv wx)
          case first =>
            go_region_held3 (fun w' => w'.cell? ⟨gk, ok + k, none⟩ = some (.int .i64 z) ∧ w'.cell? ⟨gd, od + k, none⟩ = some (.bool dd))
              (first
                | (with_reducible exact two_heldS HOT.out hck hcd)
                | (with_reducible refine two_held HOT.out ?_ hck hcd; (repeat (first | with_reducible exact Only.refl _ _ | with_reducible refine Only.drew ?_ | with_reducible refine Only.alloc ?_ _)); done)
                | (with_reducible refine two_held (Only.refl _ wr) ?_ hck hcd; (repeat (first | with_reducible exact Only.refl _ _ | with_reducible refine Only.drew ?_ | with_reducible refine Only.alloc ?_ _)); done))
              (first
                | (go_at_call 30; (with_reducible refine (HONE.out _).mono ?_); rintro e w2 ⟨K, N, S, nn, rfl, hN, ho, hv⟩; have ho1 : Only (fun _ => False) (wr.alloc (.cells #[.int .i64 0, .int .u64 0, .string ⟨#[]⟩] 42)) w2 := Only.trans (T := fun _ => False) (by first | with_reducible exact Only.refl _ _ | with_reducible exact (Only.refl _ _).drew) ho (fun _ _ h => h); have HBK := Lib.hid ((ho1.block _ (by simp) (fun h => h)).trans (heap_alloc_new wr (.cells #[.int .i64 0, .int .u64 0, .string ⟨#[]⟩] 42))); obtain ⟨x0, x1, x2, f0, f1, f2⟩ := blk_cells3 HBK.out; have HNV := Lib.hid hN; have HOT := Lib.hid (((Only.refl (fun _ => False) wr).alloc _).trans ho1 (fun _ _ h => h)); have HV := Lib.hid hv; clear hN ho hv ho1)
                | (go_at_call 30; (with_reducible refine (HONE.out _).mono ?_); rintro e w2 ⟨K, N, S, nn, rfl, hN, ho, hv⟩; have HNV := Lib.hid hN; have HOT : Hid (Only (fun _ => False) wr w2) := Lib.hid (Only.trans (T := fun _ => False) (by first | with_reducible exact Only.refl _ _ | with_reducible exact (Only.refl _ _).drew) ho (fun _ _ h => h)); have HV := Lib.hid hv; clear hN ho hv))
            all_goals
              go_wp2_with fail
              go_meet
              first
                | (with_reducible exact one_cutA HOT.out HBK.out HNV.out HV.out)
                | (with_reducible exact one_cutB HOT.out HNV.out HV.out)
          case rest =>
            obtain ⟨p, v, nn, rfl, rfl, hblk, hN, ho, hv⟩ := hcut
            have HQ5 := Lib.hid (HQ.out.quiet ho)
            have HBK := Lib.hid hblk
            have HNV := Lib.hid hN
            have HV := Lib.hid hv
            clear hblk hN ho hv HSd hck hcd HONE HQ
            rcases HV.out with ⟨rfl, hv⟩ | ⟨hn1, hn2, hv⟩
            · have HE : Hid (([], 2) = decE ks ds s.toList) := Lib.hid (by
                have e : val1 (ks.getD k 0) (turnL (ds.getD k false) x.toList) = none := by rw [HZE.out, HDE.out]; exact hv
                rw [decE_of HOK.out.1 HOK.out.2.1 HOK.out.2.2, HI.out.fell HKL.out.1 HKL.out.2 e])
              clear hv
              go_wp2_with fail
              go_ret2
              exact dec_none HE.out HQ5.out.only
            · have HNN := Lib.hid (And.intro hn1 hn2)
              obtain ⟨y, hy⟩ : ∃ y, x.extract nn x.size = y := ⟨_, rfl⟩
              have hyl : y.toList = x.toList.drop nn := by rw [← hy, ByteArray.toList_eq, ByteArray.toList_eq, Lib.extract_to_end]
              have HNX : Hid (DecIn ks ds s.toList (vs ++ [v]) (k + 1) y.toList) := Lib.hid (HI.out.next HKL.out.1 HKL.out.2 (by rw [HZE.out]; exact HZ.out.1) (by rw [HZE.out]; exact HZ.out.2)
                (by rw [HZE.out, HDE.out, hv, hyl, turnL_drop]) HNV.out)
              have HY := Lib.hid hy
              have hnn0 : ((nn : Int) == 0) = false := by rw [beq_eq_false_iff_ne]; omega
              clear hy hyl hv hn1 hn2
              obtain ⟨x0, x1, x2, _, _, _⟩ := blk_cells3 HBK.out
              have hbs := fun w => run_buildSlice_one (P := Tryd.prog) w 22 42 _ 3 Tryd.underlying22 Tryd.infoVal rfl (by decide) (by decide) #[.int .i64 v.K, .int .u64 v.N, .string v.S] rfl
              obtain ⟨i0, hi0, hz0, hz1, hz2⟩ := info_parts Tryd.infoVal3
              have HRW := Lib.hid (HQ5.out.owns.alloc (.cells #[.int .i64 v.K, .int .u64 v.N, .string v.S] 42))
              have HA := Lib.hid ((HQ5.out.alloc (.cells #[.int .i64 v.K, .int .u64 v.N, .string v.S] 42)).snd)
              have hk256 : k ≤ 256 := by have h1 := HI.out.size; have h2 := HI.out.len; have h3 := HOK.out.2.2; omega
              have HVC := Lib.hid (vcells_snoc vs v)
              have HVN := Lib.hid (vcells_length vs)
              have HVK := Lib.hid HI.out.len
              go_wp2_with (first | (at_builtin; refine wpList_append_lies _ rfl (.tmp 60) (.tmp 62) 22 rfl 0 42 i0 _ 3 32 Tryd.underlying22 hi0 hz0 hz1 hz2 rfl (by decide) (.slice lo k lc) k (vcells vs) rfl HRW.out ⟨wc.heap.size, 0, none⟩ 1 1 [.int .i64 v.K, .int .u64 v.N, .string v.S] rfl rfl (World.news_of_block (heap_alloc_new wc _)) ?_ Nat.zero_lt_one ?_ ?_ (Nat.zero_le _) (wc.heap.size + 1) ?_ ?_))
              · exact vcells_one [v]
              · unfold maxLen; omega
              · omega
              · simp
              intro g cap2 w5 hown hgrow hat hlt5
              have h5 := HA.out.appended hown hgrow (hat.imp (fun h => h) (fun h => by simp; omega))
              rw [← HVC.out] at h5
              have H6 := Lib.hid h5
              have hx256 : x.size ≤ 256 := HXS.out
              obtain ⟨hn1, hn2⟩ := HNN.out
              have hnI0 : (0 : Int) ≤ (nn : Int) := by omega
              have hnI : (nn : Int) ≤ (x.size : Int) := by omega
              clear hown hgrow hat hlt5 h5 HA HRW hi0 hz0 hz1 hz2 hbs
              go_wp2_with fail
              rw [HY.out]
              go_roundw
              case rel => exact ⟨k + 1, some ⟨g, 0, none⟩, cap2, vs ++ [v], y, by omega, by go_num, rfl, rfl, HNX, H6⟩
              case measure => simp [intOf]; omega
        · obtain rfl : k = m := by omega
          have HEN := Lib.hid (HI.out.ends HN.out HM.out)
          have hnm : ¬ (k : Int) < (k : Int) := by omega
          by_cases hl : x.toList = []
          · have he : x = ⟨#[]⟩ := ba_eq (by rw [hl, ba_nil])
            have HE : Hid ((vs.map Vv.vl, 0) = decE ks ds s.toList) := Lib.hid (by rw [decE_of HOK.out.1 HOK.out.2.1 HOK.out.2.2, HEN.out, if_pos hl])
            subst he
            clear hl
            go_wp2_with fail
            go_ret2
            exact ⟨_, vs, 0, rfl, HE.out, HI.out.u64, by rw [HI.out.len]; exact HQ.out.fst⟩
          · have he : (x.toList == ([] : List UInt8)) = false := by simpa using hl
            have he2 : (x.toList != ([] : List UInt8)) = true := by simpa using hl
            have he3 : x.toList.isEmpty = false := by simpa using hl
            have HE : Hid (([], 2) = decE ks ds s.toList) := Lib.hid (by rw [decE_of HOK.out.1 HOK.out.2.1 HOK.out.2.2, HEN.out, if_neg hl])
            go_wp2_with fail
            go_ret2
            exact dec_none HE.out HQ.out.only

end Go.Proofs.YtlmpknhekoeecaaDoor
