/-
  RowGrown: its walk.
-/
import Derived.Test.YtcgkooogmgbfeaaDoorRowJ6
import Derived.Test.YtcgkooogmgbfeaaDoorRowR1
import Derived.BigQuiet
import Derived.Deep.QuietTactic
import Derived.Deep.RegionHeld3
import Derived.Deep.RegionWith
namespace Go.Proofs.YtcgkooogmgbfeaaDoor
open Go Go.RowKit
set_option linter.unusedVariables false
set_option linter.unusedSimpArgs false
set_option maxRecDepth 100000

theorem rowS_more (l : List Vl) (v : Vl) : rowS (l ++ [v]) = UInt8.ofNat (l.length + 1) :: (rowL l ++ rb v) := by
  rw [rowS, rowL_snoc, List.length_append]
  rfl
theorem cols_more {cs : List Cv} {c : Cv} (h : colsB cs = true) (hc : c.E = 0) (hn : cs.length ≤ 23) : colsB (cs ++ [c]) = true := by
  obtain ⟨h1, h2, h3⟩ := colsB_iff.1 h
  refine colsB_iff.2 ⟨by simp, by simp; omega, fun d hd => ?_⟩
  rcases List.mem_append.1 hd with hd | hd
  · exact h3 d hd
  · rw [List.mem_singleton.1 hd]; exact hc
theorem grow_ok {z : Int} {c : Cv} {K off er : Int} {l : List UInt8} (h : ((K, off), (l, er)) = growR z c) (h0 : er = 0) : K = 4 ∧ off = z ∧ l = rb c.d.vl ∧ c.E = 0 ∧ 1 ≤ z ∧ z ≤ 23 := by
  unfold growR at h
  by_cases h1 : z < 1 ∨ 23 < z
  · rw [if_pos h1] at h
    simp only [Prod.mk.injEq] at h
    omega
  rw [if_neg h1] at h
  by_cases h2 : c.E ≠ 0
  · rw [if_pos h2] at h
    simp only [Prod.mk.injEq] at h
    exact absurd (h.2.2.symm.trans h0) h2
  rw [if_neg h2] at h
  simp only [Prod.mk.injEq] at h
  exact ⟨h.1.1, h.1.2, h.2.1, by simpa using h2, by omega, by omega⟩
/-- What the law's later part stands on. -/
structure GrowF (cs : List Cv) (c : Cv) (xs : List Vv) (A V X : ByteArray) : Prop where
  s : A.toList = rowS (xs.map Vv.vl)
  v : V.toList = rb c.d.vl
  x : X.toList = rowS ((xs ++ [c.d]).map Vv.vl)
  d1 : rdec (cs ++ [c]) A.toList = ((xs ++ [c.d]).map Vv.vl, 0)
  d2 : rdec (cs ++ [c]) X.toList = ((xs ++ [c.d]).map Vv.vl, 0)
  e : rencE (cs ++ [c]) ((xs ++ [c.d]).map Vv.vl) = (X.toList, 0)
theorem growF {cs : List Cv} {c : Cv} {xs : List Vv} {A V X : ByteArray} (hr : rfits cs (xs.map Vv.vl) = 0) (hA : A.toList = rowS (xs.map Vv.vl)) (hA5 : A.size ≤ 512) (hV : V.toList = rb c.d.vl) (hE : c.E = 0) (hn : cs.length ≤ 23)
    (hN : ∀ v ∈ xs.map Vv.vl, v.N < 18446744073709551616) (hc : U64 c.dN) (h5 : A.size + V.size ≤ 512) (hX : X.toList = UInt8.ofNat (xs.length + 1) :: (rowL (xs.map Vv.vl) ++ V.toList)) : GrowF cs c xs A V X := by
  obtain ⟨r1, r2, r3⟩ := rfits_ok hr
  have hcm := cols_more r1 hE hn
  have h5A : (rowS (xs.map Vv.vl)).length ≤ 512 := by rw [← hA, ba_size]; exact hA5
  obtain ⟨f1, f2, f3⟩ := row_front hr h5A hN hcm
  have em : (xs ++ [c.d]).map Vv.vl = xs.map Vv.vl ++ [c.d.vl] := by simp
  have hx : X.toList = rowS ((xs ++ [c.d]).map Vv.vl) := by rw [em, rowS_more, hX, hV, List.length_map]
  have h5X : (rowS ((xs ++ [c.d]).map Vv.vl)).length ≤ 512 := by
    have e1 := ba_size A
    have e2 := ba_size V
    rw [hA] at e1
    rw [hV] at e2
    rw [em, rowS_more]
    simp only [rowS, List.length_cons, List.length_append] at e1 ⊢
    omega
  have f3' : rfits (cs ++ [c]) ((xs ++ [c.d]).map Vv.vl) = 0 := by rw [em]; exact f3
  have hN2 : ∀ v ∈ (xs ++ [c.d]).map Vv.vl, v.N < 18446744073709551616 := fun v hv => by
    rw [em] at hv
    rcases List.mem_append.1 hv with hv | hv
    · exact hN v hv
    · rw [List.mem_singleton.1 hv]
      have := hc.hi; have := hc.lo
      show c.dN.toNat < _
      omega
  refine ⟨hA, hV, hx, by rw [hA, f2, em]; rfl, ?_, ?_⟩
  · rw [hx, rdec_of hcm (row_back0 f3' h5X hN2), (rfits_ok f3').2.1, List.drop_length, List.map_nil, List.append_nil]
  · unfold rencE
    rw [if_neg (by rw [f3']; simp), if_neg (by omega), hx]
theorem slcs_one {W : World} {b : Nat} {c : Cv} (h : W.heap[b]? = some (.cells #[.string c.nm, .int .i64 c.K, .int .i64 c.M, .bool c.nu, .int .i64 c.dK, .int .u64 c.dN, .string c.dS] 39 (0, 0))) (hU : U64 c.dN) : SlCs W (some ⟨b, 0, none⟩) [c] := fun j hj => by
  obtain rfl : j = 0 := by simp at hj; omega
  obtain ⟨⟨c0, c1, c2, c3, c4, c5, c6⟩, _⟩ := blk_cells7 h
  exact ⟨b, 0, rfl, c0, c1, c2, c3, c4, c5, c6, hU⟩
theorem slv_one {W : World} {b : Nat} {v : Vv} (h : W.heap[b]? = some (.cells #[.int .i64 v.K, .int .u64 v.N, .string v.S] 37 (0, 0))) (hU : U64 v.N) : SlV W (some ⟨b, 0, none⟩) [v] := fun j hj => by
  obtain rfl : j = 0 := by simp at hj; omega
  obtain ⟨c0, c1, c2, _⟩ := blk_cells3 h
  exact ⟨b, 0, rfl, c0, c1, c2, hU⟩
def MoreAt (w : World) (n : Nat) (l : List Cv) (v : Value) (wx : World) : Prop := ∃ g c, v = .slice (some ⟨g, 0, none⟩) n c ∧ n ≤ c ∧ SlCs wx (some ⟨g, 0, none⟩) l ∧ Only (fun _ => False) w wx
def RDecAt (w : World) (m : Nat) (l : List Vv) (v e : Value) (wx : World) : Prop := ∃ ao c, v = .slice ao m c ∧ e = .int .i64 0 ∧ SlV wx ao l ∧ Only (fun _ => False) w wx
def REnc2At (w : World) (X : ByteArray) (v e : Value) (wx : World) : Prop := v = .string X ∧ e = .int .i64 0 ∧ Only (fun _ => False) w wx

set_option maxHeartbeats 16000000 in
theorem rgr_walk (w : World) {co lo : Option Addr} {cc lc : Nat} {cs : List Cv} {xs : List Vv} {c : Cv} {z : Int} (hc : SlCs w co cs) (hcl : cs.length ≤ 140737488355328) (hcs : Shp co cs.length cc) (hx : SlV w lo xs) (hxl : xs.length ≤ 140737488355328) (hxs : Shp lo xs.length lc) (hcu : U64 c.dN) (hT : UTab w) :
    Calls Tryd.prog 5 #[.slice co cs.length cc, .slice lo xs.length lc, c.v, .int .i64 z] w fun e w' => e = .returned (.bool true) ∧ Below w.heap.size w w' := by
  have HC := Lib.hid hc
  have HX := Lib.hid hx
  have HT := Lib.hid hT
  have HU := Lib.hid hcu
  have HXU := Lib.hid (rvl_lt hx.u64)
  have HXV := Lib.hid hx.u64
  have HCV := Lib.hid hc.u64
  obtain ⟨n, hn⟩ : ∃ n, n = cs.length := ⟨_, rfl⟩
  obtain ⟨m, hm⟩ : ∃ m, m = xs.length := ⟨_, rfl⟩
  rw [← hn, ← hm]
  rw [← hn] at hcs
  rw [← hm] at hxs
  have HCS := Lib.hid hcs
  have HXS := Lib.hid hxs
  have HN := Lib.hid hn
  have HM := Lib.hid hm
  have HO := Lib.hid ((Own.start w).alloc (.cells #[.string c.nm, .int .i64 c.K, .int .i64 c.M, .bool c.nu, .int .i64 c.dK, .int .u64 c.dN, .string c.dS] 39))
  clear hc hcl hx hxl hT hn hm hcs hxs hcu
  obtain ⟨cb, hcb⟩ : ∃ cb, cb = w.heap.size := ⟨_, rfl⟩
  rw [← hcb] at HO
  go_enter Tryd.func5, Tryd.ntmps5
  go_upto_region 1 with fail
  rw [← hcb]
  generalize w.alloc (.cells #[.string c.nm, .int .i64 c.K, .int .i64 c.M, .bool c.nu, .int .i64 c.dK, .int .u64 c.dN, .string c.dS] 39) = w0 at *
  clear hcb
  go_wp2_with fail
  refine (rawake_any w0 (HT.out.keep (only_b HO.out.only))).mono ?_
  rintro e w1 ⟨rfl, h1⟩
  have H1 := Lib.hid (HO.out.quiet h1)
  clear h1 HO
  obtain ⟨y0, y1, y2, y3, y4, y5, y6⟩ := (blk_cells7 H1.out.held).1
  go_wp2_with fail
  refine (rgrown_any z c w1 HU.out (HT.out.keep (only_b H1.out.only))).mono ?_
  rintro e w2 ⟨K1, off1, er1, l1, rfl, hg1, h2⟩
  have HG1 := Lib.hid hg1
  have H2 := Lib.hid ((H1.out.quiet h2).alloc (.cells #[.int .u64 0, .int .i64 K1, .string ⟨#[]⟩, .int .u64 0, .string ⟨l1.toArray⟩, .int .i64 off1, .int .u64 0] 42))
  clear h2 hg1 y0 y1 y2 y3 y4 y5 y6 H1
  obtain ⟨mb, hmb⟩ : ∃ mb, mb = w2.heap.size := ⟨_, rfl⟩
  rw [← hmb] at H2
  go_upto_region 4 with fail
  rw [← hmb]
  generalize w2.alloc (.cells #[.int .u64 0, .int .i64 K1, .string ⟨#[]⟩, .int .u64 0, .string ⟨l1.toArray⟩, .int .i64 off1, .int .u64 0] 42) = w3 at *
  clear hmb
  obtain ⟨y0, y1, y2, y3, y4, y5, y6⟩ := (blk_cells7 H2.out.swap.held).1
  go_wp2_with fail
  refine (R.rgrown_any z c w3 HU.out).mono ?_
  rintro e w4 ⟨K2, off2, er2, l2, rfl, hg2, h4⟩
  rw [← HG1.out] at hg2
  simp only [Prod.mk.injEq] at hg2
  obtain ⟨⟨rfl, rfl⟩, rfl, rfl⟩ := hg2
  have H4 := Lib.hid ((H2.out.quiet h4).alloc (.cells #[.int .u64 0, .int .i64 K2, .string ⟨#[]⟩, .int .u64 0, .string ⟨l2.toArray⟩, .int .i64 off2, .int .u64 0] 42))
  clear h4 y0 y1 y2 y3 y4 y5 y6 H2 HG1
  obtain ⟨rb', hrb⟩ : ∃ rb', rb' = w4.heap.size := ⟨_, rfl⟩
  rw [← hrb] at H4
  go_upto_region 5 with fail
  rw [← hrb]
  generalize w4.alloc (.cells #[.int .u64 0, .int .i64 K2, .string ⟨#[]⟩, .int .u64 0, .string ⟨l2.toArray⟩, .int .i64 off2, .int .u64 0] 42) = w5 at *
  clear hrb
  obtain ⟨⟨q0, q1, q2, q3, q4, q5, q6⟩, _⟩ := blk_cells7 H4.out.held
  obtain ⟨⟨y0, y1, y2, y3, y4, y5, y6⟩, f0, f1, f2, f3, f4, f5, f6⟩ := blk_cells7 H4.out.swap.held
  have H5 : Hid (Own w w5 (Sep (Blk mb (.cells #[.int .u64 0, .int .i64 K2, .string ⟨#[]⟩, .int .u64 0, .string ⟨l2.toArray⟩, .int .i64 off2, .int .u64 0] 42 (0, 0))) (Sep (Blk cb (.cells #[.string c.nm, .int .i64 c.K, .int .i64 c.M, .bool c.nu, .int .i64 c.dK, .int .u64 c.dN, .string c.dS] 39 (0, 0))) Emp))) := Lib.hid H4.out.snd
  generalize (⟨l2.toArray⟩ : ByteArray) = V0 at *
  clear H4
  go_wp2_with fail
  clear q0 q1 q2 q3 q4 q5 q6 y0 y1 y2 y3 y4 y5 y6 f0 f1 f2 f3 f4 f5 f6
  refine (rencode_any co lo n cc m lc cs xs w5 (HT.out.keep (only_b H5.out.only)) (HC.out.keep H5.out.only) (HX.out.keep H5.out.only) HN.out HM.out).mono ?_
  rintro e w6 ⟨a, eg, rfl, ha, h6⟩
  have HA := Lib.hid ha
  have H6 := Lib.hid (H5.out.quiet h6)
  clear ha h6 H5
  obtain ⟨A, hA⟩ : ∃ A : ByteArray, (⟨a.toArray⟩ : ByteArray) = A := ⟨_, rfl⟩
  have HAT : Hid (A.toList = a) := Lib.hid (by rw [← hA, ba_mk1])
  rw [hA]
  clear hA
  obtain ⟨y0, y1, y2, y3, y4, y5, y6⟩ := (blk_cells7 H6.out.swap.held).1
  go_wp2_with fail
  refine (rgrown_any (n : Int) c w6 HU.out (HT.out.keep (only_b H6.out.only))).mono ?_
  rintro e w7 ⟨K3, off3, er3, l3, rfl, hg3, h7⟩
  have HG3 := Lib.hid hg3
  obtain ⟨V, hV⟩ : ∃ V : ByteArray, (⟨l3.toArray⟩ : ByteArray) = V := ⟨_, rfl⟩
  have HVT : Hid (V.toList = l3) := Lib.hid (by rw [← hV, ba_mk1])
  rw [hV]
  have H7' := H6.out.quiet h7
  obtain ⟨_, f0, f1, f2, f3, f4, f5, f6⟩ := blk_cells7 H7'.held
  have H7 := Lib.hid ((((((((H7'.store 0 (.int .u64 0)).store 1 (.int .i64 K3)).store 2 (.string ⟨#[]⟩)).store 3 (.int .u64 0)).store 4 (.string V)).store 5 (.int .i64 off3)).store 6 (.int .u64 0)))
  rw [show (((((((#[.int .u64 0, .int .i64 K2, .string ⟨#[]⟩, .int .u64 0, .string V0, .int .i64 off2, .int .u64 0] : Array Value).setIfInBounds 0 (.int .u64 0)).setIfInBounds 1 (.int .i64 K3)).setIfInBounds 2 (.string ⟨#[]⟩)).setIfInBounds 3 (.int .u64 0)).setIfInBounds 4 (.string V)).setIfInBounds 5 (.int .i64 off3)).setIfInBounds 6 (.int .u64 0) = #[.int .u64 0, .int .i64 K3, .string ⟨#[]⟩, .int .u64 0, .string V, .int .i64 off3, .int .u64 0] from rfl] at H7
  clear hV h7 hg3 y0 y1 y2 y3 y4 y5 y6 H6 H7'
  go_upto_region 9 with fail
  generalize ((((((w7.setCell ⟨mb, 0, none⟩ (.int .u64 0)).setCell ⟨mb, 1, none⟩ (.int .i64 K3)).setCell ⟨mb, 2, none⟩ (.string ⟨#[]⟩)).setCell ⟨mb, 3, none⟩ (.int .u64 0)).setCell ⟨mb, 4, none⟩ (.string V)).setCell ⟨mb, 5, none⟩ (.int .i64 off3)).setCell ⟨mb, 6, none⟩ (.int .u64 0) = w8 at *
  clear f0 f1 f2 f3 f4 f5 f6
  by_cases h0 : eg = 0
  case neg =>
    have hne : (eg != 0) = true := by simpa using h0
    clear h0
    go_wp2_with fail
    go_ret
    exact ⟨rfl, only_b H7.out.only⟩
  by_cases h03 : er3 = 0
  case neg =>
    have hne : (er3 != 0) = true := by simpa using h03
    clear h03
    subst h0
    go_wp2_with fail
    go_ret
    exact ⟨rfl, only_b H7.out.only⟩
  subst h0 h03
  obtain ⟨rfl, rfl, hl3, hE, hn1, hn23⟩ := grow_ok HG3.out rfl
  obtain ⟨a1, a2, a3⟩ := renc_ok HA.out
  have HR := Lib.hid a1
  have HAL : Hid (A.toList = rowS (xs.map Vv.vl)) := Lib.hid (by rw [HAT.out, a2])
  have HA5 : Hid (A.size ≤ 512 ∧ 1 ≤ A.size) := Lib.hid ⟨by rw [← ba_size, HAT.out]; exact a3, by rw [← ba_size, HAL.out]; simp [rowS]⟩
  have HVL : Hid (V.toList = rb c.d.vl) := Lib.hid (by rw [HVT.out, hl3])
  have HCE := Lib.hid hE
  obtain rfl : n = m := by rw [HN.out, HM.out]; exact (row_len a1).1.symm
  have HV6 : Hid (V.size ≤ 67) := Lib.hid (by rw [← ba_size, HVL.out]; exact (rb_len (fit_zero (col_zero hE).2.2).1).2)
  have HN23 : Hid (1 ≤ n ∧ n ≤ 23) := Lib.hid (by omega)
  clear a1 a2 a3 hl3 hE HA HAT HVT HG3
  have HC8 := Lib.hid (HC.out.keep H7.out.only)
  have HX8 := Lib.hid (HX.out.keep H7.out.only)
  have HN20 : Hid (n ≤ 1048576) := Lib.hid (by have := HN23.out; omega)
  obtain ⟨y0, y1, y2, y3, y4, y5, y6⟩ := (blk_cells7 H7.out.swap.held).1
  go_upto_region 11 with fail
  go_cut [15] (fun v wx => MoreAt w8 (n + 1) (cs ++ [c]) v wx)
  case first =>
    obtain ⟨u0, u1, u2, u3, u4, u5, u6⟩ := (blk_cells7 (H7.out.quiet ((Only.refl (fun _ => False) w8).alloc (.cells #[] 39))).swap.held).1
    obtain ⟨t0, t1, t2, t3, t4, t5, t6⟩ := (blk_cells7 (H7.out.quiet (((Only.refl (fun _ => False) w8).alloc (.cells #[] 39)).drew)).swap.held).1
    go_region_law (first
      | (refine step_capp1 rfl (.tmp 63) (.tmp 64) rfl ?_ co n cc cs w8 _ HC8.out HCS.out HN.out HN20.out ?_ ?_ (Only.refl _ _) ?_; (go_must (exact ⟨_, rfl⟩)); (go_must (repeat (first | exact Only.refl _ _ | refine Only.drew ?_ | refine Only.alloc ?_ _))); (go_must (first | rfl | simp [Act.eval])); (go_must (intro v1 wa hA; have HA1 := Lib.hid hA; have HOA : Hid (Only (fun _ => False) w8 wa) := Lib.hid (Only.trans (T := fun _ => False) (by repeat (first | exact Only.refl _ _ | refine Only.drew ?_ | refine Only.alloc ?_ _)) hA.only (fun _ _ h => h)); obtain ⟨g1, c1, rfl, _⟩ := hA.at; obtain ⟨z0, z1, z2, z3, z4, z5, z6⟩ := (blk_cells7 (H7.out.quiet HOA.out).swap.held).1; clear hA)))
      | (refine step_capp2 rfl (.tmp 65) (.tmp 67) rfl (.slice (some ⟨g1, 0, none⟩) n c1) n cs _ (HA1.out.keep ?_) rfl (some ⟨wa.heap.size, 0, none⟩) 1 1 [c] ?_ (.inr ⟨_, rfl, Nat.le_refl _⟩) rfl HN20.out (by omega) rfl ?_; (go_must (repeat (first | exact Only.refl _ _ | refine Only.drew ?_ | refine Only.alloc ?_ _))); (go_must (exact slcs_one (heap_alloc_new _ _) HU.out)); (go_must (intro v2 wb hB; have HB2 := Lib.hid hB; clear hB)))
      | (refine step_capp2 rfl (.tmp 65) (.tmp 67) rfl (.slice (some ⟨g1, 0, none⟩) n c1) n cs _ (HA1.out.keep ?_) rfl (some ⟨w8.heap.size + 1, 0, none⟩) 1 1 [c] ?_ (.inr ⟨_, rfl, Nat.le_refl _⟩) rfl HN20.out (by omega) rfl ?_; (go_must (repeat (first | exact Only.refl _ _ | refine Only.drew ?_ | refine Only.alloc ?_ _))); (go_must (exact slcs_one ((HA1.out.only.block (w8.heap.size + 1) (by simp) (fun h => h)).trans (two_rows w8 #[] #[.string c.nm, .int .i64 c.K, .int .i64 c.M, .bool c.nu, .int .i64 c.dK, .int .u64 c.dN, .string c.dS] 39 39).2) HU.out)); (go_must (intro v2 wb hB; have HB2 := Lib.hid hB; clear hB)))
      | (refine step_capp2 rfl (.tmp 65) (.tmp 67) rfl (.slice (some ⟨g1, 0, none⟩) n c1) n cs _ (HA1.out.keep ?_) rfl (some ⟨w8.heap.size, 0, none⟩) 1 1 [c] ?_ (.inr ⟨_, rfl, Nat.le_refl _⟩) rfl HN20.out (by omega) rfl ?_; (go_must (repeat (first | exact Only.refl _ _ | refine Only.drew ?_ | refine Only.alloc ?_ _))); (go_must (exact slcs_one ((HA1.out.only.block w8.heap.size (by simp; omega) (fun h => h)).trans (two_rows w8 #[.string c.nm, .int .i64 c.K, .int .i64 c.M, .bool c.nu, .int .i64 c.dK, .int .u64 c.dN, .string c.dS] #[] 39 39).1) HU.out)); (go_must (intro v2 wb hB; have HB2 := Lib.hid hB; clear hB))))
    all_goals
      obtain ⟨g2, c2, rfl, hle2, hsl2⟩ := HB2.out.cols (fun d hd => by
        rcases List.mem_append.1 hd with hd | hd
        · exact HCV.out d hd
        · rw [List.mem_singleton.1 hd]; exact HU.out)
      have HMA : Hid (MoreAt w8 (n + 1) (cs ++ [c]) (.slice (some ⟨g2, 0, none⟩) (n + 1) c2) _) := Lib.hid ⟨g2, c2, rfl, hle2, hsl2, Only.trans (T := fun _ => False) (by repeat (first | exact Only.refl _ _ | refine Only.drew ?_ | refine Only.alloc ?_ _)) HB2.out.only (fun _ _ h => h)⟩
      clear hsl2 hle2
      go_wp2_with fail
      go_meet
      exact HMA.out
  case rest =>
    obtain ⟨g, gc, rfl, hgc, hall, h9⟩ := hcut
    have H9 := Lib.hid (H7.out.quiet h9)
    have HALL := Lib.hid hall
    have HGC := Lib.hid hgc
    clear hgc hall h9 y0 y1 y2 y3 y4 y5 y6 HC8 HX8 H7
    obtain ⟨⟨m0, m1, m2, m3, m4, m5, m6⟩, _⟩ := blk_cells7 H9.out.held
    have hA0 : (A.toList == ([] : List UInt8)) = false := by rw [HAL.out]; rfl
    have hAs : 0 < A.size := by have := HA5.out; omega
    have hAs1 : 1 ≤ A.size := hAs
    have hAsI : (0 : Int) < (A.size : Int) := by omega
    have hAs1I : (1 : Int) ≤ (A.size : Int) := by omega
    obtain ⟨s0, hs0⟩ : ∃ s0, A[0] = s0 := ⟨_, rfl⟩
    have hs0n : ((s0.toNat : Nat) : Int) = (n : Int) := by
      have h1 := ba_first A hAs
      rw [HAL.out, hs0] at h1
      have h2 : (rowS (xs.map Vv.vl)).getD 0 0 = UInt8.ofNat (xs.map Vv.vl).length := rfl
      rw [h2, List.length_map, ← HM.out] at h1
      rw [← h1, ofNat_small (by have := HN23.out; omega)]
    have hn23 : (n : Int) ≤ 23 := by have := HN23.out; omega
    have hA512 : (A.size : Int) ≤ 512 := by have := HA5.out; omega
    have hV67 : (V.size : Int) ≤ 67 := by have := HV6.out; omega
    go_wp2_with fail
    go_quiet (fail)
    have H10 := Lib.hid (H9.out.quiet ((Only.refl (fun _ => False) _).drewN nq))
    have HAL10 := Lib.hid (HALL.out.keep ((Only.refl (fun _ => False) _).drewN nq))
    clear HALL H9 m0 m1 m2 m3 m4 m5 m6
    generalize World.drewN _ nq = w10 at *
    obtain ⟨⟨m0, m1, m2, m3, m4, m5, m6⟩, _⟩ := blk_cells7 H10.out.held
    by_cases h5 : 512 < A.size + V.size
    · have h5I : (512 : Int) < (A.size : Int) + (V.size : Int) := by omega
      go_wp2_with fail
      go_ret
      exact ⟨rfl, only_b H10.out.only⟩
    have h5I : ¬ (512 : Int) < (A.size : Int) + (V.size : Int) := by omega
    obtain ⟨y, hy⟩ : ∃ y : ByteArray, (⟨#[UInt8.ofNat (n + 1)]⟩ : ByteArray) = y := ⟨_, rfl⟩
    obtain ⟨A1, hA1⟩ : ∃ A1, A.extract 1 A.size = A1 := ⟨_, rfl⟩
    obtain ⟨Y1, hY1⟩ : ∃ Y1, y ++ A1 = Y1 := ⟨_, rfl⟩
    obtain ⟨X, hX⟩ : ∃ X, Y1 ++ V = X := ⟨_, rfl⟩
    have hyl : y.toList = [UInt8.ofNat (n + 1)] := by rw [← hy]; exact ByteArray.toList_mk [_]
    have hA1l : A1.toList = rowL (xs.map Vv.vl) := by rw [← hA1]; exact ba_drop1 A (UInt8.ofNat (xs.map Vv.vl).length) (rowL (xs.map Vv.vl)) HAL.out
    have HGF : Hid (GrowF cs c xs A V X) := Lib.hid (growF HR.out HAL.out HA5.out.1 HVL.out HCE.out (by rw [← HN.out]; exact HN23.out.2) HXU.out HU.out (by omega) (by
      rw [← hX, ← hY1, ba_append, ba_append, hyl, hA1l, ← HM.out]
      simp))
    have HYL : Hid (y.size = 1 ∧ A1.size ≤ 600 ∧ Y1.size ≤ 601) := Lib.hid (by
      have e1 := ba_size y
      have e2 := ba_size A1
      have e3 := ba_size Y1
      have e4 := ba_size A
      rw [hyl] at e1
      rw [← hY1, ba_append, hyl, hA1l] at e3
      rw [hA1l] at e2
      rw [HAL.out, rowS] at e4
      have := HA5.out.1
      simp only [List.length_cons, List.length_nil, List.length_append] at e1 e3 e4
      rw [hY1] at e3
      omega)
    have hcat1 : ¬ 9223372036854775807 < y.size + A1.size := by have := HYL.out; omega
    have hcat2 : ¬ 9223372036854775807 < Y1.size + V.size := by have := HYL.out; have := HV6.out; omega
    have hcat3 : ¬ 9223372036854775807 < 1 + A1.size := by have := HYL.out; omega
    have hys : y.size = 1 := HYL.out.1
    have hb1 : ((UInt8.ofNat (n + 1)).toNat : Int) = (n : Int) + 1 := by rw [ofNat_small (by have := HN23.out; omega)]; omega
    have HCV1 := Lib.hid (fun W => kconv1_new (UInt8.ofNat (n + 1)) ((n : Int) + 1) hb1 W)
    have HCV2 := Lib.hid (fun W => kconv1_drew (UInt8.ofNat (n + 1)) ((n : Int) + 1) hb1 W)
    rw [hy] at HCV1 HCV2
    have hn0 : (0 : Int) ≤ (n : Int) := by omega
    have hwu : IntKind.u8.wrap ((n : Int) + 1) = (n : Int) + 1 := by rw [IntKind.wrap_u8']; omega
    have HDC : Hid (∀ W (S : ByteArray), Only (fun _ => False) w10 W → rdec (cs ++ [c]) S.toList = ((xs ++ [c.d]).map Vv.vl, 0) → Calls Tryd.prog 13 #[.slice (some ⟨g, 0, none⟩) (n + 1) gc, .string S] W fun e w' => ∃ ao cc, e = .returned (.tuple #[.slice ao (xs ++ [c.d]).length cc, .int .i64 0]) ∧ SlV w' ao (xs ++ [c.d]) ∧ Only (fun _ => False) W w') := Lib.hid (fun W S hW hS => by
      refine (rdecode_any (some ⟨g, 0, none⟩) (n + 1) gc (cs ++ [c]) S W (HT.out.keep (only_b (H10.out.only.trans hW (fun _ _ h => h)))) (HAL10.out.keep hW) (by rw [List.length_append, ← HN.out]; rfl) (.inr ⟨_, rfl, HGC.out⟩)).mono ?_
      rintro e w' ⟨lv, us, er, rfl, hd, hu, hown⟩
      rw [hS] at hd
      simp only [Prod.mk.injEq] at hd
      obtain ⟨hus, rfl⟩ := hd
      obtain rfl := vv_map hu (fun v hv => by
        rcases List.mem_append.1 hv with hv | hv
        · exact HXV.out v hv
        · rw [List.mem_singleton.1 hv]; exact HU.out) hus
      obtain ⟨ao, c5, rfl, hsl⟩ := rowV_slV hown hu
      exact ⟨ao, c5, rfl, hsl, hown.only⟩)
    have HDL : Hid ((xs ++ [c.d]).length = n + 1) := Lib.hid (by rw [List.length_append, ← HM.out]; rfl)
    rw [HDL.out] at HDC
    have HDU : Hid (∀ v ∈ xs ++ [c.d], U64 v.N) := Lib.hid (fun v hv => by
        rcases List.mem_append.1 hv with hv | hv
        · exact HXV.out v hv
        · rw [List.mem_singleton.1 hv]; exact HU.out)
    have HG1 := Lib.hid HGF.out.d1
    have HG2 := Lib.hid HGF.out.d2
    have HGE := Lib.hid HGF.out.e
    clear HGF
    generalize hD : xs ++ [c.d] = D at *
    have HDD := Lib.hid hD
    clear hD
    clear hy hyl hA1l h5
    go_wp2_with fail
    refine (HDC.out w10 A (Only.refl _ _) HG1.out).mono ?_
    rintro e w11 ⟨ao, c5, rfl, hsl, h11⟩
    have HSA := Lib.hid hsl
    have H11 := Lib.hid h11
    have HO11 := Lib.hid (H10.out.quiet h11)
    clear hsl h11 m0 m1 m2 m3 m4 m5 m6
    obtain ⟨⟨m0, m1, m2, m3, m4, m5, m6⟩, _⟩ := blk_cells7 HO11.out.held
    go_wp2_with fail
    go_upto_region 17 with fail
    go_cut [18, 19] (fun v e wx => RDecAt w11 (n + 1) D v e wx)
    case first =>
      have hcv1 := HCV1.out w11
      have hcv2 := HCV2.out w11
      have hcv3 := HCV1.out w11.drew
      have hcv4 := HCV2.out w11.drew
      have k4 := (blk_cells7 (HO11.out.quiet ((Only.refl (fun _ => False) w11).alloc (.cells #[.int .u8 ((n : Int) + 1)] 5))).held).1.2.2.2.2.1
      have k4d := (blk_cells7 (HO11.out.quiet (((Only.refl (fun _ => False) w11).alloc (.cells #[.int .u8 ((n : Int) + 1)] 5)).drew)).held).1.2.2.2.2.1
      go_region_law (go_simp; go_at_call 13; refine (HDC.out _ X (Only.trans (T := fun _ => False) H11.out (by repeat (first | exact Only.refl _ _ | refine Only.drew ?_ | refine Only.alloc ?_ _)) (fun _ _ h => h)) HG2.out).mono ?_; rintro e w12 ⟨ao2, c6, rfl, hsl, h12⟩; have HSB := Lib.hid hsl; have H12 := Lib.hid h12; clear hsl h12)
      all_goals
        have HFA : Hid (RDecAt w11 (n + 1) D (.slice ao2 (n + 1) c6) (.int .i64 0) w12) := Lib.hid ⟨ao2, c6, rfl, rfl, HSB.out, Only.trans (T := fun _ => False) (by repeat (first | exact Only.refl _ _ | refine Only.drew ?_ | refine Only.alloc ?_ _)) H12.out (fun _ _ h => h)⟩
        go_wp2_with fail
        go_meet
        exact HFA.out
    case rest =>
      obtain ⟨ao2, c6, rfl, rfl, hsl, h12⟩ := hcut
      obtain ⟨w12, hw12⟩ : ∃ W, W = wc := ⟨wc, rfl⟩
      subst hw12
      have HSB := Lib.hid hsl
      have HSA2 := Lib.hid (HSA.out.keep h12)
      have HO12 := Lib.hid (HO11.out.quiet h12)
      have HAL12 := Lib.hid (HAL10.out.keep (H11.out.trans h12 (fun _ _ h => h)))
      have HX12 := Lib.hid (HX.out.keep HO12.out.only)
      clear hsl h12 HSA HO11 m0 m1 m2 m3 m4 m5 m6
      obtain ⟨y0, y1, y2, y3, y4, y5, y6⟩ := (blk_cells7 HO12.out.swap.held).1
      go_upto_region 18 with fail
      go_cut [20, 21] (fun v e wx => REnc2At w12 X v e wx)
      case first =>
        obtain ⟨u0, u1, u2, u3, u4, u5, u6⟩ := (blk_cells7 (HO12.out.quiet ((Only.refl (fun _ => False) w12).alloc (.cells #[] 37))).swap.held).1
        obtain ⟨t0, t1, t2, t3, t4, t5, t6⟩ := (blk_cells7 (HO12.out.quiet (((Only.refl (fun _ => False) w12).alloc (.cells #[] 37)).drew)).swap.held).1
        go_region_law (first
        | (go_simp; go_at_call 11; refine (rencode_any (some ⟨g, 0, none⟩) (some ⟨g2, 0, none⟩) (n + 1) gc (n + 1) c2 (cs ++ [c]) D _ (HT.out.keep (only_b (HO12.out.only.trans (by repeat (first | exact HOB.out | refine Only.drew ?_ | refine Only.alloc ?_ _)) (fun _ _ h => h)))) (HAL12.out.keep (by repeat (first | exact HOB.out | refine Only.drew ?_ | refine Only.alloc ?_ _))) (HSL2.out.keep (by repeat (first | exact Only.refl _ _ | refine Only.drew ?_ | refine Only.alloc ?_ _))) (by rw [List.length_append, ← HN.out]; rfl) HDL.out.symm).mono ?_; rintro e w14 ⟨bx, er4, rfl, hbx, h14⟩; have HBX := Lib.hid hbx; have H14 := Lib.hid h14; clear hbx h14)
        | (refine step_vapp1 rfl (.tmp 117) (.tmp 118) rfl ?_ lo n lc xs w12 _ HX12.out HXS.out HM.out HN20.out ?_ ?_ (Only.refl _ _) ?_; (go_must (exact ⟨_, rfl⟩)); (go_must (repeat (first | exact Only.refl _ _ | refine Only.drew ?_ | refine Only.alloc ?_ _))); (go_must (first | rfl | simp [Act.eval])); (go_must (intro v1 wa hA; have HA1 := Lib.hid hA; have HOA : Hid (Only (fun _ => False) w12 wa) := Lib.hid (Only.trans (T := fun _ => False) (by repeat (first | exact Only.refl _ _ | refine Only.drew ?_ | refine Only.alloc ?_ _)) hA.only (fun _ _ h => h)); obtain ⟨g1, c1, rfl, _⟩ := hA.at; obtain ⟨z0, z1, z2, z3, z4, z5, z6⟩ := (blk_cells7 (HO12.out.quiet HOA.out).swap.held).1; clear hA)))
        | (refine step_vapp2 rfl (.tmp 119) (.tmp 122) rfl (.slice (some ⟨g1, 0, none⟩) n c1) n xs _ (HA1.out.keep ?_) rfl (some ⟨wa.heap.size, 0, none⟩) 1 1 [c.d] ?_ (.inr ⟨_, rfl, Nat.le_refl _⟩) rfl HN20.out (by omega) rfl ?_; (go_must (repeat (first | exact Only.refl _ _ | refine Only.drew ?_ | refine Only.alloc ?_ _))); (go_must (exact slv_one (v := c.d) (heap_alloc_new _ _) HU.out)); (go_must (intro v2 wb hB; have HB2 := Lib.hid hB; obtain ⟨g2, c2, rfl, hle2, hsl2⟩ := hB.vals (by rw [HDD.out]; exact HDU.out); rw [HDD.out] at hsl2; have HSL2 := Lib.hid hsl2; have HOB : Hid (Only (fun _ => False) w12 wb) := Lib.hid (Only.trans (T := fun _ => False) (by repeat (first | exact Only.refl _ _ | refine Only.drew ?_ | refine Only.alloc ?_ _)) HB2.out.only (fun _ _ h => h)); clear hB hsl2 hle2)))
        | (refine step_vapp2 rfl (.tmp 119) (.tmp 122) rfl (.slice (some ⟨g1, 0, none⟩) n c1) n xs _ (HA1.out.keep ?_) rfl (some ⟨w12.heap.size + 1, 0, none⟩) 1 1 [c.d] ?_ (.inr ⟨_, rfl, Nat.le_refl _⟩) rfl HN20.out (by omega) rfl ?_; (go_must (repeat (first | exact Only.refl _ _ | refine Only.drew ?_ | refine Only.alloc ?_ _))); (go_must (exact slv_one (v := c.d) ((HA1.out.only.block (w12.heap.size + 1) (by simp) (fun h => h)).trans (two_rows w12 #[] #[.int .i64 c.dK, .int .u64 c.dN, .string c.dS] 37 37).2) HU.out)); (go_must (intro v2 wb hB; have HB2 := Lib.hid hB; obtain ⟨g2, c2, rfl, hle2, hsl2⟩ := hB.vals (by rw [HDD.out]; exact HDU.out); rw [HDD.out] at hsl2; have HSL2 := Lib.hid hsl2; have HOB : Hid (Only (fun _ => False) w12 wb) := Lib.hid (Only.trans (T := fun _ => False) (by repeat (first | exact Only.refl _ _ | refine Only.drew ?_ | refine Only.alloc ?_ _)) HB2.out.only (fun _ _ h => h)); clear hB hsl2 hle2)))
        | (refine step_vapp2 rfl (.tmp 119) (.tmp 122) rfl (.slice (some ⟨g1, 0, none⟩) n c1) n xs _ (HA1.out.keep ?_) rfl (some ⟨w12.heap.size, 0, none⟩) 1 1 [c.d] ?_ (.inr ⟨_, rfl, Nat.le_refl _⟩) rfl HN20.out (by omega) rfl ?_; (go_must (repeat (first | exact Only.refl _ _ | refine Only.drew ?_ | refine Only.alloc ?_ _))); (go_must (exact slv_one (v := c.d) ((HA1.out.only.block w12.heap.size (by simp; omega) (fun h => h)).trans (two_rows w12 #[.int .i64 c.dK, .int .u64 c.dN, .string c.dS] #[] 37 37).1) HU.out)); (go_must (intro v2 wb hB; have HB2 := Lib.hid hB; obtain ⟨g2, c2, rfl, hle2, hsl2⟩ := hB.vals (by rw [HDD.out]; exact HDU.out); rw [HDD.out] at hsl2; have HSL2 := Lib.hid hsl2; have HOB : Hid (Only (fun _ => False) w12 wb) := Lib.hid (Only.trans (T := fun _ => False) (by repeat (first | exact Only.refl _ _ | refine Only.drew ?_ | refine Only.alloc ?_ _)) HB2.out.only (fun _ _ h => h)); clear hB hsl2 hle2))))
        all_goals
          have hb := HBX.out
          rw [HGE.out] at hb
          simp only [Prod.mk.injEq] at hb
          obtain ⟨rfl, rfl⟩ := hb
          have HFA : Hid (REnc2At w12 X (.string ⟨X.toList.toArray⟩) (.int .i64 0) w14) := Lib.hid ⟨by rw [str_of rfl], rfl, Only.trans (T := fun _ => False) (by repeat (first | exact HOB.out | refine Only.drew ?_ | refine Only.alloc ?_ _)) H14.out (fun _ _ h => h)⟩
          clear HBX H14 HOB HSL2 HB2 HA1 HOA
          go_wp2_with fail
          go_meet
          exact HFA.out
      case rest =>
        obtain ⟨rfl, rfl, h15⟩ := hcut
        obtain ⟨w15, hw15⟩ : ∃ W, W = wc := ⟨wc, rfl⟩
        subst hw15
        have HO15 := Lib.hid (HO12.out.quiet h15)
        have HVA := Lib.hid (fun W (hW : Only (fun _ => False) w15 W) => values_any ao ao2 (n + 1) c5 (n + 1) c6 D D W (HSA2.out.keep (h15.trans hW (fun _ _ h => h))) (HSB.out.keep (h15.trans hW (fun _ _ h => h))) HDL.out.symm HDL.out.symm (by have := HN23.out; omega) (by have := HN23.out; omega))
        clear h15 HO12 HSB HSA2 y0 y1 y2 y3 y4 y5 y6 HAL12 HX12
        obtain ⟨⟨m0, m1, m2, m3, m4, m5, m6⟩, _⟩ := blk_cells7 HO15.out.held
        have hXX : (X.toList == X.toList) = true := by simp
        go_upto_region 19 with fail
        have HVB : Hid (∀ W, Only (fun _ => False) w15 W → Calls Tryd.prog 19 #[.slice ao (n + 1) c5, .slice ao2 (n + 1) c6] W fun e w' => e = .returned (.bool true) ∧ Below W.heap.size W w') := Lib.hid (fun W hW => by
          refine (HVA.out W hW).mono ?_
          rintro e w' ⟨r, rfl, hr, h⟩
          obtain rfl : r = true := hr.2 rfl
          exact ⟨rfl, only_b h⟩)
        clear HVA
        go_region_held (fun w' => w'.cell? ⟨mb, 4, none⟩ = some (.string V))
          (exact (blk_cells7 (HO15.out.quiet (by repeat (first | exact Only.refl _ _ | exact H16.out | refine Only.drew ?_ | refine Only.alloc ?_ _))).held).1.2.2.2.2.1)
          (first | (go_at_call 19; refine (HVB.out _ (by repeat (first | exact Only.refl _ _ | refine Only.drew ?_ | refine Only.alloc ?_ _))).mono ?_; rintro e w16 ⟨rfl, hb⟩; have H16 : Hid (Only (fun _ => False) w15 w16) := Lib.hid (Only.trans (T := fun _ => False) (by repeat (first | exact Only.refl _ _ | refine Only.drew ?_ | refine Only.alloc ?_ _)) (below_quiet hb) (fun _ _ h => h)); have hcA := HCV1.out w16; have hcB := HCV2.out w16; have k16 := (blk_cells7 (HO15.out.quiet H16.out).held).1.2.2.2.2.1; have k16a := (blk_cells7 (HO15.out.quiet (H16.out.alloc (.cells #[.int .u8 ((n : Int) + 1)] 5))).held).1.2.2.2.2.1; clear hb))
        all_goals
          go_wp2_with fail
          go_ret
          exact ⟨rfl, only_b (HO15.out.quiet (by repeat (first | exact H16.out | refine Only.drew ?_ | refine Only.alloc ?_ _))).only⟩

end Go.Proofs.YtcgkooogmgbfeaaDoor
