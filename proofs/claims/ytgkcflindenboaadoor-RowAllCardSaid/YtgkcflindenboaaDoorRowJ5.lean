/-
  Joined: Row4 KeySt3 Val13 Key9 Row5 Key10 Row6 RowApart RowC RowBack RowD RowDefaults.
-/
import Derived.Test.YtgkcflindenboaaDoorRowJ4
import Derived.Lib.SlBytesConst
import Derived.Lib.AtoiErrMem
import Derived.Laws.StructEq
import Derived.Test.YtgkcflindenboaaDoorShelf2
import Derived.BigQuiet
import Derived.Deep.QuietTactic

namespace Go.Proofs.YtgkcflindenboaaDoor
open Go Go.RowKit
set_option linter.unusedVariables false
set_option linter.unusedSimpArgs false
set_option maxRecDepth 100000
set_option linter.unusedSimpArgs false
set_option maxRecDepth 100000

theorem Tryd.infoCol : (Tryd.prog.info? 67).map (fun i => (i.zero, i.size)) = some (some (.agg #[.string ⟨#[]⟩, .int .i64 0, .int .i64 0, .bool false, .int .i64 0, .int .u64 0, .string ⟨#[]⟩]), 7) := by kernel_rfl
theorem front_cols (ao : Option Addr) (n c q : Nat) (hs : Shp ao n c) (hq : q ≤ n) (W : World) : (Instr.slice 33 (.slice ao n c) none (some (.int .i64 (q : Int))) none).run Tryd.prog W = .ok (.slice ao q c) W := by
  have h0 := Tryd.infoCol
  cases hi : Tryd.prog.info? 67 with
  | none => rw [hi] at h0; simp at h0
  | some i => exact run_front _ _ i Tryd.underlying33 hi ao n c q hs hq W
theorem SlCs.take {w : World} {ao : Option Addr} {cs : List Cv} (h : SlCs w ao cs) (q : Nat) : SlCs w ao (cs.take q) := fun j hj => by
  have hj2 : j < cs.length := by simp at hj; omega
  obtain ⟨g, off, h1, h2⟩ := h j hj2
  refine ⟨g, off, h1, ?_⟩
  rw [show (cs.take q).getD j default = cs.getD j default by
    simp only [List.length_take] at hj
    rw [List.getD_eq_getElem?_getD, List.getElem?_take, if_pos (by omega), List.getD_eq_getElem?_getD]]
  exact h2

def ReadPost (cs : List Cv) (s : List UInt8) (w : World) (e : Ending) (w' : World) : Prop :=
  ∃ (lv : Value) (vs : List Vv) (ok : Bool), e = .returned (.tuple #[lv, .bool ok]) ∧ (readR cs s = if ok = true then some (vs.map Vv.vl) else none) ∧ (∀ v ∈ vs, U64 v.N) ∧ Own w w' (RowV 42 3 lv vs.length (vcells vs))
theorem read_none {cs : List Cv} {s : List UInt8} {w w' : World} (h : readR cs s = none) (ho : Only (fun _ => False) w w') : ReadPost cs s w (.returned (.tuple #[.slice none 0 0, .bool false])) w' :=
  ⟨_, [], false, rfl, h, (fun v hv => by cases hv), ⟨fun _ => False, RowV.nil _ _ _, (fun k hk => hk.elim), ho⟩⟩
/-- Where read stands: what has been read of the columns cs, what is left. -/
structure RdS (cs : List Cv) (r : List UInt8) (vs : List Vv) (k : Nat) (xs : List UInt8) (bad : Bool) : Prop where
  len : vs.length = k
  u64 : ∀ v ∈ vs, U64 v.N
  good : bad = false → takeL cs r = (takeL (cs.drop k) xs).map (vs.map Vv.vl ++ ·)
  bad' : bad = true → takeL cs r = none
theorem takeL_step {cs : List Cv} {k : Nat} (h : k < cs.length) (u : List UInt8) : takeL (cs.drop k) u = match take1 (cs.getD k default).K u with
    | none => none
    | some x => if (cs.getD k default).fit x.1 = 0 then (takeL (cs.drop (k + 1)) x.2).map (x.1 :: ·) else none := by
  rw [List.drop_eq_getElem_cons h, takeL]
  rw [show cs.getD k default = cs[k] by simp [h]]
  cases take1 cs[k].K u <;> rfl
theorem RdS.next {cs : List Cv} {r : List UInt8} {vs : List Vv} {k : Nat} {xs l' : List UInt8} {bad bad' : Bool} {v : Vv} (h : RdS cs r vs k xs bad) (hk : k < cs.length) (hN : U64 v.N) (h1 : bad = true → bad' = true)
    (h2 : bad = false → take1 (cs.getD k default).K xs = if bad' = true then none else some (v.vl, l')) (hf : (cs.getD k default).fit v.vl = 0) : RdS cs r (vs ++ [v]) (k + 1) l' bad' := by
  refine ⟨by simp [h.len], ?_, ?_, ?_⟩
  · intro x hx
    rw [List.mem_append, List.mem_singleton] at hx
    rcases hx with hx | rfl
    · exact h.u64 x hx
    · exact hN
  · intro e
    have hb : bad = false := by
      cases bad with
      | false => rfl
      | true => rw [h1 rfl] at e; cases e
    rw [h.good hb, takeL_step hk, h2 hb, e]
    rw [if_neg (by decide)]
    simp only
    rw [if_pos hf, Option.map_map]
    congr 1
    funext x
    simp
  · intro e
    cases bad with
    | true => exact h.bad' rfl
    | false =>
      rw [h.good rfl, takeL_step hk, h2 rfl, if_pos e]
      rfl
theorem RdS.fell {cs : List Cv} {r : List UInt8} {vs : List Vv} {k : Nat} {xs l' : List UInt8} {bad bad' : Bool} {v : Vv} (h : RdS cs r vs k xs bad) (hk : k < cs.length)
    (h2 : bad = false → take1 (cs.getD k default).K xs = if bad' = true then none else some (v.vl, l')) (hf : (cs.getD k default).fit v.vl ≠ 0) : takeL cs r = none := by
  cases bad with
  | true => exact h.bad' rfl
  | false =>
    rw [h.good rfl, takeL_step hk, h2 rfl]
    cases bad' with
    | true => rfl
    | false =>
      rw [if_neg (by decide)]
      simp only
      rw [if_neg hf]
      rfl
theorem RdS.ends {cs : List Cv} {r : List UInt8} {vs : List Vv} {k : Nat} {xs : List UInt8} {bad : Bool} (h : RdS cs r vs k xs bad) (hk : k = cs.length) : takeL cs r = if (!bad && xs.isEmpty) = true then some (vs.map Vv.vl) else none := by
  cases bad with
  | true => rw [h.bad' rfl]; rfl
  | false =>
    rw [h.good rfl, hk, List.drop_length, takeL]
    cases xs <;> simp

set_option maxHeartbeats 8000000 in
theorem wread_any (co : Option Addr) (n cc : Nat) (cs : List Cv) (s : ByteArray) (w : World) (hT : UTab w) (hc : SlCs w co cs) (hn : n = cs.length) (hsh : Shp co n cc) (hcs : ∀ c ∈ cs, c.E = 0) (h24 : cs.length ≤ 24) :
    Calls Tryd.prog 35 #[.slice co n cc, .string s] w fun e w' => ReadPost cs s.toList w e w' := by
  have HT := Lib.hid hT
  have HC := Lib.hid hc
  have HN := Lib.hid hn
  have HCS := Lib.hid hcs
  have HSH := Lib.hid hsh
  have hn24 : n ≤ 24 := by omega
  clear hT hc hn hcs hsh h24
  by_cases h512 : 512 < s.size
  · have HE : Hid (readR cs s.toList = none) := Lib.hid (by unfold readR; rw [if_pos (by rw [ba_size]; exact h512)])
    have hI : (512 : Int) < (s.size : Int) := by omega
    clear h512
    go_enter Tryd.func35, Tryd.ntmps35
    go_wp2_with fail
    go_ret2
    exact read_none HE.out (Only.refl _ _)
  have hI : ¬ (512 : Int) < (s.size : Int) := by omega
  obtain ⟨z, hz⟩ : ∃ z, z = s.size := ⟨_, rfl⟩
  have HS5 : Hid (s.toList.length ≤ 512) := Lib.hid (by rw [ba_size]; omega)
  have hcv := Lib.run_convert_string_bytes (P := Tryd.prog) w 9 49 5 s (u := .string) Tryd.underlying9 Tryd.underlying49 Tryd.underlying5
  have hst := Lib.bytesWorld_cell w 5 s
  have hO1 := below_quiet (Lib.bytesWorld_below w 5 s)
  obtain ⟨W1, hW1⟩ : ∃ W1, W1 = Lib.bytesWorld w 5 s := ⟨_, rfl⟩
  rw [← hW1, ← hz] at hcv
  rw [← hW1] at hst hO1
  have HTO : Hid (Calls Tryd.prog 57 #[.slice (some ⟨w.heap.size, 0, none⟩) z (grownCap w z 0 5)] W1 fun e w' => ∃ p, e = .returned (.pointer (some ⟨p, 0, none⟩)) ∧ Own w w' (Sep (InR p s.toList false) Emp)) := Lib.hid (by
    refine own_to (⟨fun _ => False, fun _ h => h, fun _ h => h.elim, hO1⟩ : Own w W1 Emp) _ s.toList ?_ (by have := HS5.out; omega)
    refine .inr ⟨⟨w.heap.size, 0, none⟩, _, by rw [ba_size, ← hz], fun j hj => ?_⟩
    rw [ba_size] at hj
    rw [add_lit, Nat.zero_add, hst j hj, ByteArray.toList_eq]
    try simp)
  clear hst hO1 hW1 h512 hz
  go_enter Tryd.func35, Tryd.ntmps35
  go_wp2_with fail
  refine HTO.out.mono ?_
  rintro e w1 ⟨p, rfl, h1⟩
  have H1 := Lib.hid h1
  have HU8 := Lib.hid (own_inU8 h1)
  clear h1 HTO hcv
  obtain ⟨x, hx⟩ : ∃ x, numB (nextR 1 s.toList false) = x := ⟨_, rfl⟩
  have hx2 : x < 256 := by rw [← hx]; exact numN_lt 1 _ _
  rw [hx] at HU8
  have hw : IntKind.i64.wrap (x : Int) = (x : Int) := IntWalk.i64_in _ (by omega)
  have HX := Lib.hid hx
  clear hx
  go_wp2_with fail
  refine HU8.out.mono ?_
  rintro e w2 ⟨rfl, h2⟩
  have H2 := Lib.hid h2
  clear h2 HU8 H1
  by_cases hx0 : x < 1
  · have hxI : (x : Int) < 1 := by omega
    have HE : Hid (readR cs s.toList = none) := Lib.hid (by
      unfold readR
      rw [if_neg (by have := HS5.out; omega)]
      have hx := HX.out
      cases hs : s.toList with
      | nil => rfl
      | cons b r =>
        rw [hs] at hx
        simp [nextR, can, numB] at hx
        simp only
        rw [if_pos (.inl (by omega))])
    clear hx0
    go_wp2_with fail
    go_ret2
    exact read_none HE.out H2.out.only
  have hxI : ¬ (x : Int) < 1 := by omega
  by_cases hxn : n < x
  · have hxJ : (n : Int) < (x : Int) := by omega
    have HE : Hid (readR cs s.toList = none) := Lib.hid (by
      unfold readR
      rw [if_neg (by have := HS5.out; omega)]
      have hx := HX.out
      have hn := HN.out
      cases hs : s.toList with
      | nil => rfl
      | cons b r =>
        rw [hs] at hx
        simp [nextR, can, numB] at hx
        simp only
        rw [if_pos (.inr (by omega))])
    clear hx0 hxn
    go_wp2_with fail
    go_ret2
    exact read_none HE.out H2.out.only
  have hxJ : ¬ (n : Int) < (x : Int) := by omega
  obtain ⟨r, hr⟩ : ∃ r, nextL 1 s.toList false = r := ⟨_, rfl⟩
  rw [hr] at H2
  have HRD : Hid (readR cs s.toList = takeL (cs.take x) r ∧ (!can 1 s.toList false) = false) := Lib.hid (by
    have hx := HX.out
    have hn := HN.out
    cases hs : s.toList with
    | nil =>
      rw [hs] at hx
      simp [nextR, can, numB] at hx
      omega
    | cons b q =>
      have h5 := HS5.out
      rw [hs] at hx hr h5
      simp [nextR, can, numB] at hx
      simp [nextL, can] at hr
      subst hx hr
      refine ⟨?_, by simp [can]⟩
      unfold readR
      rw [if_neg (by omega)]
      simp only
      rw [if_neg (by omega)])
  rw [HRD.out.2] at H2
  have HXN : Hid (1 ≤ x ∧ x ≤ n) := Lib.hid ⟨by omega, by omega⟩
  obtain ⟨Q, hQ⟩ : ∃ Q, readR cs s.toList = Q := ⟨_, rfl⟩
  have HRQ : Hid (takeL (cs.take x) r = Q) := Lib.hid (by rw [← hQ, HRD.out.1])
  have HGO : Hid (∀ (e : Ending) (w' : World), (∃ (lv : Value) (vs : List Vv) (ok : Bool), e = .returned (.tuple #[lv, .bool ok]) ∧ (Q = if ok = true then some (vs.map Vv.vl) else none) ∧ (∀ v ∈ vs, U64 v.N) ∧ Own w w' (RowV 42 3 lv vs.length (vcells vs))) → ReadPost cs s.toList w e w') := Lib.hid (fun e w' ⟨lv, vs, ok, e1, e2, e3, e4⟩ => ⟨lv, vs, ok, e1, hQ.trans e2, e3, e4⟩)
  have hsl := fun W => front_cols co n cc x HSH.out (HXN.out.2) W
  have HCT : Hid (SlCs w co (cs.take x) ∧ (cs.take x).length = x ∧ ∀ c ∈ cs.take x, c.E = 0) := Lib.hid ⟨HC.out.take x, by rw [List.length_take]; have := HXN.out.2; have := HN.out; omega, fun c hc => HCS.out c (List.mem_of_mem_take hc)⟩
  generalize cs.take x = ct at *
  have HQ0 : Hid (Own w w2 (Sep (RowV 42 3 (.slice none 0 0) 0 (vcells [])) (InR p r false))) := Lib.hid (H2.out.fst.row_nil 42 3)
  have hd1 : decide (n < x) = false := by simpa using hxn
  have hd2 : decide ((x : Int) < 1) = false := by simpa using hxI
  clear hr hQ hx0 HX H2 HRD HC HCS HN HS5 HSH
  go_wp2_with fail
  clear hsl
  go_loopw [8, 10, 11, 33] (fun lv _ _ i wr => ∃ (k : Nat) (lo : Option Addr) (lc : Nat) (vs : List Vv) (xs : List UInt8) (bad : Bool), k ≤ x ∧ i = .int .i64 (k : Int) ∧ lv = .slice lo k lc ∧ Hid (RdS ct r vs k xs bad) ∧ Hid (Own w wr (Sep (RowV 42 3 (.slice lo k lc) k (vcells vs)) (InR p xs bad)))) (fun _ _ _ i _ => x - (intOf i).toNat)
  case atStart => exact ⟨0, none, 0, [], r, false, Nat.zero_le _, rfl, rfl, Lib.hid ⟨rfl, fun _ h => by simp at h, fun _ => by simp, fun h => by cases h⟩, HQ0⟩
  case round =>
    clear HQ0
    obtain ⟨k, lo, lc, vs, xs, bad, hk, rfl, rfl, HI, HQ⟩ := hrel
    by_cases hlt : k < x
    · have HKL : Hid (k < ct.length) := Lib.hid (by rw [HCT.out.2.1]; exact hlt)
      obtain ⟨g, off, rfl, hca⟩ := (HCT.out.1.keep HQ.out.only) k HKL.out
      obtain ⟨c, hce⟩ : ∃ c, ct.getD k default = c := ⟨_, rfl⟩
      rw [hce] at hca
      have HCE := Lib.hid hce
      have HCZ : Hid (1 ≤ c.K ∧ c.K ≤ 5) := Lib.hid (by
        have := col_zero (HCT.out.2.2 c (by rw [← hce]; have := HKL.out; simp [this]))
        exact ⟨this.1, this.2.1⟩)
      obtain ⟨y0, y1, y2, y3, y4, y5, y6, hu⟩ := hca
      have HA := Lib.hid (HQ.out.alloc (.cells #[.string c.nm, .int .i64 c.K, .int .i64 c.M, .bool c.nu, .int .i64 c.dK, .int .u64 c.dN, .string c.dS] 67))
      have hltI : (k : Int) < (x : Int) := by omega
      have hk0 : (0 : Int) ≤ (k : Int) := by omega
      clear hce hu HQ
      obtain ⟨bc, hbc⟩ : ∃ bc, wr.heap.size = bc := ⟨_, rfl⟩
      rw [hbc] at HA
      obtain ⟨wa, hwa⟩ : ∃ wa, wr.alloc (.cells #[.string c.nm, .int .i64 c.K, .int .i64 c.M, .bool c.nu, .int .i64 c.dK, .int .u64 c.dN, .string c.dS] 67) = wa := ⟨_, rfl⟩
      rw [hwa] at HA
      have HTK := Lib.hid (take_any (HA.out.ac (by ac_rfl) : Own w wa (Sep (InR p xs bad) (Sep (Blk bc (.cells #[.string c.nm, .int .i64 c.K, .int .i64 c.M, .bool c.nu, .int .i64 c.dK, .int .u64 c.dN, .string c.dS] 67 (0, 0))) (RowV 42 3 (.slice lo k lc) k (vcells vs))))) c.K HCZ.out.1 HCZ.out.2)
      have hb1 := HA.out.held
      have hb1K : wa.cell? ⟨bc, 1, none⟩ = some (.int .i64 c.K) := by simp [World.cell?, hb1]
      go_upto_region 11 with fail
      try rw [hbc]
      try rw [hwa]
      clear y0 y1 y2 y3 y4 y5 y6 hb1 hbc hwa HA
      go_wp2_with fail
      refine HTK.out.mono ?_
      rintro e w3 ⟨v, l', bad', rfl, hN, hbb, htk, h3⟩
      have HNV := Lib.hid hN
      have HBB := Lib.hid hbb
      have HTV := Lib.hid htk
      have HS3 := Lib.hid ((h3.alloc (.cells #[.int .i64 v.K, .int .u64 v.N, .string v.S] 42)).ac (by ac_rfl) : Own w (w3.alloc (.cells #[.int .i64 v.K, .int .u64 v.N, .string v.S] 42)) (Sep (Blk w3.heap.size (.cells #[.int .i64 v.K, .int .u64 v.N, .string v.S] 42 (0, 0))) (Sep (Blk bc (.cells #[.string c.nm, .int .i64 c.K, .int .i64 c.M, .bool c.nu, .int .i64 c.dK, .int .u64 c.dN, .string c.dS] 67 (0, 0))) (Sep (RowV 42 3 (.slice lo k lc) k (vcells vs)) (InR p l' bad')))))
      clear hN hbb htk h3 HTK hb1K
      go_upto_region 12 with fail
      generalize w3.alloc (.cells #[.int .i64 v.K, .int .u64 v.N, .string v.S] 42) = w4 at *
      generalize w3.heap.size = vb at *
      obtain ⟨x0, x1, x2, _, _, _⟩ := blk_cells3 HS3.out.held
      have hb2 := HS3.out.swap.held
      have y0 : w4.cell? ⟨bc, 0, none⟩ = some (.string c.nm) := by simp [World.cell?, hb2]
      have y1 : w4.cell? ⟨bc, 1, none⟩ = some (.int .i64 c.K) := by simp [World.cell?, hb2]
      have y2 : w4.cell? ⟨bc, 2, none⟩ = some (.int .i64 c.M) := by simp [World.cell?, hb2]
      have y3 : w4.cell? ⟨bc, 3, none⟩ = some (.bool c.nu) := by simp [World.cell?, hb2]
      have y4 : w4.cell? ⟨bc, 4, none⟩ = some (.int .i64 c.dK) := by simp [World.cell?, hb2]
      have y5 : w4.cell? ⟨bc, 5, none⟩ = some (.int .u64 c.dN) := by simp [World.cell?, hb2]
      have y6 : w4.cell? ⟨bc, 6, none⟩ = some (.string c.dS) := by simp [World.cell?, hb2]
      obtain ⟨er, her⟩ : ∃ er, c.fit v.vl = er := ⟨_, rfl⟩
      have HER := Lib.hid her
      have HFU : Hid (Calls Tryd.prog 40 #[colv c.nm c.K c.M c.nu c.dK c.dN c.dS, vlv v.K v.N v.S] w4 fun e w' => e = .returned (.int .i64 er) ∧ Below w4.heap.size w4 w') := Lib.hid (by
        have h := fits_u (nm := c.nm) (cK := c.K) (cM := c.M) (nu := c.nu) (dK := c.dK) (dN := c.dN) (dS := c.dS) (K := v.K) (s := v.S) HNV.out w4 (HT.out.keep HS3.out.belows)
        rw [show fitsE c.K c.M c.nu (vl v.K v.N v.S) = c.fit v.vl from rfl, her] at h
        exact h)
      clear her hb2
      go_wp2_with fail
      refine HFU.out.mono ?_
      rintro e w5 ⟨rfl, hb5⟩
      have HS5 := Lib.hid (HS3.out.quiet (below_quiet hb5))
      clear hb5 x0 x1 x2 y0 y1 y2 y3 y4 y5 y6 HS3 HFU
      by_cases h0 : er = 0
      · subst h0
        have HNX : Hid (RdS ct r (vs ++ [v]) (k + 1) l' bad') := Lib.hid (HI.out.next HKL.out HNV.out HBB.out (by rw [HCE.out]; exact HTV.out) (by rw [HCE.out]; exact HER.out))
        obtain ⟨x0, x1, x2, _, _, _⟩ := blk_cells3 HS5.out.held
        have hbs := fun w => run_buildSlice_one (P := Tryd.prog) w 22 42 _ 3 Tryd.underlying22 Tryd.infoVal rfl (by decide) (by decide) #[.int .i64 v.K, .int .u64 v.N, .string v.S] rfl
        obtain ⟨i0, hi0, hz0, hz1, hz2⟩ := info_parts Tryd.infoVal3
        have H5 := HS5.out.snd.snd
        have HRW := Lib.hid (H5.owns.alloc (.cells #[.int .i64 v.K, .int .u64 v.N, .string v.S] 42))
        have HA := Lib.hid ((H5.alloc (.cells #[.int .i64 v.K, .int .u64 v.N, .string v.S] 42)).snd)
        have HVC := Lib.hid (vcells_snoc vs v)
        have HVN := Lib.hid (vcells_length vs)
        have HVK := Lib.hid HI.out.len
        have hk24 : k ≤ 24 := by omega
        clear H5
        go_wp2_with (first | (at_builtin; refine wpList_append_lies _ rfl (.tmp 45) (.tmp 47) 22 rfl 0 42 i0 _ 3 32 Tryd.underlying22 hi0 hz0 hz1 hz2 rfl (by decide) (.slice lo k lc) k (vcells vs) rfl HRW.out ⟨w5.heap.size, 0, none⟩ 1 1 [.int .i64 v.K, .int .u64 v.N, .string v.S] rfl rfl (World.news_of_block (heap_alloc_new w5 _)) ?_ Nat.zero_lt_one ?_ ?_ (Nat.zero_le _) (w5.heap.size + 1) ?_ ?_))
        · exact vcells_one [v]
        · unfold maxLen; omega
        · omega
        · simp
        intro g2 cap2 w6 hown hgrow hat hlt5
        have h5 := HA.out.appended hown hgrow (hat.imp (fun h => h) (fun h => by simp; omega))
        rw [← HVC.out] at h5
        have H6 := Lib.hid h5
        clear hown hgrow hat hlt5 h5 HA HRW hi0 hz0 hz1 hz2 hbs x0 x1 x2
        go_wp2_with fail
        go_roundw
        case rel => exact ⟨k + 1, some ⟨g2, 0, none⟩, cap2, vs ++ [v], l', bad', by omega, by go_num, rfl, HNX, H6⟩
        case measure => simp [intOf]; omega
      · have hne : (er != 0) = true := by simpa using h0
        have HE : Hid (Q = none) := Lib.hid (by
          rw [← HRQ.out]
          exact HI.out.fell HKL.out (by rw [HCE.out]; exact HTV.out) (by rw [HCE.out, HER.out]; exact h0))
        clear h0
        go_wp2_with fail
        go_ret2
        refine HGO.out _ _ ⟨_, [], false, rfl, HE.out, (fun v hv => by cases hv), ⟨fun _ => False, RowV.nil _ _ _, (fun k hk => hk.elim), HS5.out.only⟩⟩
    · obtain rfl : k = x := by omega
      have hltI : ¬ (k : Int) < (k : Int) := by omega
      have HD := Lib.hid (own_done HQ.out.comm)
      go_wp2_with fail
      refine HD.out.mono ?_
      rintro e w3 ⟨rfl, rfl⟩
      go_wp2_with fail
      go_ret2
      refine HGO.out _ _ ⟨_, vs, !bad && xs.isEmpty, rfl, ?_, HI.out.u64, by rw [HI.out.len]; exact HQ.out.fst⟩
      rw [← HRQ.out]
      exact HI.out.ends HCT.out.2.1.symm

end Go.Proofs.YtgkcflindenboaaDoor

namespace Go.Proofs.YtgkcflindenboaaDoor
open Go Go.RowKit
set_option linter.unusedVariables false
set_option linter.unusedSimpArgs false
set_option maxRecDepth 100000
set_option linter.unusedSimpArgs false
set_option maxRecDepth 100000

/-- The least that comes behind all that begin with s. -/
def afterL : List UInt8 → Option (List UInt8)
  | [] => none
  | b :: r => match afterL r with
    | some t => some (b :: t)
    | none => if b = 255 then none else some [UInt8.ofNat (b.toNat + 1)]
theorem afterL_none {b : UInt8} {r : List UInt8} (h : afterL r = none) : afterL (b :: r) = if b = 255 then none else some [UInt8.ofNat (b.toNat + 1)] := by
  rw [afterL, h]
theorem afterL_some {b : UInt8} {r t : List UInt8} (h : afterL r = some t) : afterL (b :: r) = some (b :: t) := by
  rw [afterL, h]
theorem afterL_full : ∀ n, afterL (List.replicate n 255) = none
  | 0 => rfl
  | n + 1 => by rw [List.replicate_succ, afterL_none (afterL_full n), if_pos rfl]
theorem afterL_at (b : UInt8) (hb : b ≠ 255) (n : Nat) : ∀ p : List UInt8, afterL (p ++ b :: List.replicate n 255) = some (p ++ [UInt8.ofNat (b.toNat + 1)])
  | [] => by
    show afterL (b :: List.replicate n 255) = _
    rw [afterL_none (afterL_full n), if_neg hb]
    rfl
  | c :: p => by rw [List.cons_append, afterL_some (afterL_at b hb n p)]; rfl
theorem bcmp_nil (k : List UInt8) : 0 ≤ bcmp k [] := by cases k <;> simp [bcmp]
theorem bcmp_nil' (k : List UInt8) : bcmp [] k ≤ 0 := by cases k <;> simp [bcmp]
theorem bcmp_cons (a b : UInt8) (x y : List UInt8) : bcmp (a :: x) (b :: y) = if a.toNat < b.toNat then -1 else if b.toNat < a.toNat then 1 else bcmp x y := rfl
theorem bcmp_same (a : UInt8) (x y : List UInt8) : bcmp (a :: x) (a :: y) = bcmp x y := by rw [bcmp_cons, if_neg (by omega), if_neg (by omega)]
theorem bcmp_less {a b : UInt8} (h : a.toNat < b.toNat) (x y : List UInt8) : bcmp (a :: x) (b :: y) = -1 := by rw [bcmp_cons, if_pos h]
theorem bcmp_more {a b : UInt8} (h : b.toNat < a.toNat) (x y : List UInt8) : bcmp (a :: x) (b :: y) = 1 := by rw [bcmp_cons, if_neg (by omega), if_pos h]
theorem succ_byte {b : UInt8} (h : b ≠ 255) : (UInt8.ofNat (b.toNat + 1)).toNat = b.toNat + 1 := by
  have h1 := b.toNat_lt
  have : b.toNat ≠ 255 := fun e => h (UInt8.toNat_inj.1 e)
  rw [UInt8.toNat_ofNat']
  omega
theorem byte_ways (a b : UInt8) : a.toNat < b.toNat ∨ a = b ∨ b.toNat < a.toNat := by
  rcases Nat.lt_trichotomy a.toNat b.toNat with h | h | h
  · exact .inl h
  · exact .inr (.inl (UInt8.toNat_inj.1 h))
  · exact .inr (.inr h)
/-- Does a key lie from lo on, below hi? -/
def inL (lo hi : List UInt8) (op : Bool) (k : List UInt8) : Bool := decide (0 ≤ bcmp k lo) && (op || decide (bcmp k hi < 0))
/-- The span of what begins with s. -/
def hiL (s : List UInt8) : List UInt8 := (afterL s).getD []
def opL (s : List UInt8) : Bool := (afterL s).isNone
theorem under_iff : ∀ (s k : List UInt8), inL s (hiL s) (opL s) k = true ↔ s <+: k
  | [], k => by simp [inL, hiL, opL, afterL, bcmp_nil]
  | b :: r, [] => by simp [inL, bcmp]
  | b :: r, c :: q => by
    have ih := under_iff r q
    rcases byte_ways c b with h | h | h
    · have h1 : ¬ (b :: r <+: c :: q) := fun e => by rw [List.cons_prefix_cons] at e; rw [e.1] at h; omega
      simp only [inL, bcmp_less h, h1, iff_false]
      simp
    · subst h
      rw [List.cons_prefix_cons]
      simp only [true_and]
      rw [← ih]
      simp only [inL, bcmp_same]
      cases ha : afterL r with
      | some t =>
        simp only [hiL, opL, afterL_some ha, ha, Option.getD_some, Option.isNone_some, bcmp_same]
      | none =>
        simp only [hiL, opL, ha, afterL_none ha, Option.isNone_none, Bool.true_or, Bool.and_true]
        by_cases hc : c = 255
        · simp [hc]
        · simp only [if_neg hc, Option.getD_some, Option.isNone_some, Bool.false_or]
          rw [bcmp_less (by rw [succ_byte hc]; omega)]
          simp
    · have h1 : ¬ (b :: r <+: c :: q) := fun e => by rw [List.cons_prefix_cons] at e; rw [e.1] at h; omega
      simp only [h1, iff_false]
      cases ha : afterL r with
      | some t =>
        simp only [inL, hiL, opL, afterL_some ha, Option.getD_some, Option.isNone_some, bcmp_more h]
        simp
      | none =>
        have hb : b ≠ 255 := fun e => by subst e; have := c.toNat_lt; have e2 : (255 : UInt8).toNat = 255 := rfl; omega
        simp only [inL, hiL, opL, afterL_none ha, if_neg hb, Option.getD_some, Option.isNone_some, bcmp_more h]
        have : 0 ≤ bcmp (c :: q) [UInt8.ofNat (b.toNat + 1)] := by
          rw [bcmp_cons, succ_byte hb]
          split
          · omega
          · split
            · omega
            · exact bcmp_nil q
        simp only [Bool.false_or, Bool.and_eq_true, decide_eq_true_eq]
        omega
theorem after_gt : ∀ {s t : List UInt8}, afterL s = some t → bcmp t s = 1
  | b :: r, t, h => by
    cases ha : afterL r with
    | some u =>
      rw [afterL_some ha] at h
      simp only [Option.some.injEq] at h
      subst h
      rw [bcmp_same]
      exact after_gt ha
    | none =>
      rw [afterL_none ha] at h
      by_cases hb : b = 255
      · rw [if_pos hb] at h; cases h
      · rw [if_neg hb] at h
        simp only [Option.some.injEq] at h
        subst h
        rw [bcmp_more (by rw [succ_byte hb]; omega)]
theorem after_out {s t : List UInt8} (h : afterL s = some t) : inL s (hiL s) (opL s) t = false := by
  simp [inL, hiL, opL, h, bcmp_self]
/-- Have two spans a key in common? -/
def loL (a b : List UInt8) : List UInt8 := if bcmp a b < 0 then b else a
def meetL (la ha : List UInt8) (oa : Bool) (lb hb : List UInt8) (ob : Bool) : Bool := inL la ha oa (loL la lb) && inL lb hb ob (loL la lb)
theorem loL_comm (a b : List UInt8) : loL a b = loL b a := by
  unfold loL
  have h := bcmp_neg a b
  by_cases h1 : bcmp a b < 0
  · rw [if_pos h1, if_neg (by omega)]
  · rw [if_neg h1]
    by_cases h2 : bcmp b a < 0
    · rw [if_pos h2]
    · rw [if_neg h2]
      exact (bcmp_eq a b).1 (by omega)
theorem meetL_comm (la ha : List UInt8) (oa : Bool) (lb hb : List UInt8) (ob : Bool) : meetL la ha oa lb hb ob = meetL lb hb ob la ha oa := by
  unfold meetL
  rw [loL_comm la lb, Bool.and_comm]
theorem bcmp_le_lt {x y z : List UInt8} (h1 : bcmp x y ≤ 0) (h2 : bcmp y z < 0) : bcmp x z < 0 := by
  have h3 := bcmp_trans x y z h1 (by omega)
  by_cases e : bcmp x z = 0
  · have e2 := (bcmp_eq x z).1 e
    subst e2
    have := bcmp_neg x y
    omega
  · omega
theorem loL_le {a b k : List UInt8} (ha : 0 ≤ bcmp k a) (hb : 0 ≤ bcmp k b) : bcmp (loL a b) k ≤ 0 := by
  have := bcmp_neg k a
  have := bcmp_neg k b
  unfold loL
  split <;> omega
theorem loL_ge_l (a b : List UInt8) : bcmp a (loL a b) ≤ 0 := by
  unfold loL
  split
  · omega
  · rw [bcmp_self]; omega
theorem loL_ge_r (a b : List UInt8) : bcmp b (loL a b) ≤ 0 := by rw [loL_comm]; exact loL_ge_l b a
theorem inL_iff (lo hi : List UInt8) (op : Bool) (k : List UInt8) : inL lo hi op k = true ↔ bcmp lo k ≤ 0 ∧ (op = true ∨ bcmp k hi < 0) := by
  have := bcmp_neg k lo
  unfold inL
  simp only [Bool.and_eq_true, decide_eq_true_eq, Bool.or_eq_true]
  constructor
  · rintro ⟨h1, h2⟩; exact ⟨by omega, h2⟩
  · rintro ⟨h1, h2⟩; exact ⟨by omega, h2⟩
/-- A key in both: they meet. -/
theorem meet_of {la ha : List UInt8} {oa : Bool} {lb hb : List UInt8} {ob : Bool} {k : List UInt8} (h1 : inL la ha oa k = true) (h2 : inL lb hb ob k = true) : meetL la ha oa lb hb ob = true := by
  have i1 := (inL_iff _ _ _ _).1 h1
  have i2 := (inL_iff _ _ _ _).1 h2
  have n1 := bcmp_neg k la
  have n2 := bcmp_neg k lb
  have hl := loL_le (a := la) (b := lb) (k := k) (by omega) (by omega)
  unfold meetL
  rw [Bool.and_eq_true]
  exact ⟨(inL_iff _ _ _ _).2 ⟨loL_ge_l _ _, i1.2.imp id (bcmp_le_lt hl)⟩, (inL_iff _ _ _ _).2 ⟨loL_ge_r _ _, i2.2.imp id (bcmp_le_lt hl)⟩⟩
theorem of_meet {la ha : List UInt8} {oa : Bool} {lb hb : List UInt8} {ob : Bool} (h : meetL la ha oa lb hb ob = true) : inL la ha oa (loL la lb) = true ∧ inL lb hb ob (loL la lb) = true := by
  unfold meetL at h
  rwa [Bool.and_eq_true] at h
/-- They meet: each has its own lower end. -/
theorem meet_own {la ha : List UInt8} {oa : Bool} {lb hb : List UInt8} {ob : Bool} (h : meetL la ha oa lb hb ob = true) : inL la ha oa la = true ∧ inL lb hb ob lb = true := by
  obtain ⟨h1, h2⟩ := of_meet h
  have i1 := (inL_iff _ _ _ _).1 h1
  have i2 := (inL_iff _ _ _ _).1 h2
  exact ⟨(inL_iff _ _ _ _).2 ⟨by rw [bcmp_self]; omega, i1.2.imp id (bcmp_le_lt i1.1)⟩, (inL_iff _ _ _ _).2 ⟨by rw [bcmp_self]; omega, i2.2.imp id (bcmp_le_lt i2.1)⟩⟩
/-- Spans of what begins with unlike texts of one length. -/
theorem under_apart {s t : List UInt8} (hl : s.length = t.length) (hne : s ≠ t) : meetL s (hiL s) (opL s) t (hiL t) (opL t) = false := by
  refine Bool.eq_false_iff.2 fun h => ?_
  obtain ⟨h1, h2⟩ := of_meet h
  have p1 := (under_iff _ _).1 h1
  have p2 := (under_iff _ _).1 h2
  exact hne ((List.prefix_of_prefix_length_le p1 p2 (Nat.le_of_eq hl)).eq_of_length hl)
theorem under_meet {s t : List UInt8} (k : List UInt8) (h1 : s <+: k) (h2 : t <+: k) : meetL s (hiL s) (opL s) t (hiL t) (opL t) = true :=
  meet_of ((under_iff _ _).2 h1) ((under_iff _ _).2 h2)

end Go.Proofs.YtgkcflindenboaaDoor

namespace Go.Proofs.YtgkcflindenboaaDoor
open Go Go.RowKit
set_option linter.unusedVariables false
set_option linter.unusedSimpArgs false
set_option maxRecDepth 100000
set_option linter.unusedSimpArgs false
set_option maxRecDepth 100000

theorem u64_of {n : Int} (h0 : 0 ≤ n) (h1 : n < 1000) : U64 n := ⟨h0, by omega⟩



theorem aw_name (w : World) : Calls Tryd.prog 78 #[.string ⟨#[97, 95, 49]⟩] w fun e w' => e = .returned (.bool true) ∧ w = w' := by
  refine (name_any _ w).mono ?_
  rintro e w' ⟨rfl, rfl⟩
  rw [show (ByteArray.mk #[97, 95, 49]).toList = [97, 95, 49] from ByteArray.toList_mk [97, 95, 49]]
  exact ⟨rfl, rfl⟩
theorem aw_fits (w : World) (hT : Tabs w) : Calls Tryd.prog 40 #[colv ⟨#[]⟩ 1 0 false 0 0 ⟨#[]⟩, vlv 2 5 ⟨#[]⟩] w fun e w' => e = .returned (.int .i64 8) ∧ Below w.heap.size w w' := by
  refine (fits_any (u64_of (by decide) (by decide)) w hT).mono ?_
  rintro e w' ⟨rfl, hb⟩
  refine ⟨?_, hb⟩
  show Ending.returned (Value.int .i64 (fitsE 1 0 false ⟨2, 5, (ByteArray.mk #[]).toList⟩)) = _
  rw [ba_nil]
  rfl

theorem keep0 {w w1 : World} {a : Addr} {v : Value} (h : w.cell? a = some v) (hb : Below w.heap.size w w1) : w1.cell? a = some v := by
  rw [hb.cell (cell_lt h)]; exact h


end Go.Proofs.YtgkcflindenboaaDoor

namespace Go.Proofs.YtgkcflindenboaaDoor
open Go Go.RowKit
set_option linter.unusedVariables false
set_option linter.unusedSimpArgs false
set_option maxRecDepth 100000
set_option linter.unusedSimpArgs false
set_option maxRecDepth 100000

theorem sclone_any (s : ByteArray) (w : World) (hlim : s.size ≤ 281474976710656) : Calls Tryd.prog 36 #[.string s] w fun e w' => e = .returned (.string s) ∧ Below w.heap.size w w' := by
  have HL := Lib.hid hlim
  clear hlim
  go_enter Tryd.func36, Tryd.ntmps36
  go_wp2_with fail
  refine (Tryd.stringslite_Clone s w HL.out).mono ?_
  rintro e w1 ⟨rfl, hb⟩
  have HB := Lib.hid hb
  clear hb
  go_wp2
  go_ret
  exact ⟨rfl, HB.out⟩

/-- A span. -/
abbrev spv (lo hi : ByteArray) (op : Bool) : Value := .agg #[.string lo, .string hi, .bool op]
theorem inL_by (lo hi k : List UInt8) (op b1 b2 : Bool) (h1 : Op.bytesLess k lo = b1) (h2 : Op.bytesLess k hi = b2) : inL lo hi op k = (!b1 && (op || b2)) := by
  rw [less_bcmp] at h1 h2
  unfold inL
  have r1 := bcmp_range k lo
  have r2 := bcmp_range k hi
  have e1 : decide (0 ≤ bcmp k lo) = !b1 := by
    rw [← h1]
    rcases r1 with h | h | h <;> rw [h] <;> rfl
  have e2 : decide (bcmp k hi < 0) = b2 := by
    rw [← h2]
    rcases r2 with h | h | h <;> rw [h] <;> rfl
  rw [e1, e2]
set_option maxHeartbeats 1000000 in
theorem in_any (lo hi k : ByteArray) (op : Bool) (w : World) : Calls Tryd.prog 21 #[spv lo hi op, .string k] w fun e w' => e = .returned (.bool (inL lo.toList hi.toList op k.toList)) ∧ Below w.heap.size w w' := by
  obtain ⟨b1, h1⟩ : ∃ b, Op.bytesLess k.toList lo.toList = b := ⟨_, rfl⟩
  obtain ⟨b2, h2⟩ : ∃ b, Op.bytesLess k.toList hi.toList = b := ⟨_, rfl⟩
  rw [inL_by _ _ _ op b1 b2 h1 h2]
  have HB := Lib.hid ((Below.refl w.heap.size w).alloc (Nat.le_refl _) (.cells #[.string lo, .string hi, .bool op] 47))
  cases b1 <;> cases b2 <;> cases op
  all_goals
    go_enter Tryd.func21, Tryd.ntmps21
    go_wp2
    go_ret
    exact ⟨rfl, HB.out⟩
theorem kconv1 (c : UInt8) (z : Int) (hz : (c.toNat : Int) = z) (W : World) (p : Nat) (h : W.cell? ⟨p, 0, none⟩ = some (.int .u8 z)) :
    (convert 49 9 (.slice (some ⟨p, 0, none⟩) 1 1)).run Tryd.prog W = .ok (.string ⟨#[c]⟩) W := by
  have h := run_convert_bytes_back (P := Tryd.prog) W 49 9 5 ⟨p, 0, none⟩ 1 [c] Tryd.underlying49 Tryd.underlying5 Tryd.underlying9 (fun j hj => by
    obtain rfl : j = 0 := by simp at hj; omega
    rw [Lib.add_plain]
    show W.cell? ⟨p, 0, none⟩ = some (.int .u8 (c.toNat : Int))
    rw [hz]
    exact h)
  exact h
theorem kconv1_new (c : UInt8) (z : Int) (hz : (c.toNat : Int) = z) (W : World) :
    (convert 49 9 (.slice (some ⟨W.heap.size, 0, none⟩) 1 1)).run Tryd.prog (W.alloc (.cells #[.int .u8 z] 5)) = .ok (.string ⟨#[c]⟩) (W.alloc (.cells #[.int .u8 z] 5)) := kconv1 c z hz _ _ (by go_simp)
theorem kconv1_drew (c : UInt8) (z : Int) (hz : (c.toNat : Int) = z) (W : World) :
    (convert 49 9 (.slice (some ⟨W.heap.size, 0, none⟩) 1 1)).run Tryd.prog (W.alloc (.cells #[.int .u8 z] 5)).drew = .ok (.string ⟨#[c]⟩) (W.alloc (.cells #[.int .u8 z] 5)).drew := kconv1 c z hz _ _ (by go_simp)
theorem opL_full (n : Nat) : opL (List.replicate n 255) = true ∧ hiL (List.replicate n 255) = [] := by
  unfold opL hiL
  rw [afterL_full]
  exact ⟨rfl, rfl⟩
theorem opL_at (b : UInt8) (hb : b ≠ 255) (n : Nat) (p : List UInt8) : opL (p ++ b :: List.replicate n 255) = false ∧ hiL (p ++ b :: List.replicate n 255) = p ++ [UInt8.ofNat (b.toNat + 1)] := by
  unfold opL hiL
  rw [afterL_at b hb n p]
  exact ⟨rfl, rfl⟩
theorem ba_take (s : ByteArray) (k : Nat) : (s.extract 0 k).toList = s.toList.take k := by
  rw [ByteArray.toList_eq, ByteArray.toList_eq, Lib.extract_data]
  simp

set_option maxHeartbeats 2000000 in
theorem after_any (s : ByteArray) (w : World) (hs : s.size ≤ 281474976710656) :
    Calls Tryd.prog 20 #[.string s] w fun e w' => ∃ t : ByteArray, e = .returned (.tuple #[.string t, .bool (!(opL s.toList))]) ∧ t.toList = hiL s.toList ∧ Below w.heap.size w w' := by
  obtain ⟨n, hn⟩ : ∃ n, n = s.size := ⟨_, rfl⟩
  have HN := Lib.hid hn
  have hn47 : n ≤ 281474976710656 := by omega
  obtain ⟨OP, hop⟩ : ∃ x, (!(opL s.toList)) = x := ⟨_, rfl⟩
  obtain ⟨HI, hhi⟩ : ∃ x, hiL s.toList = x := ⟨_, rfl⟩
  rw [hop, hhi]
  have HOP := Lib.hid hop
  have HHI := Lib.hid hhi
  clear hn hop hhi
  go_enter Tryd.func20, Tryd.ntmps20
  go_wp2_with fail
  rw [← HN.out]
  go_loop [4] (fun i => ∃ k : Nat, k ≤ n ∧ i = .int .i64 ((k : Int) - 1) ∧ Hid (s.toList = s.toList.take k ++ List.replicate (n - k) 255)) (fun i => (intOf i + 1).toNat)
  case atStart => exact ⟨n, Nat.le_refl _, rfl, Lib.hid (by rw [List.take_of_length_le (by rw [ba_size, HN.out]; exact Nat.le_refl _)]; simp)⟩
  case round =>
    obtain ⟨k, hk, rfl, HL⟩ := hrel
    match k, hk, HL with
    | 0, hk, HL =>
      have HE : Hid (false = OP ∧ [] = HI) := Lib.hid (by
        have e := HL.out
        rw [List.take_zero, List.nil_append, Nat.sub_zero] at e
        have := opL_full n
        rw [← e] at this
        rw [← HOP.out, ← HHI.out, this.1, this.2]
        exact ⟨rfl, rfl⟩)
      go_wp2_with fail
      go_ret2
      exact ⟨⟨#[]⟩, by rw [← HE.out.1]; rfl, by rw [ba_nil]; exact HE.out.2, Below.refl _ _⟩
    | m + 1, hk, HL =>
      have hms : m < s.size := by rw [← HN.out]; exact hk
      obtain ⟨b, hb⟩ : ∃ b, s[m] = b := ⟨_, rfl⟩
      have HTS := Lib.hid (take_step s m hms)
      have HMS := Lib.hid hms
      rw [hb] at HTS
      have e1 : (((m + 1 : Nat) : Int) - 1) = (m : Int) := by omega
      have hmn : (m : Int) < (n : Int) := by omega
      have hm0 : (0 : Int) ≤ (m : Int) := by omega
      have hmI : (m : Int) < (s.size : Int) := by omega
      rw [e1]
      by_cases h255 : b = 255
      · have hz : (b.toNat : Int) = 255 := by rw [h255]; rfl
        have HB := Lib.hid h255
        clear h255
        go_wp2_with fail
        go_round
        case rel =>
          refine ⟨m, by omega, by go_num, Lib.hid ?_⟩
          have e := HL.out
          rw [HTS.out, HB.out, List.append_assoc] at e
          have e2 : [(255 : UInt8)] ++ List.replicate (n - (m + 1)) 255 = List.replicate (n - m) 255 := by
            rw [show n - m = n - (m + 1) + 1 by omega, List.replicate_succ]
            rfl
          rw [e2] at e
          exact e
        case measure => first | (simp [intOf]; done) | (simp [intOf]; omega)
      · have hne : b.toNat ≠ 255 := fun e => h255 (UInt8.toNat_inj.1 e)
        have hz : ((b.toNat : Int) == 255) = false := by simp; omega
        have hsb := succ_byte h255
        have hcv := kconv1_new (UInt8.ofNat (b.toNat + 1)) ((b.toNat : Int) + 1) (by rw [hsb]; rfl) w
        have hcv2 := kconv1_drew (UInt8.ofNat (b.toNat + 1)) ((b.toNat : Int) + 1) (by rw [hsb]; rfl) w
        have hwr : ((b.toNat : Int) + 1) % 256 = (b.toNat : Int) + 1 := by have := b.toNat_lt; omega
        have HE : Hid (true = OP ∧ s.toList.take m ++ [UInt8.ofNat (b.toNat + 1)] = HI) := Lib.hid (by
          have e := HL.out
          rw [HTS.out, List.append_assoc] at e
          have := opL_at b h255 (n - (m + 1)) (s.toList.take m)
          rw [show s.toList.take m ++ b :: List.replicate (n - (m + 1)) 255 = s.toList by exact e.symm] at this
          rw [← HOP.out, ← HHI.out, this.1, this.2]
          exact ⟨rfl, rfl⟩)
        have HBW := Lib.hid (fun o => (Below.refl w.heap.size w).alloc (Nat.le_refl _) o)
        obtain ⟨x, hx⟩ : ∃ x, s.extract 0 m = x := ⟨_, rfl⟩
        have HX : Hid (x.toList = s.toList.take m) := Lib.hid (by rw [← hx, ba_take])
        have hcat : ¬ 9223372036854775807 < x.size + 1 := by
          rw [← ba_size, HX.out, List.length_take]
          omega
        obtain ⟨y, hy⟩ : ∃ y, (⟨#[UInt8.ofNat (b.toNat + 1)]⟩ : ByteArray) = y := ⟨_, rfl⟩
        have HY : Hid (y.toList = [UInt8.ofNat (b.toNat + 1)]) := Lib.hid (by rw [← hy]; exact ByteArray.toList_mk [_])
        have hys : y.size = 1 := by rw [← hy]; rfl
        rw [hy] at hcv hcv2
        have HRS : Hid ((x ++ y).toList = HI) := Lib.hid (by rw [ba_append, HX.out, HY.out, HE.out.2])
        have hw8 : IntKind.u8.wrap ((b.toNat : Int) + 1) = (b.toNat : Int) + 1 := by rw [IntKind.wrap_u8']; exact hwr
        have hle : m ≤ s.size := by have := HMS.out; omega
        clear h255 hne hsb hy
        go_upto_region 6 with fail
        go_region_law (fail)
        all_goals
          go_wp2
          go_ret2
          exact ⟨x ++ y, by rw [← HE.out.1]; rfl, HRS.out, (HBW.out _).drew⟩

theorem sp_cells {w w1 : World} {t : TypeId} (hb : Below (w.alloc (.cells #[.string ⟨#[]⟩, .string ⟨#[]⟩, .bool false] t)).heap.size (w.alloc (.cells #[.string ⟨#[]⟩, .string ⟨#[]⟩, .bool false] t)) w1) :
    w1.heap[w.heap.size]? = some (.cells #[.string ⟨#[]⟩, .string ⟨#[]⟩, .bool false] t (0, 0)) := by
  rw [hb.block _ (by simp)]
  exact heap_alloc_new w _

theorem run_max_str (ts : Array TypeId) (t : TypeId) (x y : ByteArray) (b : Bool) (h : Op.bytesLess x.toList y.toList = b) (W : World) : (Builtin.max_ ts t #[.string x, .string y]).run Tryd.prog W = .ok (.string (if b = true then y else x)) W := by
  cases b <;> simp [Builtin.max_, Builtin.max2, Op.stringOp, asBool, h]
theorem sp_two (w : World) (la ha lb hb : ByteArray) (oa ob : Bool) (t : TypeId) :
    ((w.alloc (.cells #[.string la, .string ha, .bool oa] t)).alloc (.cells #[.string lb, .string hb, .bool ob] t)).heap[w.heap.size]? = some (.cells #[.string la, .string ha, .bool oa] t (0, 0)) ∧
    ((w.alloc (.cells #[.string la, .string ha, .bool oa] t)).alloc (.cells #[.string lb, .string hb, .bool ob] t)).heap[w.heap.size + 1]? = some (.cells #[.string lb, .string hb, .bool ob] t (0, 0)) := by
  constructor
  · rw [Below.heap_alloc _ _ _ (by simp)]
    exact heap_alloc_new w _
  · have := heap_alloc_new (w.alloc (.cells #[.string la, .string ha, .bool oa] t)) (.cells #[.string lb, .string hb, .bool ob] t)
    simpa using this
theorem sp_read {w : World} {p : Nat} {lo hi : ByteArray} {op : Bool} {t : TypeId} (hc : w.heap[p]? = some (.cells #[.string lo, .string hi, .bool op] t (0, 0))) :
    w.cell? ⟨p, 0, none⟩ = some (.string lo) ∧ w.cell? ⟨p, 1, none⟩ = some (.string hi) ∧ w.cell? ⟨p, 2, none⟩ = some (.bool op) := by simp [World.cell?, hc]
theorem keep_heap {w w' : World} {p : Nat} {o : Obj} (h : w.heap[p]? = some o) (hb : Below w.heap.size w w') : w'.heap[p]? = some o := (hb.block p (lt_of_some h)).trans h


end Go.Proofs.YtgkcflindenboaaDoor

namespace Go.Proofs.YtgkcflindenboaaDoor
open Go Go.RowKit
set_option linter.unusedVariables false
set_option linter.unusedSimpArgs false
set_option maxRecDepth 100000
set_option linter.unusedSimpArgs false
set_option maxRecDepth 100000

theorem rfits_ok {cs : List Cv} {l : List Vl} (h : rfits cs l = 0) : colsB cs = true ∧ l.length = cs.length ∧ fitsL cs l = 0 := by
  unfold rfits at h
  by_cases h1 : colsB cs = false ∨ l.length ≠ cs.length
  · rw [if_pos h1] at h; cases h
  rw [if_neg h1] at h
  refine ⟨?_, ?_, h⟩
  · cases hb : colsB cs with
    | true => rfl
    | false => exact absurd (.inl hb) h1
  · exact Classical.byContradiction fun e => h1 (.inr e)
def REncPost (cs : List Cv) (l : List Vl) (w : World) (e : Ending) (w' : World) : Prop :=
  ∃ (s : List UInt8) (er : Int), e = .returned (.tuple #[.string ⟨s.toArray⟩, .int .i64 er]) ∧ (s, er) = rencE cs l ∧ Only (fun _ => False) w w'
theorem renc_none {cs : List Cv} {l : List Vl} {w w' : World} {er : Int} (h : ([], er) = rencE cs l) (ho : Only (fun _ => False) w w') : REncPost cs l w (.returned (.tuple #[.string ⟨#[]⟩, .int .i64 er])) w' :=
  ⟨[], er, rfl, h, ho⟩

set_option maxHeartbeats 4000000 in
theorem rencode_any (co lo : Option Addr) (n cc m lc : Nat) (cs : List Cv) (vs : List Vv) (w : World) (hT : UTab w) (hc : SlCs w co cs) (hv : SlV w lo vs) (hn : n = cs.length) (hm : m = vs.length) :
    Calls Tryd.prog 12 #[.slice co n cc, .slice lo m lc] w fun e w' => REncPost cs (vs.map Vv.vl) w e w' := by
  have HV := Lib.hid hv
  have HM := Lib.hid hm
  have HF := Lib.hid (wfits_any co lo n cc m lc cs vs w hT hc hv hn hm)
  obtain ⟨er, her⟩ : ∃ er, rfits cs (vs.map Vv.vl) = er := ⟨_, rfl⟩
  rw [her] at HF
  have HER := Lib.hid her
  clear hT hc hv hn hm her
  go_enter Tryd.func12, Tryd.ntmps12
  go_wp2_with fail
  refine HF.out.mono ?_
  rintro e w1 ⟨rfl, h1⟩
  have H1 := Lib.hid h1
  clear h1 HF
  by_cases h0 : er = 0
  · subst h0
    obtain ⟨f1, f2, f3⟩ := rfits_ok HER.out
    have f4 := colsB_iff.1 f1
    have f5 := fitsL_ok f2 f3
    rw [List.length_map] at f2
    have HLA := Lib.hid (lay_any lo m lc vs w1 (HV.out.keep H1.out) HM.out (by rw [HM.out]; omega) (fun v hv => f5 _ (List.mem_map.2 ⟨v, hv, rfl⟩)))
    obtain ⟨S, hS⟩ : ∃ S : ByteArray, (⟨(rowS (vs.map Vv.vl)).toArray⟩ : ByteArray) = S := ⟨_, rfl⟩
    rw [hS] at HLA
    have HSE : Hid (S.toList = rowS (vs.map Vv.vl)) := Lib.hid (by rw [← hS, ba_mk1])
    have HSS := Lib.hid hS
    clear f1 f2 f3 f4 f5 hS
    go_wp2_with fail
    refine HLA.out.mono ?_
    rintro e w2 ⟨rfl, h2⟩
    have H2 := Lib.hid (H1.out.trans h2 (fun _ _ h => h))
    clear h2 HLA
    have HZ : Hid (S.size = (rowS (vs.map Vv.vl)).length) := Lib.hid (by rw [← ba_size, HSE.out])
    by_cases h5 : 512 < S.size
    · have hI : (512 : Int) < (S.size : Int) := by omega
      have HE : Hid (([], 7) = rencE cs (vs.map Vv.vl)) := Lib.hid (by unfold rencE; rw [if_neg (by rw [HER.out]; simp), if_pos (by rw [← HZ.out]; exact h5)])
      clear h5
      go_wp2_with fail
      go_ret2
      exact renc_none HE.out H2.out
    · have hI : ¬ (512 : Int) < (S.size : Int) := by omega
      have HE : Hid ((rowS (vs.map Vv.vl), 0) = rencE cs (vs.map Vv.vl)) := Lib.hid (by unfold rencE; rw [if_neg (by rw [HER.out]; simp), if_neg (by rw [← HZ.out]; exact h5)])
      clear h5
      go_wp2_with fail
      go_ret2
      exact ⟨_, 0, by rw [HSS.out]; rfl, HE.out, H2.out⟩
  · have hne : (er != 0) = true := by simpa using h0
    have HE : Hid (([], er) = rencE cs (vs.map Vv.vl)) := Lib.hid (by unfold rencE; rw [if_pos (by rw [HER.out]; exact h0), HER.out])
    clear h0
    go_wp2_with fail
    go_ret2
    exact renc_none HE.out H1.out

theorem back_cols (g off n c q : Nat) (hq : q ≤ n) (hc : n ≤ c) (W : World) : ∃ off', (Instr.slice 33 (.slice (some ⟨g, off, none⟩) n c) (some (.int .i64 (q : Int))) none none).run Tryd.prog W = .ok (.slice (some ⟨g, off', none⟩) (n - q) (c - q)) W ∧ (q < n → off' = off + q * 7) := by
  have h0 := Tryd.infoCol
  cases hi : Tryd.prog.info? 67 with
  | none => rw [hi] at h0; simp at h0
  | some i =>
    rw [hi] at h0
    have hs : i.size = 7 := by simp at h0; exact h0.2
    have hb : (Instr.sliceBounds true n c (some (.int .i64 (q : Int))) none none).run Tryd.prog W = .ok (q, n, c) W := by
      simp [Instr.sliceBounds, run_sliceBound, (by omega : (0 : Int) ≤ q), (by omega : (q : Int) ≤ c), (by omega : (q : Int) ≤ n), (by omega : (n : Int) ≤ c)]
    by_cases h : q < c
    · refine ⟨off + q * 7, ?_, fun _ => rfl⟩
      simp only [Instr.slice, Sem.run_bind, run_underlying Tryd.underlying33, Result.andThen, hb]
      simp [sizeOf, typeInfo, hi, hs, Addr.add, h]
      rw [if_neg (by omega)]
      split
      · rename_i h7; simp [h7]
      · rfl
    · refine ⟨off, ?_, fun e => by omega⟩
      simp only [Instr.slice, Sem.run_bind, run_underlying Tryd.underlying33, Result.andThen, hb]
      simp [sizeOf, typeInfo, hi, hs, Addr.add, h]
      intros
      omega
theorem SlCs.back {w : World} {g off off' q : Nat} {cs : List Cv} (h : SlCs w (some ⟨g, off, none⟩) cs) (ho : q < cs.length → off' = off + q * 7) : SlCs w (some ⟨g, off', none⟩) (cs.drop q) := fun j hj => by
  have hj2 : q + j < cs.length := by simp at hj; omega
  obtain ⟨g2, off2, h1, h2⟩ := h (q + j) hj2
  simp only [Option.some.injEq, Addr.mk.injEq, and_true] at h1
  obtain ⟨rfl, rfl⟩ := h1
  refine ⟨g, off', rfl, ?_⟩
  rw [ho (by omega), show (cs.drop q).getD j default = cs.getD (q + j) default by simp [List.getD_eq_getElem?_getD, List.getElem?_drop]]
  rw [show off + q * 7 + j * 7 = off + (q + j) * 7 by omega]
  exact h2

def RDecPost (cs : List Cv) (s : List UInt8) (w : World) (e : Ending) (w' : World) : Prop :=
  ∃ (lv : Value) (vs : List Vv) (er : Int), e = .returned (.tuple #[lv, .int .i64 er]) ∧ (vs.map Vv.vl, er) = rdec cs s ∧ (∀ v ∈ vs, U64 v.N) ∧ Own w w' (RowV 42 3 lv vs.length (vcells vs))
theorem rdec_none {cs : List Cv} {s : List UInt8} {w w' : World} {er : Int} (h : ([], er) = rdec cs s) (ho : Only (fun _ => False) w w') : RDecPost cs s w (.returned (.tuple #[.slice none 0 0, .int .i64 er])) w' :=
  ⟨_, [], er, rfl, h, (fun v hv => by cases hv), ⟨fun _ => False, RowV.nil _ _ _, (fun k hk => hk.elim), ho⟩⟩
theorem def_small {c : Cv} (h : c.E = 0) : c.dS.size ≤ 64 := by
  have h1 := (fit_zero (col_zero h).2.2).1
  rcases ok_kinds h1 with ⟨_, _, e⟩ | ⟨_, e⟩ | ⟨_, _, e⟩ | ⟨_, _, e⟩
  · have h2 : c.dS.toList.length = 0 := congrArg List.length e
    rw [ba_size] at h2
    omega
  · have h2 : c.dS.toList.length = 0 := congrArg List.length e
    rw [ba_size] at h2
    omega
  · have h2 : c.dS.toList.length = 0 := congrArg List.length e
    rw [ba_size] at h2
    omega
  · rw [ba_size] at e; exact e
theorem own_rowShape {w0 w : World} {lv : Value} {n : Nat} {xs : List Value} {J : Res} (h : Own w0 w (RowV 42 3 lv n xs)) : ∃ ao c, lv = .slice ao n c ∧ Shp ao n c := by
  obtain ⟨F, ⟨hown, _⟩, _, _⟩ := h
  rcases hown.2 with ⟨rfl, h0⟩ | ⟨g, cap, cur, rfl, _, hg, hc, hm, hs, ht⟩
  · exact ⟨none, 0, by rw [h0], .inl ⟨rfl, h0, rfl⟩⟩
  · exact ⟨_, cap, rfl, .inr ⟨_, rfl, hc⟩⟩

set_option maxHeartbeats 8000000 in
theorem rdecode_any (co : Option Addr) (n cc : Nat) (cs : List Cv) (s : ByteArray) (w : World) (hT : UTab w) (hc : SlCs w co cs) (hn : n = cs.length) (hsh : Shp co n cc) :
    Calls Tryd.prog 14 #[.slice co n cc, .string s] w fun e w' => RDecPost cs s.toList w e w' := by
  have HT := Lib.hid hT
  have HC := Lib.hid hc
  have HN := Lib.hid hn
  have HSH := Lib.hid hsh
  have HCO := Lib.hid (arecols_any co n cc cs w hT hc hn)
  obtain ⟨B, hB⟩ : ∃ B, colsB cs = B := ⟨_, rfl⟩
  rw [hB] at HCO
  have HB := Lib.hid hB
  clear hT hc hn hB hsh
  cases B with
  | false =>
    have HE : Hid (([], 1) = rdec cs s.toList) := Lib.hid (by unfold rdec; rw [if_pos HB.out])
    go_enter Tryd.func14, Tryd.ntmps14
    go_wp2_with fail
    refine HCO.out.mono ?_
    rintro e w1 ⟨rfl, h1⟩
    have H1 := Lib.hid h1
    clear h1 HCO
    go_wp2_with fail
    go_ret2
    exact rdec_none HE.out H1.out
  | true =>
    have HCB := Lib.hid (colsB_iff.1 HB.out)
    go_enter Tryd.func14, Tryd.ntmps14
    go_wp2_with fail
    refine HCO.out.mono ?_
    rintro e w1 ⟨rfl, h1⟩
    have H1 := Lib.hid h1
    clear h1 HCO
    have HRD := Lib.hid (wread_any co n cc cs s w1 (HT.out.keep (only_bw H1.out)) (HC.out.keep H1.out) HN.out HSH.out HCB.out.2.2 HCB.out.2.1)
    go_wp2_with fail
    refine HRD.out.mono ?_
    rintro e w2 ⟨lv, vs, ok, rfl, hrd, hu, h2⟩
    have HRE := Lib.hid hrd
    have HU := Lib.hid hu
    have H2 : Hid (Own w w2 (RowV 42 3 lv vs.length (vcells vs))) := Lib.hid (by
      obtain ⟨F, q1, q2, q3⟩ := h2
      exact ⟨F, q1, fun k hk => Nat.le_trans H1.out.size (q2 k hk), H1.out.trans q3 (fun _ _ h => h)⟩)
    clear hrd hu h2 HRD
    cases ok with
    | false =>
      have HE : Hid (([], 2) = rdec cs s.toList) := Lib.hid (by
        unfold rdec
        rw [if_neg (by rw [HB.out]; decide), HRE.out]
        rfl)
      obtain ⟨ao, c5, rfl, _⟩ := own_rowShape (J := Emp) H2.out
      go_wp2_with fail
      go_ret2
      exact rdec_none HE.out H2.out.only
    | true =>
      have hre := HRE.out
      rw [if_pos rfl] at hre
      obtain ⟨q1, q2, q3, q4, q5, q6⟩ := row_readR HCB.out.2.2 HCB.out.2.1 hre
      rw [List.length_map] at q2 q3
      obtain ⟨q, hq⟩ : ∃ q, q = vs.length := ⟨_, rfl⟩
      rw [← hq] at q2 q3
      have HQ := Lib.hid hq
      have HQN : Hid (1 ≤ q ∧ q ≤ n ∧ n ≤ 24 ∧ n ≤ cc) := Lib.hid ⟨q2, by rw [HN.out]; exact q3, by rw [HN.out]; exact HCB.out.2.1, HSH.out.le⟩
      have HE : Hid ((vs.map Vv.vl ++ (cs.drop q).map (fun c => c.d.vl), 0) = rdec cs s.toList) := Lib.hid (by
        unfold rdec
        rw [if_neg (by rw [HB.out]; decide), hre]
        simp only [List.length_map]
        rw [hq])
      have H2' := H2.out
      rw [← hq] at H2'
      obtain ⟨ao, c5, rfl, _⟩ := own_rowShape (J := Emp) H2'
      have HO := Lib.hid H2'
      obtain ⟨g, off, rfl, _⟩ := HC.out 0 (by have := HCB.out.1; omega)
      obtain ⟨off', hsl, hoff⟩ := back_cols g off n cc q HQN.out.2.1 HQN.out.2.2.2 w2
      have HCT : Hid (SlCs w (some ⟨g, off', none⟩) (cs.drop q) ∧ (cs.drop q).length = n - q ∧ ∀ c ∈ cs.drop q, c.E = 0) := Lib.hid ⟨HC.out.back (by rw [← HN.out]; exact hoff), by rw [List.length_drop, HN.out], fun c hc => HCB.out.2.2 c (List.mem_of_mem_drop hc)⟩
      obtain ⟨t, ht⟩ : ∃ t, t = n - q := ⟨_, rfl⟩
      rw [← ht] at hsl HCT
      have ht24 : t ≤ 24 := by have := HQN.out; omega
      have hq24 : q ≤ 24 := by have := HQN.out; omega
      generalize cs.drop q = ct at *
      obtain ⟨D, hD⟩ : ∃ D, D = ct.map Cv.d := ⟨_, rfl⟩
      have HD := Lib.hid hD
      have HDU : Hid (∀ v ∈ D, U64 v.N) := Lib.hid (fun v hv => by
        rw [hD] at hv
        obtain ⟨c, hc, rfl⟩ := List.mem_map.1 hv
        exact HCT.out.1.u64 c hc)
      have HDL : Hid (D.length = t) := Lib.hid (by rw [hD, List.length_map, HCT.out.2.1])
      clear hre q1 q2 q3 q4 q5 q6 hq H2 H2' hoff ht hD HRE HCB HC HN HQN HSH
      go_wp2_with fail
      clear hsl
      go_loopw [6, 9, 10, 27] (fun lv _ _ i wr => ∃ (k : Nat) (lo : Option Addr) (lc : Nat), k ≤ t ∧ i = .int .i64 (k : Int) ∧ lv = .slice lo (q + k) lc ∧ Hid (Own w wr (RowV 42 3 (.slice lo (q + k) lc) (q + k) (vcells (vs ++ D.take k))))) (fun _ _ _ i _ => t - (intOf i).toNat)
      case atStart => exact ⟨0, ao, c5, Nat.zero_le _, rfl, rfl, Lib.hid (by rw [List.take_zero, List.append_nil, Nat.add_zero]; exact HO.out)⟩
      case round =>
        clear HO
        obtain ⟨k, lo, lc, hk, rfl, rfl, HO⟩ := hrel
        by_cases hlt : k < t
        · have HKL : Hid (k < ct.length) := Lib.hid (by rw [HCT.out.2.1]; exact hlt)
          obtain ⟨g2, off2, hgo, hca⟩ := (HCT.out.1.keep HO.out.only) k HKL.out
          simp only [Option.some.injEq, Addr.mk.injEq, and_true] at hgo
          obtain ⟨rfl, rfl⟩ := hgo
          obtain ⟨c, hce⟩ : ∃ c, ct.getD k default = c := ⟨_, rfl⟩
          rw [hce] at hca
          have HDS : Hid (c.dS.size ≤ 64) := Lib.hid (def_small (HCT.out.2.2 c (by rw [← hce]; have := HKL.out; simp [this])))
          have HDK : Hid (D.take (k + 1) = D.take k ++ [c.d]) := Lib.hid (by
            have h1 := HKL.out
            rw [List.take_succ_eq_append_getElem (by rw [HDL.out]; exact hlt)]
            congr 2
            rw [List.getElem_of_eq HD.out, List.getElem_map, ← hce]
            simp [h1])
          obtain ⟨y0, y1, y2, y3, y4, y5, y6, hu⟩ := hca
          have HA := Lib.hid ((HO.out.alloc (.cells #[.string c.nm, .int .i64 c.K, .int .i64 c.M, .bool c.nu, .int .i64 c.dK, .int .u64 c.dN, .string c.dS] 67)).alloc (.cells #[.int .i64 c.dK, .int .u64 c.dN, .string c.dS] 42))
          have hltI : (k : Int) < (t : Int) := by omega
          have hk0 : (0 : Int) ≤ (k : Int) := by omega
          clear hce hu HO
          go_upto_region 10 with fail
          rw [World.size_alloc] at HA
          generalize (wr.alloc (.cells #[.string c.nm, .int .i64 c.K, .int .i64 c.M, .bool c.nu, .int .i64 c.dK, .int .u64 c.dN, .string c.dS] 67)).alloc (.cells #[.int .i64 c.dK, .int .u64 c.dN, .string c.dS] 42) = w3 at *
          generalize wr.heap.size + 1 = vb at *
          obtain ⟨x0, x1, x2, e0, e1, e2⟩ := blk_cells3 HA.out.held
          clear y0 y1 y2 y3 y4 y5 y6
          go_wp2_with fail
          refine (sclone_any c.dS w3 (by have := HDS.out; omega)).mono ?_
          rintro e w4 ⟨rfl, hb4⟩
          have HA4 := HA.out.quiet (below_quiet hb4)
          have HB4 := Lib.hid HA4
          have HS4 := Lib.hid (HA4.store 2 (.string c.dS))
          rw [show (#[Value.int .i64 c.dK, .int .u64 c.dN, .string c.dS] : Array Value).setIfInBounds 2 (.string c.dS) = #[.int .i64 c.dK, .int .u64 c.dN, .string c.dS] from rfl] at HS4
          obtain ⟨x0, x1, x2, e0, e1, e2⟩ := blk_cells3 HB4.out.held
          clear hb4 HA HA4
          go_upto_region 11 with fail
          generalize w4.setCell ⟨vb, 2, none⟩ (.string c.dS) = w5 at *
          clear x0 x1 x2 e0 e1 e2 HB4
          obtain ⟨x0, x1, x2, e0, e1, e2⟩ := blk_cells3 HS4.out.held
          have hbs := fun w => run_buildSlice_one (P := Tryd.prog) w 22 42 _ 3 Tryd.underlying22 Tryd.infoVal rfl (by decide) (by decide) #[.int .i64 c.dK, .int .u64 c.dN, .string c.dS] rfl
          obtain ⟨i0, hi0, hz0, hz1, hz2⟩ := info_parts Tryd.infoVal3
          have H5 := HS4.out.snd.comm
          have HRW := Lib.hid (H5.fst.imp (fun F h => h))
          have HRO := Lib.hid ((Own.owns H5).alloc (.cells #[.int .i64 c.dK, .int .u64 c.dN, .string c.dS] 42))
          have HA := Lib.hid ((H5.alloc (.cells #[.int .i64 c.dK, .int .u64 c.dN, .string c.dS] 42)).snd)
          have HVC := Lib.hid (vcells_snoc (vs ++ D.take k) c.d)
          have HVN : Hid ((vcells (vs ++ D.take k)).length = (q + k) * 3) := Lib.hid (by rw [vcells_length, List.length_append, ← HQ.out, List.length_take, HDL.out]; omega)
          clear H5
          go_wp2_with (first | (at_builtin; refine wpList_append_lies _ rfl (.tmp 37) (.tmp 39) 22 rfl 0 42 i0 _ 3 32 Tryd.underlying22 hi0 hz0 hz1 hz2 rfl (by decide) (.slice lo (q + k) lc) (q + k) (vcells (vs ++ D.take k)) rfl HRO.out ⟨w5.heap.size, 0, none⟩ 1 1 [.int .i64 c.dK, .int .u64 c.dN, .string c.dS] rfl rfl (World.news_of_block (heap_alloc_new w5 _)) ?_ Nat.zero_lt_one ?_ ?_ (Nat.zero_le _) (w5.heap.size + 1) ?_ ?_))
          any_goals (first | exact ⟨rfl, rfl, rfl⟩ | exact vcells_one [c.d] | (unfold maxLen; omega) | omega | (simp; done))
          intro g3 cap3 w6 hown hgrow hat hlt5
          have h5 := HA.out.appended hown hgrow (hat.imp (fun h => h) (fun h => by simp; omega))
          rw [show (vcells (vs ++ D.take k)) ++ [.int .i64 c.dK, .int .u64 c.dN, .string c.dS] = vcells (vs ++ D.take (k + 1)) by rw [HDK.out, ← List.append_assoc]; exact HVC.out.symm] at h5
          have H6 := Lib.hid h5.fst
          clear hown hgrow hat hlt5 h5 HA HRW HRO hi0 hz0 hz1 hz2 hbs x0 x1 x2 e0 e1 e2
          go_wp2_with fail
          go_roundw
          case rel => exact ⟨k + 1, some ⟨g3, 0, none⟩, cap3, by omega, by go_num, rfl, H6⟩
          case measure => simp [intOf]; omega
        · obtain rfl : k = t := by omega
          have hltI : ¬ (k : Int) < (k : Int) := by omega
          have HDT : Hid (D.take k = D) := Lib.hid (List.take_of_length_le (by rw [HDL.out]; exact Nat.le_refl _))
          rw [HDT.out] at HO
          go_wp2_with fail
          go_ret2
          refine ⟨_, vs ++ D, 0, rfl, ?_, ?_, ?_⟩
          · rw [← HE.out, List.map_append, HD.out, List.map_map]
            rfl
          · intro v hv
            rcases List.mem_append.1 hv with hv | hv
            · exact HU.out v hv
            · exact HDU.out v hv
          · rw [show (vs ++ D).length = q + k by rw [List.length_append, ← HQ.out, HDL.out]]
            exact HO.out

end Go.Proofs.YtgkcflindenboaaDoor

namespace Go.Proofs.YtgkcflindenboaaDoor
open Go Go.RowKit
set_option linter.unusedVariables false
set_option linter.unusedSimpArgs false
set_option maxRecDepth 100000
set_option linter.unusedSimpArgs false
set_option maxRecDepth 100000

theorem aw_enc : encE [⟨5, 0, [97]⟩, ⟨3, 1, []⟩] [false, true] = ([1, 97, 0, 0, 254, 254], 0) := by decide +kernel
theorem aw_dec : decE [5, 3] [false, true] [1, 97, 0, 0, 254, 254] = ([⟨5, 0, [97]⟩, ⟨3, 1, []⟩], 0) := by decide +kernel
theorem aw_aft : hiL [97, 255] = [98] ∧ opL [97, 255] = false := by decide +kernel
theorem aw_in : inL [97] [99] false [98] = true := by decide +kernel

theorem slv_two {w : World} {g : Nat} {a b : Vv} {t : TypeId} (h : w.heap[g]? = some (.cells #[.int .i64 a.K, .int .u64 a.N, .string a.S, .int .i64 b.K, .int .u64 b.N, .string b.S] t (0, 0))) (ha : U64 a.N) (hb : U64 b.N) : SlV w (some ⟨g, 0, none⟩) [a, b] := by
  intro j hj
  simp only [List.length_cons, List.length_nil] at hj
  have : j = 0 ∨ j = 1 := by omega
  rcases this with rfl | rfl
  · exact ⟨g, 0, rfl, by simp [World.cell?, h], by simp [World.cell?, h], by simp [World.cell?, h], ha⟩
  · exact ⟨g, 0, rfl, by simp [World.cell?, h], by simp [World.cell?, h], by simp [World.cell?, h], hb⟩
theorem slbo_two {w : World} {g : Nat} {a b : Bool} {t : TypeId} (h : w.heap[g]? = some (.cells #[.bool a, .bool b] t (0, 0))) : SlBo w (some ⟨g, 0, none⟩) [a, b] := by
  intro j hj
  simp only [List.length_cons, List.length_nil] at hj
  have : j = 0 ∨ j = 1 := by omega
  rcases this with rfl | rfl
  · exact ⟨g, 0, rfl, by simp [World.cell?, h]⟩
  · exact ⟨g, 0, rfl, by simp [World.cell?, h]⟩
theorem sli_two {w : World} {g : Nat} {a b : Int} {t : TypeId} (h : w.heap[g]? = some (.cells #[.int .i64 a, .int .i64 b] t (0, 0))) : SlI w (some ⟨g, 0, none⟩) [a, b] := by
  intro j hj
  simp only [List.length_cons, List.length_nil] at hj
  have : j = 0 ∨ j = 1 := by omega
  rcases this with rfl | rfl
  · exact ⟨g, 0, rfl, by simp [World.cell?, h]⟩
  · exact ⟨g, 0, rfl, by simp [World.cell?, h]⟩
theorem two_rows (w : World) (a b : Array Value) (s t : TypeId) :
    ((w.alloc (.cells a s)).alloc (.cells b t)).heap[w.heap.size]? = some (.cells a s (0, 0)) ∧ ((w.alloc (.cells a s)).alloc (.cells b t)).heap[w.heap.size + 1]? = some (.cells b t (0, 0)) := by
  constructor
  · rw [Below.heap_alloc _ _ _ (by simp)]
    exact heap_alloc_new w _
  · have := heap_alloc_new (w.alloc (.cells a s)) (.cells b t)
    simpa using this
theorem only_two (w : World) (a b : Obj) : Only (fun _ => False) w ((w.alloc a).alloc b) := ((Only.refl _ w).alloc a).alloc b
theorem only_b {w w' : World} (h : Only (fun _ => False) w w') : Below w.heap.size w w' := h.below (Nat.le_refl _) (fun _ h => h.elim)
theorem str_of {s : List UInt8} {t : ByteArray} (h : s = t.toList) : (⟨s.toArray⟩ : ByteArray) = t := ba_eq (by rw [ba_mk1, h])

theorem aw_encode (w : World) (hT : UTab w) :
    Calls Tryd.prog 6 #[.slice (some ⟨w.heap.size, 0, none⟩) 2 2, .slice (some ⟨w.heap.size + 1, 0, none⟩) 2 2] ((w.alloc (.cells #[.int .i64 5, .int .u64 0, .string ⟨#[97]⟩, .int .i64 3, .int .u64 1, .string ⟨#[]⟩] 42)).alloc (.cells #[.bool false, .bool true] 4)) fun e w' =>
      e = .returned (.tuple #[.string ⟨#[1, 97, 0, 0, 254, 254]⟩, .int .i64 0]) ∧ Below w.heap.size w w' := by
  obtain ⟨h1, h2⟩ := two_rows w #[.int .i64 5, .int .u64 0, .string ⟨#[97]⟩, .int .i64 3, .int .u64 1, .string ⟨#[]⟩] #[.bool false, .bool true] 42 4
  have ho := only_two w (.cells #[.int .i64 5, .int .u64 0, .string ⟨#[97]⟩, .int .i64 3, .int .u64 1, .string ⟨#[]⟩] 42) (.cells #[.bool false, .bool true] 4)
  refine (encode_any (some ⟨w.heap.size, 0, none⟩) (some ⟨w.heap.size + 1, 0, none⟩) 2 2 2 2 [⟨5, 0, ⟨#[97]⟩⟩, ⟨3, 1, ⟨#[]⟩⟩] [false, true] _ (hT.keep (only_b ho)) (slv_two h1 ⟨by decide, by decide⟩ ⟨by decide, by decide⟩) (slbo_two h2) rfl rfl (by decide)).mono ?_
  rintro e w' ⟨s, er, rfl, he, hq⟩
  rw [show (([⟨5, 0, ⟨#[97]⟩⟩, ⟨3, 1, ⟨#[]⟩⟩] : List Vv).map Vv.vl) = [⟨5, 0, [97]⟩, ⟨3, 1, []⟩] from by
    show ([⟨5, 0, (ByteArray.mk #[97]).toList⟩, ⟨3, 1, (ByteArray.mk #[]).toList⟩] : List Vl) = _
    rw [ba_nil, show (ByteArray.mk #[97]).toList = [97] from ByteArray.toList_mk [97]], aw_enc] at he
  simp only [Prod.mk.injEq] at he
  obtain ⟨rfl, rfl⟩ := he
  exact ⟨rfl, only_b (ho.trans hq (fun _ _ h => h))⟩
theorem aw_decode (w : World) (hT : UTab w) :
    Calls Tryd.prog 8 #[.slice (some ⟨w.heap.size, 0, none⟩) 2 2, .slice (some ⟨w.heap.size + 1, 0, none⟩) 2 2, .string ⟨#[1, 97, 0, 0, 254, 254]⟩] ((w.alloc (.cells #[.int .i64 5, .int .i64 3] 3)).alloc (.cells #[.bool false, .bool true] 4)) fun e w' =>
      ∃ g c, e = .returned (.tuple #[.slice (some ⟨g, 0, none⟩) 2 c, .int .i64 0]) ∧ w'.cell? ⟨g, 4, none⟩ = some (.int .u64 1) ∧ Below w.heap.size w w' := by
  obtain ⟨h1, h2⟩ := two_rows w #[.int .i64 5, .int .i64 3] #[.bool false, .bool true] 3 4
  have ho := only_two w (.cells #[.int .i64 5, .int .i64 3] 3) (.cells #[.bool false, .bool true] 4)
  refine (decode_any (some ⟨w.heap.size, 0, none⟩) (some ⟨w.heap.size + 1, 0, none⟩) 2 2 2 2 [5, 3] [false, true] ⟨#[1, 97, 0, 0, 254, 254]⟩ _ (hT.keep (only_b ho)) (sli_two h1) (slbo_two h2) rfl rfl (by decide)).mono ?_
  rintro e w' ⟨lv, vs, er, rfl, he, _, hq⟩
  rw [show (ByteArray.mk #[1, 97, 0, 0, 254, 254]).toList = [1, 97, 0, 0, 254, 254] from ByteArray.toList_mk [1, 97, 0, 0, 254, 254], aw_dec] at he
  simp only [Prod.mk.injEq] at he
  obtain ⟨hv, rfl⟩ := he
  have hlen : vs.length = 2 := by simpa using congrArg List.length hv
  match vs, hlen, hv, hq with
  | [a, b], _, hv, hq =>
    simp only [List.map_cons, List.map_nil, List.cons.injEq, Vl.mk.injEq, and_true] at hv
    obtain ⟨F, ⟨hown, _⟩, _, hout⟩ := hq
    have hbN : b.N = 1 := by omega
    rcases hown.2 with ⟨_, h0⟩ | ⟨g, cap, cur, rfl, _, hg, hc, hm, hs, ht⟩
    · simp at h0
    · refine ⟨g, cap, rfl, ?_, only_b (ho.trans hout (fun _ _ h => h))⟩
      have := hown.cellAt 4 (by simp [vcells])
      rw [this]
      simp [vcells, hbN]

set_option maxHeartbeats 4000000 in
theorem kawake_any (w : World) (hT : UTab w) : Calls Tryd.prog 5 #[] w fun e w' => e = .returned (.bool true) ∧ Below w.heap.size w w' := by
  have HT := Lib.hid hT
  clear hT
  go_enter Tryd.func5, Tryd.ntmps5
  go_wp2_with fail
  refine (aw_encode w HT.out).mono ?_
  rintro e w1 ⟨rfl, hb1⟩
  have H1 := Lib.hid hb1
  clear hb1
  go_wp2_with fail
  refine (aw_decode w1 (HT.out.keep H1.out)).mono ?_
  rintro e w2 ⟨g, c, rfl, hc, hb2⟩
  have H2 := Lib.hid (H1.out.trans (hb2.mono H1.out.size))
  have HC := Lib.hid hc
  clear hb2 hc
  go_wp2_with fail
  refine (after_any ⟨#[97, 255]⟩ w2 (by decide)).mono ?_
  rintro e w3 ⟨t, rfl, ht, hb3⟩
  rw [show (ByteArray.mk #[97, 255]).toList = [97, 255] from ByteArray.toList_mk [97, 255]] at ht ⊢
  rw [aw_aft.1] at ht
  rw [aw_aft.2]
  obtain rfl : t = ⟨#[98]⟩ := ba_eq (by rw [ht]; exact (ByteArray.toList_mk [98]).symm)
  have hc := keep0 HC.out hb3
  have H3 := Lib.hid (H2.out.trans (hb3.mono H2.out.size))
  clear hb3 ht
  go_wp2_with fail
  refine (in_any ⟨#[97]⟩ ⟨#[99]⟩ ⟨#[98]⟩ false w3).mono ?_
  rintro e w4 ⟨rfl, hb4⟩
  rw [show (ByteArray.mk #[97]).toList = [97] from ByteArray.toList_mk [97], show (ByteArray.mk #[99]).toList = [99] from ByteArray.toList_mk [99], show (ByteArray.mk #[98]).toList = [98] from ByteArray.toList_mk [98], aw_in]
  have H4 := Lib.hid (H3.out.trans (hb4.mono H3.out.size))
  clear hb4 hc
  go_wp2
  go_ret
  exact ⟨rfl, H4.out⟩

end Go.Proofs.YtgkcflindenboaaDoor

namespace Go.Proofs.YtgkcflindenboaaDoor
open Go Go.RowKit
set_option linter.unusedVariables false
set_option linter.unusedSimpArgs false
set_option maxRecDepth 100000
set_option linter.unusedSimpArgs false
set_option maxRecDepth 100000

def twoC : List Cv := [⟨⟨#[97]⟩, 1, 0, false, 1, 0, ⟨#[]⟩⟩, ⟨⟨#[116]⟩, 5, 4, true, 0, 0, ⟨#[]⟩⟩]
def twoCells : Array Value := #[.string ⟨#[97]⟩, .int .i64 1, .int .i64 0, .bool false, .int .i64 1, .int .u64 0, .string ⟨#[]⟩, .string ⟨#[116]⟩, .int .i64 5, .int .i64 4, .bool true, .int .i64 0, .int .u64 0, .string ⟨#[]⟩]
theorem twoC_ok : colsB twoC = true := by
  refine colsB_iff.2 ⟨by decide, by decide, fun c hc => ?_⟩
  simp only [twoC, List.mem_cons, List.not_mem_nil, or_false] at hc
  rcases hc with rfl | rfl
  · unfold Cv.E
    show colE (ByteArray.mk #[97]).toList 1 0 false ⟨1, 0, (ByteArray.mk #[]).toList⟩ = 0
    rw [ba_nil, show (ByteArray.mk #[97]).toList = [97] from ByteArray.toList_mk [97]]
    decide +kernel
  · unfold Cv.E
    show colE (ByteArray.mk #[116]).toList 5 4 true ⟨0, 0, (ByteArray.mk #[]).toList⟩ = 0
    rw [ba_nil, show (ByteArray.mk #[116]).toList = [116] from ByteArray.toList_mk [116]]
    decide +kernel
theorem aw_renc : rencE twoC [⟨1, 1, []⟩, ⟨5, 0, [120]⟩] = ([2, 0, 0, 0, 0, 0, 0, 0, 0, 1, 0, 0, 1, 120], 0) := by
  have hf : fitsL twoC [⟨1, 1, []⟩, ⟨5, 0, [120]⟩] = 0 := by decide +kernel
  have h0 : rfits twoC [⟨1, 1, []⟩, ⟨5, 0, [120]⟩] = 0 := by
    unfold rfits
    rw [if_neg, hf]
    rintro (h | h)
    · rw [twoC_ok] at h; cases h
    · exact h rfl
  unfold rencE
  rw [if_neg (by rw [h0]; simp), if_neg (by decide +kernel)]
  decide +kernel
theorem aw_rdec : rdec twoC [1, 0, 0, 0, 0, 0, 0, 0, 0, 1] = ([⟨1, 1, []⟩, ⟨0, 0, []⟩], 0) := by
  have h1 : readR twoC [1, 0, 0, 0, 0, 0, 0, 0, 0, 1] = some [⟨1, 1, []⟩] := by decide +kernel
  unfold rdec
  rw [if_neg (by rw [twoC_ok]; decide), h1]
  show ([⟨1, 1, []⟩] ++ [(⟨0, 0, (ByteArray.mk #[]).toList⟩ : Vl)], (0 : Int)) = _
  rw [ba_nil]
  rfl
theorem slcs_two {w : World} {g : Nat} {t : TypeId} (h : w.heap[g]? = some (.cells twoCells t (0, 0))) : SlCs w (some ⟨g, 0, none⟩) twoC := fun j hj => by
  have hj2 : j = 0 ∨ j = 1 := by simp [twoC] at hj; omega
  rcases hj2 with rfl | rfl
  · exact ⟨g, 0, rfl, by simp [World.cell?, h, twoC, twoCells], by simp [World.cell?, h, twoC, twoCells], by simp [World.cell?, h, twoC, twoCells], by simp [World.cell?, h, twoC, twoCells], by simp [World.cell?, h, twoC, twoCells], by simp [World.cell?, h, twoC, twoCells], by simp [World.cell?, h, twoC, twoCells], ⟨by simp [twoC], by simp [twoC]⟩⟩
  · exact ⟨g, 0, rfl, by simp [World.cell?, h, twoC, twoCells], by simp [World.cell?, h, twoC, twoCells], by simp [World.cell?, h, twoC, twoCells], by simp [World.cell?, h, twoC, twoCells], by simp [World.cell?, h, twoC, twoCells], by simp [World.cell?, h, twoC, twoCells], by simp [World.cell?, h, twoC, twoCells], ⟨by simp [twoC], by simp [twoC]⟩⟩
set_option maxHeartbeats 1000000 in
theorem rtwo_any (w : World) : Calls Tryd.prog 31 #[] w fun e w' => e = .returned (.slice (some ⟨w.heap.size, 0, none⟩) 2 2) ∧ w.alloc (.cells twoCells 67) = w' := by
  go_enter Tryd.func31, Tryd.ntmps31
  go_wp2_with fail
  go_ret
  exact ⟨rfl, rfl⟩

set_option maxHeartbeats 4000000 in
theorem rawake_any (w : World) (hT : UTab w) : Calls Tryd.prog 11 #[] w fun e w' => e = .returned (.bool true) ∧ Only (fun _ => False) w w' := by
  have HT := Lib.hid hT
  clear hT
  go_enter Tryd.func11, Tryd.ntmps11
  go_wp2_with fail
  refine (rtwo_any w).mono ?_
  rintro e w1 ⟨rfl, rfl⟩
  obtain ⟨h1, h2⟩ := two_rows w twoCells #[.int .i64 1, .int .u64 1, .string ⟨#[]⟩, .int .i64 5, .int .u64 0, .string ⟨#[120]⟩] 67 42
  have ho := only_two w (.cells twoCells 67) (.cells #[.int .i64 1, .int .u64 1, .string ⟨#[]⟩, .int .i64 5, .int .u64 0, .string ⟨#[120]⟩] 42)
  have hen := rencode_any (some ⟨w.heap.size, 0, none⟩) (some ⟨w.heap.size + 1, 0, none⟩) 2 2 2 2 twoC [⟨1, 1, ⟨#[]⟩⟩, ⟨5, 0, ⟨#[120]⟩⟩] _ (HT.out.keep (only_b ho)) (slcs_two h1) (slv_two h2 ⟨by simp, by simp⟩ ⟨by simp, by simp⟩) rfl rfl
  rw [show (([⟨1, 1, ⟨#[]⟩⟩, ⟨5, 0, ⟨#[120]⟩⟩] : List Vv).map Vv.vl) = [⟨1, 1, []⟩, ⟨5, 0, [120]⟩] from by
    show ([⟨1, 1, (ByteArray.mk #[]).toList⟩, ⟨5, 0, (ByteArray.mk #[120]).toList⟩] : List Vl) = _
    rw [ba_nil, show (ByteArray.mk #[120]).toList = [120] from ByteArray.toList_mk [120]]] at hen
  have HEN := Lib.hid hen
  have HO := Lib.hid ho
  clear h1 h2 ho hen
  go_wp2_with fail
  refine HEN.out.mono ?_
  rintro e w2 ⟨s, er, rfl, he, ho2⟩
  rw [aw_renc] at he
  simp only [Prod.mk.injEq] at he
  obtain ⟨rfl, rfl⟩ := he
  have H2 := Lib.hid (HO.out.trans ho2 (fun _ _ h => h))
  clear ho2 HEN HO
  go_wp2_with fail
  refine (rtwo_any w2).mono ?_
  rintro e w3 ⟨rfl, rfl⟩
  have hx := heap_alloc_new w2 (.cells twoCells 67)
  have hde := rdecode_any (some ⟨w2.heap.size, 0, none⟩) 2 2 twoC ⟨#[1, 0, 0, 0, 0, 0, 0, 0, 0, 1]⟩ (w2.alloc (.cells twoCells 67)) (HT.out.keep (only_b (H2.out.alloc _))) (slcs_two hx) rfl (.inr ⟨_, rfl, Nat.le_refl _⟩)
  rw [show (ByteArray.mk #[1, 0, 0, 0, 0, 0, 0, 0, 0, 1]).toList = [1, 0, 0, 0, 0, 0, 0, 0, 0, 1] from ByteArray.toList_mk [1, 0, 0, 0, 0, 0, 0, 0, 0, 1]] at hde
  have HDE := Lib.hid hde
  have HO3 := Lib.hid (H2.out.alloc (.cells twoCells 67))
  clear hx hde
  go_wp2_with fail
  refine HDE.out.mono ?_
  rintro e w4 ⟨lv, us, er, rfl, he, hu, hown⟩
  rw [aw_rdec] at he
  simp only [Prod.mk.injEq] at he
  obtain ⟨hv, rfl⟩ := he
  obtain ⟨ao, c5, rfl, hsl⟩ := rowV_slV hown hu
  have HO4 := Lib.hid (HO3.out.trans hown.only (fun _ _ h => h))
  clear hown HDE HO3 H2
  have hlen : us.length = 2 := by simpa using congrArg List.length hv
  match us, hlen, hv, hu, hsl with
  | [a, b], _, hv, hu, hsl =>
    simp only [List.map_cons, List.map_nil, List.cons.injEq, Vl.mk.injEq, and_true] at hv
    have ha := (hu a (by simp)).lo
    have haN : a.N = 1 := by omega
    have hbK : b.K = 0 := hv.2.1
    obtain ⟨g, off, rfl, z0, z1, z2, _⟩ := hsl 0 (by simp)
    obtain ⟨g2, off2, hgo, q0, q1, q2, _⟩ := hsl 1 (by simp)
    simp only [Option.some.injEq, Addr.mk.injEq, and_true] at hgo
    obtain ⟨rfl, rfl⟩ := hgo
    simp only [List.getD_cons_zero, List.getD_cons_succ, haN, hbK, Nat.zero_mul, Nat.one_mul, Nat.add_zero] at z1 q0
    clear hv hu hsl z0 z2 q1 q2 ha
    have e2 : ([a, b] : List Vv).length = 2 := rfl
    go_wp2_with fail
    go_ret
    exact ⟨rfl, HO4.out⟩

end Go.Proofs.YtgkcflindenboaaDoor

namespace Go.Proofs.YtgkcflindenboaaDoor
open Go Go.RowKit
set_option linter.unusedVariables false
set_option linter.unusedSimpArgs false
set_option maxRecDepth 100000
set_option linter.unusedSimpArgs false
set_option maxRecDepth 100000

theorem rvl_lt {vs : List Vv} (h : ∀ v ∈ vs, U64 v.N) : ∀ v ∈ vs.map Vv.vl, v.N < 18446744073709551616 := fun v hv => by
  obtain ⟨u, hu, rfl⟩ := List.mem_map.1 hv
  have := (h u hu).hi; have := (h u hu).lo
  show u.N.toNat < _
  omega
theorem renc_ok {cs : List Cv} {l : List Vl} {s : List UInt8} (h : (s, (0 : Int)) = rencE cs l) : rfits cs l = 0 ∧ s = rowS l ∧ s.length ≤ 512 := by
  unfold rencE at h
  by_cases h1 : rfits cs l ≠ 0
  · rw [if_pos h1] at h
    simp only [Prod.mk.injEq] at h
    exact absurd h.2.symm h1
  rw [if_neg h1] at h
  by_cases h2 : 512 < (rowS l).length
  · rw [if_pos h2] at h
    simp at h
  rw [if_neg h2] at h
  simp only [Prod.mk.injEq, and_true] at h
  exact ⟨by simpa using h1, h, by rw [h]; omega⟩
theorem row_back {cs : List Cv} {l : List Vl} (r : List UInt8) (h : rfits cs l = 0) (hN : ∀ v ∈ l, v.N < 18446744073709551616) : readR cs (rowS l ++ r) = if 512 < (rowS l ++ r).length then none else if r = [] then some l else none := by
  obtain ⟨h1, h2, h3⟩ := rfits_ok h
  obtain ⟨h4, h5, _⟩ := colsB_iff.1 h1
  refine readR_row r (by omega) (by omega) h5 ?_ hN
  rw [h2, List.take_length]
  exact h3
theorem row_back0 {cs : List Cv} {l : List Vl} (h : rfits cs l = 0) (h5 : (rowS l).length ≤ 512) (hN : ∀ v ∈ l, v.N < 18446744073709551616) : readR cs (rowS l) = some l := by
  have := row_back [] h hN
  rw [List.append_nil, if_neg (by omega), if_pos rfl] at this
  exact this
theorem row_len {cs : List Cv} {vs : List Vv} (h : rfits cs (vs.map Vv.vl) = 0) : vs.length = cs.length ∧ vs.length ≤ 24 := by
  obtain ⟨h1, h2, h3⟩ := rfits_ok h
  obtain ⟨h4, h5, _⟩ := colsB_iff.1 h1
  rw [List.length_map] at h2
  exact ⟨h2, by omega⟩
theorem row_eq {cs : List Cv} {l k : List Vl} (hl : rfits cs l = 0) (hk : rfits cs k = 0) (h5 : (rowS l).length ≤ 512) (hN : ∀ v ∈ l, v.N < 18446744073709551616) (hM : ∀ v ∈ k, v.N < 18446744073709551616) : rowS l = rowS k ↔ l = k := by
  constructor
  · intro e
    have h1 := row_back0 hl h5 hN
    rw [e] at h5 h1
    have h2 := row_back0 hk h5 hM
    rw [h1] at h2
    exact Option.some.inj h2
  · rintro rfl; rfl


end Go.Proofs.YtgkcflindenboaaDoor

namespace Go.Proofs.YtgkcflindenboaaDoor
open Go Go.RowKit
set_option linter.unusedVariables false
set_option linter.unusedSimpArgs false
set_option maxRecDepth 100000
set_option linter.unusedSimpArgs false
set_option maxRecDepth 100000

abbrev Cv.cells (c : Cv) : List Value := [.string c.nm, .int .i64 c.K, .int .i64 c.M, .bool c.nu, .int .i64 c.dK, .int .u64 c.dN, .string c.dS]
def ccells : List Cv → List Value
  | [] => []
  | c :: r => c.cells ++ ccells r
theorem ccells_append : ∀ (l k : List Cv), ccells (l ++ k) = ccells l ++ ccells k
  | [], k => rfl
  | c :: l, k => by rw [List.cons_append, ccells, ccells, ccells_append l k, List.append_assoc]
theorem ccells_length : ∀ l : List Cv, (ccells l).length = l.length * 7
  | [] => rfl
  | c :: l => by simp [ccells, ccells_length l]; omega
theorem ccells_one : ∀ (l : List Cv), ∀ u ∈ ccells l, u.oneCell' = true
  | [], u, h => by cases h
  | c :: l, u, h => by
    simp only [ccells, Cv.cells, List.cons_append, List.nil_append, List.mem_cons] at h
    rcases h with rfl | rfl | rfl | rfl | rfl | rfl | rfl | h
    · rfl
    · rfl
    · rfl
    · rfl
    · rfl
    · rfl
    · rfl
    · exact ccells_one l u h
theorem ccells_at : ∀ (l : List Cv) (j i : Nat), j < l.length → i < 7 → (ccells l)[j * 7 + i]? = (l.getD j default).cells[i]?
  | [], j, i, h, _ => by simp at h
  | c :: l, 0, i, _, hi => by
    rw [ccells, Nat.zero_mul, Nat.zero_add, List.getElem?_append_left (by simp; omega)]
    rfl
  | c :: l, j + 1, i, h, hi => by
    have ih := ccells_at l j i (by simpa using h) hi
    rw [ccells, List.getElem?_append_right (by simp; omega), List.getD_cons_succ, ← ih]
    congr 1
    simp
    omega
theorem slcs_of {w : World} {g : Nat} {cs : List Cv} (hU : ∀ c ∈ cs, U64 c.dN) (h : ∀ j u, (ccells cs)[j]? = some u → w.cell? ⟨g, j, none⟩ = some u) : SlCs w (some ⟨g, 0, none⟩) cs := fun j hj => by
  have e := fun i hi => ccells_at cs j i hj hi
  refine ⟨g, 0, rfl, ?_, ?_, ?_, ?_, ?_, ?_, ?_, hU _ (by simp [hj])⟩
  · rw [Nat.zero_add]; exact h _ _ (e 0 (by omega))
  · rw [Nat.zero_add]; exact h _ _ (e 1 (by omega))
  · rw [Nat.zero_add]; exact h _ _ (e 2 (by omega))
  · rw [Nat.zero_add]; exact h _ _ (e 3 (by omega))
  · rw [Nat.zero_add]; exact h _ _ (e 4 (by omega))
  · rw [Nat.zero_add]; exact h _ _ (e 5 (by omega))
  · rw [Nat.zero_add]; exact h _ _ (e 6 (by omega))
theorem ccells_of {w : World} {ao : Option Addr} {cs : List Cv} (h : SlCs w ao cs) : ∀ ad, ao = some ad → ∀ j u, (ccells cs)[j]? = some u → w.cell? (ad.add j) = some u := by
  rintro ad rfl j u hj
  have hl := (List.getElem?_eq_some_iff.1 hj).1
  rw [ccells_length] at hl
  obtain ⟨g, off, e, hv⟩ := h (j / 7) (by omega)
  simp only [Option.some.injEq] at e
  subst e
  rw [add_lit]
  obtain ⟨q, i, rfl, hi⟩ : ∃ q i, j = q * 7 + i ∧ i < 7 := ⟨j / 7, j % 7, by omega, by omega⟩
  rw [show (q * 7 + i) / 7 = q by omega] at hv
  rw [ccells_at cs q i (by omega) hi] at hj
  have hi' : i = 0 ∨ i = 1 ∨ i = 2 ∨ i = 3 ∨ i = 4 ∨ i = 5 ∨ i = 6 := by omega
  rw [← Nat.add_assoc]
  rcases hi' with rfl | rfl | rfl | rfl | rfl | rfl | rfl
  · rw [← Option.some.inj hj]; exact hv.c0
  · rw [← Option.some.inj hj]; exact hv.c1
  · rw [← Option.some.inj hj]; exact hv.c2
  · rw [← Option.some.inj hj]; exact hv.c3
  · rw [← Option.some.inj hj]; exact hv.c4
  · rw [← Option.some.inj hj]; exact hv.c5
  · rw [← Option.some.inj hj]; exact hv.c6
theorem Tryd.infoCol3 : (Tryd.prog.info? 67).map (fun i => (i.zero, i.size, i.bytes)) = some (some (.agg #[.string ⟨#[]⟩, .int .i64 0, .int .i64 0, .bool false, .int .i64 0, .int .u64 0, .string ⟨#[]⟩]), 7, 72) := by kernel_rfl
theorem step_cols {ops : Array Oper} {o : Oper} {a : Act} {w : World} {K : Act → World → Prop} {Q : Exit → Act → World → Prop} {E : Prop} (hgd : o.guard = none) (s x : Operand)
    (ho : o.op = .call { callee := .builtin .append, args := #[s, x], argTypes := #[33, 33] }) (hs : ∃ b, a.eval s = .slice (some ⟨b, 0, none⟩) 0 0)
    (xo : Option Addr) (k xc q : Nat) (cs : List Cv) (w0 wk : World) (hv : SlCs w0 xo cs) (hsh : Shp xo k xc) (hk : k = cs.length) (hq : q ≤ k) (hk256 : k ≤ 1048576) (h0 : Only (fun _ => False) w0 wk) (hx : a.eval x = .slice xo q xc) (h1 : Only (fun _ => False) wk w)
    (h : ∀ g cap w', SlCs w' (some ⟨g, 0, none⟩) (cs.take q) → Only (fun _ => False) wk w' → K (a.put o.dst (.slice (some ⟨g, 0, none⟩) q cap)) w') :
    if Region.wanted o (yielded ops a.tmps) = true then Oper.wp Tryd.prog o a w K Q else E := by
  obtain ⟨b, hs⟩ := hs
  obtain ⟨i0, hi0, hz0, hz1, hz2⟩ := info_parts Tryd.infoCol3
  have hl : (cs.take q).length = q := by rw [List.length_take]; omega
  refine step_fresh hgd s x _ ho 67 i0 _ 7 72 Tryd.underlying33 hi0 hz0 hz1 hz2 rfl (by decide) b hs xo q xc (ccells (cs.take q)) hx (fun e => ⟨by have := (hsh.none e).1; omega, (hsh.none e).2⟩) (by rw [ccells_length, hl])
    (ccells_of ((hv.keep (h0.trans h1 (fun _ _ h => h))).take q)) (ccells_one _) (by omega) (by omega) ?_
  intro g cap w' hr ho'
  exact h g cap w' (slcs_of (fun v hv' => hv.u64 v (List.mem_of_mem_take hv')) hr) (h1.trans ho' (fun _ _ h => h))
theorem step_vals2 {ops : Array Oper} {o : Oper} {a : Act} {w : World} {K : Act → World → Prop} {Q : Exit → Act → World → Prop} {E : Prop} (hgd : o.guard = none) (s x : Operand)
    (ho : o.op = .call { callee := .builtin .append, args := #[s, x], argTypes := #[22, 22] }) (hs : ∃ b, a.eval s = .slice (some ⟨b, 0, none⟩) 0 0)
    (xo : Option Addr) (k xc q : Nat) (vs : List Vv) (w0 wk : World) (hv : SlV w0 xo vs) (hsh : Shp xo k xc) (hk : k = vs.length) (hq : q ≤ k) (hk256 : k ≤ 1048576) (h0 : Only (fun _ => False) w0 wk) (hx : a.eval x = .slice xo q xc) (h1 : Only (fun _ => False) wk w)
    (h : ∀ g cap w', SlV w' (some ⟨g, 0, none⟩) (vs.take q) → Only (fun _ => False) wk w' → K (a.put o.dst (.slice (some ⟨g, 0, none⟩) q cap)) w') :
    if Region.wanted o (yielded ops a.tmps) = true then Oper.wp Tryd.prog o a w K Q else E := by
  obtain ⟨b, hs⟩ := hs
  obtain ⟨i0, hi0, hz0, hz1, hz2⟩ := info_parts Tryd.infoVal3
  have hl : (vs.take q).length = q := by rw [List.length_take]; omega
  refine step_fresh hgd s x _ ho 42 i0 _ 3 32 Tryd.underlying22 hi0 hz0 hz1 hz2 rfl (by decide) b hs xo q xc (vcells (vs.take q)) hx (fun e => ⟨by have := (hsh.none e).1; omega, (hsh.none e).2⟩) (by rw [vcells_length, hl])
    (vcells_of ((hv.keep (h0.trans h1 (fun _ _ h => h))).take q)) (vcells_one _) (by omega) (by omega) ?_
  intro g cap w' hr ho'
  exact h g cap w' (slv_of (fun v hv' => hv.u64 v (List.mem_of_mem_take hv')) hr) (h1.trans ho' (fun _ _ h => h))

end Go.Proofs.YtgkcflindenboaaDoor

namespace Go.Proofs.YtgkcflindenboaaDoor
open Go Go.RowKit
set_option linter.unusedVariables false
set_option linter.unusedSimpArgs false
set_option maxRecDepth 100000
set_option linter.unusedSimpArgs false
set_option maxRecDepth 100000

theorem renc_err {cs : List Cv} {l : List Vl} {s : List UInt8} {er : Int} (h : (s, er) = rencE cs l) (h0 : er ≠ 0) : s = [] ∧ (rfits cs l = er ∨ (rfits cs l = 0 ∧ er = 7)) := by
  unfold rencE at h
  by_cases h1 : rfits cs l ≠ 0
  · rw [if_pos h1] at h
    simp only [Prod.mk.injEq] at h
    exact ⟨h.1, .inl h.2.symm⟩
  rw [if_neg h1] at h
  by_cases h2 : 512 < (rowS l).length
  · rw [if_pos h2] at h
    simp only [Prod.mk.injEq] at h
    exact ⟨h.1, .inr ⟨by simpa using h1, h.2⟩⟩
  rw [if_neg h2] at h
  simp only [Prod.mk.injEq] at h
  exact absurd h.2 h0
theorem rdec_of {cs : List Cv} {s : List UInt8} {l : List Vl} (hc : colsB cs = true) (h : readR cs s = some l) : rdec cs s = (l ++ (cs.drop l.length).map (fun c => c.d.vl), 0) := by
  unfold rdec
  rw [if_neg (by rw [hc]; decide), h]
theorem rdec_bad {cs : List Cv} {s : List UInt8} (hc : colsB cs = true) (h : readR cs s = none) : rdec cs s = ([], 2) := by
  unfold rdec
  rw [if_neg (by rw [hc]; decide), h]
theorem row_more {cs : List Cv} {l : List Vl} (h : rfits cs l = 0) (hN : ∀ v ∈ l, v.N < 18446744073709551616) : rdec cs (rowS l ++ [0]) = ([], 2) := by
  refine rdec_bad (rfits_ok h).1 ?_
  rw [row_back [0] h hN]
  split
  · rfl
  · rw [if_neg (by simp)]
theorem row_less {cs : List Cv} {l : List Vl} (h : rfits cs l = 0) (h5 : (rowS l).length ≤ 512) (hN : ∀ v ∈ l, v.N < 18446744073709551616) : rdec cs ((rowS l).take ((rowS l).length - 1)) = ([], 2) := by
  obtain ⟨h1, h2, h3⟩ := rfits_ok h
  obtain ⟨h4, h6, h7⟩ := colsB_iff.1 h1
  refine rdec_bad h1 ?_
  cases hr : readR cs ((rowS l).take ((rowS l).length - 1)) with
  | none => rfl
  | some k =>
    exfalso
    obtain ⟨e1, e2, e3, e4, e5, e6⟩ := row_readR h7 h6 hr
    have hl1 : 1 ≤ (rowS l).length := by simp [rowS]
    have e7 := List.take_append_drop ((rowS l).length - 1) (rowS l)
    rw [e1] at e7
    have e8 : (rowS l).drop ((rowS l).length - 1) ≠ [] := by
      intro e
      have := congrArg List.length e
      simp only [List.length_drop, List.length_nil] at this
      omega
    have hb := readR_row (cs := cs) (l := k) ((rowS l).drop ((rowS l).length - 1)) e2 e3 h6 e4 e6
    rw [e7, if_neg (by omega), if_neg e8, row_back0 h h5 hN] at hb
    cases hb
theorem rfits_take {cs : List Cv} {l : List Vl} {n : Nat} (h : rfits cs l = 0) (h1 : 1 ≤ n) (hn : n ≤ cs.length) : rfits (cs.take n) (l.take n) = 0 := by
  obtain ⟨a1, a2, a3⟩ := rfits_ok h
  obtain ⟨b1, b2, b3⟩ := colsB_iff.1 a1
  have hc : colsB (cs.take n) = true := colsB_iff.2 ⟨by simp; omega, by simp; omega, fun c hc => b3 c (List.mem_of_mem_take hc)⟩
  unfold rfits
  rw [if_neg]
  · exact fitsL_take n a3
  · rintro (e | e)
    · rw [hc] at e; cases e
    · exact e (by simp [a2])
theorem rowL_take_len : ∀ (l : List Vl) (n : Nat), (rowL (l.take n)).length ≤ (rowL l).length
  | [], n => by simp [rowL]
  | v :: l, 0 => by simp [rowL]
  | v :: l, n + 1 => by
    have := rowL_take_len l n
    rw [List.take_succ_cons, rowL, rowL, List.length_append, List.length_append]
    omega
theorem rowS_take_len (l : List Vl) (n : Nat) : (rowS (l.take n)).length ≤ (rowS l).length := by
  have := rowL_take_len l n
  simp only [rowS, List.length_cons]
  omega
theorem renc_take {cs : List Cv} {l : List Vl} {n : Nat} (h : rfits cs l = 0) (h5 : (rowS l).length ≤ 512) (h1 : 1 ≤ n) (hn : n ≤ cs.length) : rencE (cs.take n) (l.take n) = (rowS (l.take n), 0) := by
  have := rowS_take_len l n
  unfold rencE
  rw [if_neg (by rw [rfits_take h h1 hn]; simp), if_neg (by omega)]
/-- A row with fewer columns. -/
theorem rdec_take {cs : List Cv} {l : List Vl} {n : Nat} (h : rfits cs l = 0) (h5 : (rowS l).length ≤ 512) (hN : ∀ v ∈ l, v.N < 18446744073709551616) (h1 : 1 ≤ n) (hn : n ≤ cs.length) : rdec cs (rowS (l.take n)) = (l.take n ++ (cs.drop n).map (fun c => c.d.vl), 0) := by
  obtain ⟨a1, a2, a3⟩ := rfits_ok h
  obtain ⟨b1, b2, b3⟩ := colsB_iff.1 a1
  have hl : (l.take n).length = n := by rw [List.length_take]; omega
  have hr : readR cs (rowS (l.take n)) = some (l.take n) := by
    have := readR_row (cs := cs) (l := l.take n) [] (by omega) (by omega) b2 (by rw [hl]; exact fitsL_take n a3) (fun v hv => hN v (List.mem_of_mem_take hv))
    rw [List.append_nil, if_neg (by have := rowS_take_len l n; omega), if_pos rfl] at this
    exact this
  rw [rdec_of a1 hr, hl]
theorem rem_spec3 (n : Nat) (h1 : 1 ≤ n) (hn : n ≤ 24) (z : Int) : ∃ (r : Int) (p : Nat), z.tmod (n : Int) = r ∧ -(n : Int) ≤ r ∧ r ≤ n ∧ 1 ≤ p ∧ p ≤ n ∧ (r + (n : Int)).tmod (n : Int) = (p : Int) - 1 := by
  obtain ⟨r, q, e1, e2, e3, e4, e5⟩ := rem_spec (n - 1) (by omega) z
  rw [show ((n - 1 : Nat) : Int) + 1 = (n : Int) by omega] at e1 e5
  rw [show r + ((n - 1 : Nat) : Int) + 1 = r + (n : Int) by omega] at e5
  exact ⟨r, q + 1, e1, by omega, by omega, by omega, by omega, by omega⟩
def REncAt (w : World) (cs : List Cv) (l : List Vl) (s e : Value) (wx : World) : Prop := ∃ (f : List UInt8) (r : Int), s = .string ⟨f.toArray⟩ ∧ e = .int .i64 r ∧ (f, r) = rencE cs l ∧ Only (fun _ => False) w wx


end Go.Proofs.YtgkcflindenboaaDoor

namespace Go.Proofs.YtgkcflindenboaaDoor
open Go Go.RowKit
set_option linter.unusedVariables false
set_option linter.unusedSimpArgs false
set_option maxRecDepth 100000
set_option linter.unusedSimpArgs false
set_option maxRecDepth 100000

theorem vcells_append : ∀ (l k : List Vv), vcells (l ++ k) = vcells l ++ vcells k
  | [], k => rfl
  | v :: l, k => by simp [vcells, vcells_append l k]
theorem wpList_of_step {ops : Array Oper} {rest : List Oper} {o : Oper} {a : Act} {w : World} {Q : Exit → Act → World → Prop}
    (h : if Region.wanted o (yielded ops a.tmps) = true then Oper.wp Tryd.prog o a w (wpList Tryd.prog ops Q rest) Q else wpList Tryd.prog ops Q rest (a.put o.dst undef) w) : wpList Tryd.prog ops Q (o :: rest) a w := by
  unfold wpList
  split
  · rename_i hw
    rw [if_pos hw] at h
    exact .inl h
  · rename_i hw
    rw [if_neg hw] at h
    exact h
/-- What appends onto an empty slice leave. -/
def AppAt (wk w : World) (v : Value) (e : TypeId) (size n : Nat) (xs : List Value) : Prop :=
  ∃ g cap, v = .slice (some ⟨g, 0, none⟩) n cap ∧ n ≤ cap ∧ ((n = 0 ∧ cap = 0 ∧ xs = [] ∧ Only (fun _ => False) wk w) ∨ Own wk w (RowV e size v n xs))
theorem AppAt.only {wk w : World} {v : Value} {e : TypeId} {size n : Nat} {xs : List Value} (h : AppAt wk w v e size n xs) : Only (fun _ => False) wk w := by
  obtain ⟨g, cap, _, _, ⟨_, _, _, h⟩ | h⟩ := h
  · exact h
  · exact h.only
theorem AppAt.at {wk w : World} {v : Value} {e : TypeId} {size n : Nat} {xs : List Value} (h : AppAt wk w v e size n xs) : ∃ g cap, v = .slice (some ⟨g, 0, none⟩) n cap ∧ n ≤ cap ∧ ∀ j u, xs[j]? = some u → w.cell? ⟨g, j, none⟩ = some u := by
  obtain ⟨g, cap, rfl, hc, ⟨_, _, rfl, _⟩ | ⟨F, ⟨hown, _⟩, _⟩⟩ := h
  · exact ⟨g, cap, rfl, hc, fun j u hj => by simp at hj⟩
  · refine ⟨g, cap, rfl, hc, fun j u hj => ?_⟩
    rcases hown.2 with ⟨hv, _⟩ | ⟨g2, cap2, cur, hv, _, hg, _⟩
    · cases hv
    · simp only [Value.slice.injEq, Option.some.injEq, Addr.mk.injEq, and_true] at hv
      obtain ⟨rfl, _, rfl⟩ := hv
      have := hown.cellAt j (by rw [← hown.1]; exact (List.getElem?_eq_some_iff.1 hj).1)
      rw [this]
      exact hj
theorem AppAt.keep {wk w w' : World} {v : Value} {e : TypeId} {size n : Nat} {xs : List Value} (h : AppAt wk w v e size n xs) (ho : Only (fun _ => False) w w') : AppAt wk w' v e size n xs := by
  obtain ⟨g, cap, hv, hc, ⟨h1, h2, h3, h4⟩ | h4⟩ := h
  · exact ⟨g, cap, hv, hc, .inl ⟨h1, h2, h3, h4.trans ho (fun _ _ h => h)⟩⟩
  · exact ⟨g, cap, hv, hc, .inr (h4.quiet ho)⟩
theorem rown_base {w : World} {B B' : Nat} {e : TypeId} {size : Nat} {v : Value} {n : Nat} {xs : List Value} (h : w.ownsRow B e size v n xs) (hB : B' ≤ B) : w.ownsRow B' e size v n xs := by
  refine ⟨h.1, ?_⟩
  rcases h.2 with h0 | ⟨g, cap, cur, rfl, hb, rest⟩
  · exact .inl h0
  · exact .inr ⟨g, cap, cur, rfl, Nat.le_trans hB hb, rest⟩
theorem appAt_fresh {wk w w' : World} {v : Value} {e : TypeId} {size m : Nat} {news : List Value} (h0 : Only (fun _ => False) wk w) (hown : w'.ownsRow w.heap.size e size v m news) (hm : 0 < m) (hg : w.grownBy w' .none) : AppAt wk w' v e size m news := by
  have h2 := hown
  rcases h2.2 with ⟨rfl, h⟩ | ⟨g, cap, cur, rfl, hb, hgc, hc, _⟩
  · omega
  · refine ⟨g, cap, rfl, hc, .inr ⟨fun k => k = g, ⟨rown_base hown (Nat.zero_le _), fun k => by simp [Value.ownBlock, eq_comm]⟩, fun k e => by rw [e]; exact Nat.le_trans h0.size hb, h0.grown hg (fun k _ e => by cases e)⟩⟩

section
variable {ops : Array Oper} {o : Oper} {a : Act} {w : World} {K : Act → World → Prop} {Q : Exit → Act → World → Prop} {E : Prop}
theorem step_app1 (hgd : o.guard = none) (s x : Operand) (t : TypeId) (ho : o.op = .call { callee := .builtin .append, args := #[s, x], argTypes := #[t, t] })
    (e : TypeId) (i : TypeInfo) (z : Value) (size bytes : Nat) (ht : Tryd.prog.underlying t = some (.slice e)) (hi : Tryd.prog.info? e = some i) (hz : i.zero = some z)
    (hsize : i.size = size) (hby : i.bytes = bytes) (hzs : z.cells.size = size) (hsz : 0 < size)
    (hs : ∃ b, a.eval s = .slice (some ⟨b, 0, none⟩) 0 0) (ao : Option Addr) (m c : Nat) (news : List Value) (hx : a.eval x = .slice ao m c) (hnone : ao = none → m = 0 ∧ c = 0)
    (hl : news.length = m * size) (hnews : ∀ ad, ao = some ad → ∀ j u, news[j]? = some u → w.cell? (ad.add j) = some u) (h1 : ∀ u ∈ news, u.oneCell' = true) (hbytes : m * bytes ≤ 140737488355328) (hm : m ≤ 140737488355328)
    (wk : World) (h0 : Only (fun _ => False) wk w) (h : ∀ v w', AppAt wk w' v e size m news → K (a.put o.dst v) w') :
    if Region.wanted o (yielded ops a.tmps) = true then Oper.wp Tryd.prog o a w K Q else E := by
  obtain ⟨b, hs⟩ := hs
  have hw : Region.wanted o (yielded ops a.tmps) = true := by simp [Region.wanted, hgd]
  by_cases hm0 : m = 0
  · subst hm0
    have hn0 : news = [] := List.eq_nil_of_length_eq_zero (by omega)
    subst hn0
    have hk : K (a.put o.dst (.slice (some ⟨b, 0, none⟩) 0 0)) w := h _ _ ⟨b, 0, rfl, Nat.le_refl _, .inl ⟨rfl, rfl, rfl, h0⟩⟩
    cases ao with
    | none =>
      rw [if_pos hw]
      obtain ⟨_, rfl⟩ := hnone rfl
      have hrun := run_append_zero t o.type e i ht hi ⟨b, 0, none⟩ w
      unfold Oper.wp
      simp [execOp, ho, resolve, invoke, builtin, hs, hx, hrun, Result.andThen]
      exact hk
    | some ad =>
      exact step_append_room (P := Tryd.prog) (ops := ops) (o := o) (a := a) (w := w) (K := K) (Q := Q) (E := E) hgd s x t ho e i size ht hi hsize b 0 0 0 hs ad 0 c [] hx (by simp) (fun j u hj => by simp at hj) h1 (Nat.le_refl _) (fun j hj => by simp at hj) hk
  · rw [if_pos hw]
    cases ao with
    | none => exact absurd (hnone rfl).1 hm0
    | some ad =>
      obtain ⟨v', w', hrun, hown, hg⟩ := run_append_arg_grows (P := Tryd.prog) w t o.type e i z size bytes ht hi hz hsize hby hzs hsz ⟨b, 0, none⟩ 0 0 [] (by simp) (fun j u hj => by simp at hj) ad m c news hl (hnews ad rfl) (by omega) (by unfold maxLen; omega) (by rw [Nat.zero_add]; exact hbytes)
      rw [Nat.zero_add, List.nil_append] at hown
      have hk : K (a.put o.dst v') w' := h _ _ (appAt_fresh h0 hown (by omega) hg)
      unfold Oper.wp
      simp [execOp, ho, resolve, invoke, builtin, hs, hx, hrun, Result.andThen]
      exact hk
theorem run_append_none (t ty e : TypeId) (i : TypeInfo) (ht : Tryd.prog.underlying t = some (.slice e)) (hi : Tryd.prog.info? e = some i) (b : Addr) (n cap : Nat) (hc : n ≤ cap) (w : World) :
    (Builtin.append_ #[t, t] ty #[.slice (some b) n cap, .slice none 0 0]).run Tryd.prog w = .ok (.slice (some b) n cap) w := by
  simp [Builtin.append_, run_underlying ht, sizeOf, typeInfo, hi, Builtin.lenOf, Builtin.firstCells, storeCells, hc]
theorem step_app2 (hgd : o.guard = none) (s x : Operand) (t : TypeId) (ho : o.op = .call { callee := .builtin .append, args := #[s, x], argTypes := #[t, t] })
    (e : TypeId) (i : TypeInfo) (z : Value) (size bytes : Nat) (ht : Tryd.prog.underlying t = some (.slice e)) (hi : Tryd.prog.info? e = some i) (hz : i.zero = some z)
    (hsize : i.size = size) (hby : i.bytes = bytes) (hzs : z.cells.size = size) (hsz : 0 < size) (hb1 : 0 < bytes)
    (v : Value) (n : Nat) (xs : List Value) (wk : World) (hA : AppAt wk w v e size n xs) (hs : a.eval s = v) (ao : Option Addr) (m c : Nat) (news : List Value) (hx : a.eval x = .slice ao m c) (hnone : ao = none → m = 0 ∧ c = 0)
    (hl : news.length = m * size) (hnews : ∀ ad, ao = some ad → ∀ j u, news[j]? = some u → w.cell? (ad.add j) = some u) (h1 : ∀ u ∈ news, u.oneCell' = true) (hbytes : (n + m) * bytes ≤ 140737488355328)
    (h : ∀ v w', AppAt wk w' v e size (n + m) (xs ++ news) → K (a.put o.dst v) w') :
    if Region.wanted o (yielded ops a.tmps) = true then Oper.wp Tryd.prog o a w K Q else E := by
  have hnm : n + m ≤ 140737488355328 := Nat.le_trans (Nat.le_mul_of_pos_right _ hb1) hbytes
  have hw : Region.wanted o (yielded ops a.tmps) = true := by simp [Region.wanted, hgd]
  by_cases hm0 : m = 0
  · subst hm0
    have hn0 : news = [] := List.eq_nil_of_length_eq_zero (by omega)
    subst hn0
    have hk : K (a.put o.dst v) w := h _ _ (by rw [Nat.add_zero, List.append_nil]; exact hA)
    obtain ⟨g, cap, rfl, hc, _⟩ := hA
    cases ao with
    | none =>
      rw [if_pos hw]
      obtain ⟨_, rfl⟩ := hnone rfl
      have hrun := run_append_none t o.type e i ht hi ⟨g, 0, none⟩ n cap hc w
      unfold Oper.wp
      simp [execOp, ho, resolve, invoke, builtin, hs, hx, hrun, Result.andThen]
      exact hk
    | some ad =>
      exact step_append_room (P := Tryd.prog) (ops := ops) (o := o) (a := a) (w := w) (K := K) (Q := Q) (E := E) hgd s x t ho e i size ht hi hsize g 0 n cap hs ad 0 c [] hx (by simp) (fun j u hj => by simp at hj) h1 (by omega) (fun j hj => by simp at hj) (by simpa [World.setCells] using hk)
  · cases ao with
    | none => exact absurd (hnone rfl).1 hm0
    | some ad =>
      obtain ⟨g, cap, rfl, hc, ⟨h2, h3, h4, h5⟩ | hown⟩ := hA
      · subst h2 h3 h4
        rw [Nat.zero_add] at h hbytes
        exact step_app1 hgd s x t ho e i z size bytes ht hi hz hsize hby hzs hsz ⟨g, hs⟩ (some ad) m c news hx (fun e => by cases e) hl hnews h1 hbytes (by omega) wk h5 (fun v w' hv => h v w' (by rw [List.nil_append]; exact hv))
      · have hrow : w.ownsRow 0 e size (.slice (some ⟨g, 0, none⟩) n cap) n xs := by
          obtain ⟨F, ⟨h, _⟩, _⟩ := hown
          exact h
        have hown2 : Own wk w (Sep (RowV e size (.slice (some ⟨g, 0, none⟩) n cap) n xs) Emp) := hown.imp fun F hF => ⟨F, fun _ => False, hF, fun _ h => h, fun _ _ h => h, fun k => by simp⟩
        refine step_append_lies (P := Tryd.prog) w hgd s x t ho 0 e i z size bytes ht hi hz hsize hby hzs hsz (.slice (some ⟨g, 0, none⟩) n cap) n xs hs hrow ad m c news hx hl (hnews ad rfl) h1 (by omega) (by unfold maxLen; omega) hbytes (Nat.zero_le _) w.heap.size rfl ?_
        intro g3 cap3 w3 ho3 hg3 hat hlt
        have h5 := hown2.appended ho3 hg3 (hat.imp id (fun e => by omega))
        have hcap : n + m ≤ cap3 := by
          rcases ho3.2 with ⟨hv, _⟩ | ⟨g4, cap4, cur, hv, _, _, hc4, _⟩
          · cases hv
          · simp only [Value.slice.injEq, Option.some.injEq, Addr.mk.injEq, and_true] at hv
            rw [hv.2.2]
            exact hc4
        exact h _ _ ⟨g3, cap3, rfl, hcap, .inr h5.fst⟩
/-- The same for columns and for values. -/
theorem step_capp1 (hgd : o.guard = none) (s x : Operand) (ho : o.op = .call { callee := .builtin .append, args := #[s, x], argTypes := #[33, 33] }) (hs : ∃ b, a.eval s = .slice (some ⟨b, 0, none⟩) 0 0)
    (ao : Option Addr) (m c : Nat) (cs : List Cv) (w0 wk : World) (hv : SlCs w0 ao cs) (hsh : Shp ao m c) (hm : m = cs.length) (hk : m ≤ 1048576) (h0 : Only (fun _ => False) w0 wk) (hx : a.eval x = .slice ao m c) (h1 : Only (fun _ => False) wk w)
    (h : ∀ v w', AppAt wk w' v 67 7 m (ccells cs) → K (a.put o.dst v) w') : if Region.wanted o (yielded ops a.tmps) = true then Oper.wp Tryd.prog o a w K Q else E := by
  obtain ⟨i0, hi0, hz0, hz1, hz2⟩ := info_parts Tryd.infoCol3
  exact step_app1 hgd s x _ ho 67 i0 _ 7 72 Tryd.underlying33 hi0 hz0 hz1 hz2 rfl (by decide) hs ao m c (ccells cs) hx hsh.none (by rw [ccells_length, hm]) (ccells_of (hv.keep (h0.trans h1 (fun _ _ h => h)))) (ccells_one _) (by omega) (by omega) wk h1 h
theorem step_capp2 (hgd : o.guard = none) (s x : Operand) (ho : o.op = .call { callee := .builtin .append, args := #[s, x], argTypes := #[33, 33] })
    (v : Value) (n : Nat) (xs : List Cv) (wk : World) (hA : AppAt wk w v 67 7 n (ccells xs)) (hs : a.eval s = v) (ao : Option Addr) (m c : Nat) (cs : List Cv) (hv : SlCs w ao cs) (hsh : Shp ao m c) (hm : m = cs.length) (hn : n ≤ 1048576) (hk : m ≤ 1048576) (hx : a.eval x = .slice ao m c)
    (h : ∀ v w', AppAt wk w' v 67 7 (n + m) (ccells (xs ++ cs)) → K (a.put o.dst v) w') : if Region.wanted o (yielded ops a.tmps) = true then Oper.wp Tryd.prog o a w K Q else E := by
  obtain ⟨i0, hi0, hz0, hz1, hz2⟩ := info_parts Tryd.infoCol3
  exact step_app2 hgd s x _ ho 67 i0 _ 7 72 Tryd.underlying33 hi0 hz0 hz1 hz2 rfl (by decide) (by decide) v n (ccells xs) wk hA hs ao m c (ccells cs) hx hsh.none (by rw [ccells_length, hm]) (ccells_of hv) (ccells_one _) (by omega) (fun v w' hv => h v w' (by rw [ccells_append]; exact hv))
theorem step_vapp1 (hgd : o.guard = none) (s x : Operand) (ho : o.op = .call { callee := .builtin .append, args := #[s, x], argTypes := #[22, 22] }) (hs : ∃ b, a.eval s = .slice (some ⟨b, 0, none⟩) 0 0)
    (ao : Option Addr) (m c : Nat) (vs : List Vv) (w0 wk : World) (hv : SlV w0 ao vs) (hsh : Shp ao m c) (hm : m = vs.length) (hk : m ≤ 1048576) (h0 : Only (fun _ => False) w0 wk) (hx : a.eval x = .slice ao m c) (h1 : Only (fun _ => False) wk w)
    (h : ∀ v w', AppAt wk w' v 42 3 m (vcells vs) → K (a.put o.dst v) w') : if Region.wanted o (yielded ops a.tmps) = true then Oper.wp Tryd.prog o a w K Q else E := by
  obtain ⟨i0, hi0, hz0, hz1, hz2⟩ := info_parts Tryd.infoVal3
  exact step_app1 hgd s x _ ho 42 i0 _ 3 32 Tryd.underlying22 hi0 hz0 hz1 hz2 rfl (by decide) hs ao m c (vcells vs) hx hsh.none (by rw [vcells_length, hm]) (vcells_of (hv.keep (h0.trans h1 (fun _ _ h => h)))) (vcells_one _) (by omega) (by omega) wk h1 h
theorem step_vapp2 (hgd : o.guard = none) (s x : Operand) (ho : o.op = .call { callee := .builtin .append, args := #[s, x], argTypes := #[22, 22] })
    (v : Value) (n : Nat) (xs : List Vv) (wk : World) (hA : AppAt wk w v 42 3 n (vcells xs)) (hs : a.eval s = v) (ao : Option Addr) (m c : Nat) (vs : List Vv) (hv : SlV w ao vs) (hsh : Shp ao m c) (hm : m = vs.length) (hn : n ≤ 1048576) (hk : m ≤ 1048576) (hx : a.eval x = .slice ao m c)
    (h : ∀ v w', AppAt wk w' v 42 3 (n + m) (vcells (xs ++ vs)) → K (a.put o.dst v) w') : if Region.wanted o (yielded ops a.tmps) = true then Oper.wp Tryd.prog o a w K Q else E := by
  obtain ⟨i0, hi0, hz0, hz1, hz2⟩ := info_parts Tryd.infoVal3
  refine step_app2 hgd s x _ ho 42 i0 _ 3 32 Tryd.underlying22 hi0 hz0 hz1 hz2 rfl (by decide) (by decide) v n (vcells xs) wk hA hs ao m c (vcells vs) hx hsh.none (by rw [vcells_length, hm]) (vcells_of hv) (vcells_one _) (by omega) (fun v w' hv => h v w' ?_)
  rw [show vcells (xs ++ vs) = vcells xs ++ vcells vs from vcells_append xs vs]
  exact hv
end

theorem AppAt.cols {wk w : World} {v : Value} {n : Nat} {cs : List Cv} (h : AppAt wk w v 67 7 n (ccells cs)) (hU : ∀ c ∈ cs, U64 c.dN) : ∃ g cap, v = .slice (some ⟨g, 0, none⟩) n cap ∧ n ≤ cap ∧ SlCs w (some ⟨g, 0, none⟩) cs := by
  obtain ⟨g, cap, hv, hc, hx⟩ := h.at
  exact ⟨g, cap, hv, hc, slcs_of hU hx⟩
theorem AppAt.vals {wk w : World} {v : Value} {n : Nat} {vs : List Vv} (h : AppAt wk w v 42 3 n (vcells vs)) (hU : ∀ v ∈ vs, U64 v.N) : ∃ g cap, v = .slice (some ⟨g, 0, none⟩) n cap ∧ n ≤ cap ∧ SlV w (some ⟨g, 0, none⟩) vs := by
  obtain ⟨g, cap, hv, hc, hx⟩ := h.at
  exact ⟨g, cap, hv, hc, slv_of hU hx⟩

end Go.Proofs.YtgkcflindenboaaDoor

namespace Go.Proofs.YtgkcflindenboaaDoor
open Go Go.RowKit
set_option linter.unusedVariables false
set_option linter.unusedSimpArgs false
set_option maxRecDepth 100000
set_option linter.unusedSimpArgs false
set_option maxRecDepth 100000

theorem rdec_err {cs : List Cv} {s : List UInt8} {l : List Vl} {er : Int} (h : (l, er) = rdec cs s) (h0 : er ≠ 0) : l = [] := by
  unfold rdec at h
  by_cases h1 : colsB cs = false
  · rw [if_pos h1] at h
    simp only [Prod.mk.injEq] at h
    exact h.1
  rw [if_neg h1] at h
  cases hr : readR cs s with
  | none =>
    rw [hr] at h
    simp only [Prod.mk.injEq] at h
    exact h.1
  | some k =>
    rw [hr] at h
    simp only [Prod.mk.injEq] at h
    exact absurd h.2 h0
theorem rdec_cols {cs : List Cv} {s : List UInt8} {l : List Vl} (h : (l, (0 : Int)) = rdec cs s) : colsB cs = true := by
  unfold rdec at h
  by_cases h1 : colsB cs = false
  · rw [if_pos h1] at h
    simp at h
  · simpa using h1
/-- A row of the first columns, read with more of them. -/
theorem row_front {cs ms : List Cv} {l : List Vl} (h : rfits cs l = 0) (h5 : (rowS l).length ≤ 512) (hN : ∀ v ∈ l, v.N < 18446744073709551616) (hc : colsB (cs ++ ms) = true) :
    readR (cs ++ ms) (rowS l) = some l ∧ rdec (cs ++ ms) (rowS l) = (l ++ ms.map (fun c => c.d.vl), 0) ∧ rfits (cs ++ ms) (l ++ ms.map (fun c => c.d.vl)) = 0 := by
  obtain ⟨a1, a2, a3⟩ := rfits_ok h
  obtain ⟨b1, b2, b3⟩ := colsB_iff.1 hc
  obtain ⟨d1, d2, d3⟩ := colsB_iff.1 a1
  have hr : readR (cs ++ ms) (rowS l) = some l := by
    have := readR_row (cs := cs ++ ms) (l := l) [] (by omega) (by simp; omega) b2 (by rw [a2, List.take_left']; exact a3; rfl) hN
    rw [List.append_nil, if_neg (by omega), if_pos rfl] at this
    exact this
  refine ⟨hr, ?_, ?_⟩
  · rw [rdec_of hc hr, a2, List.drop_left' rfl]
  · unfold rfits
    rw [if_neg]
    · exact fitsL_append a2.symm a3 (fitsL_defs fun c hm => b3 c (by simp [hm]))
    · rintro (e | e)
      · rw [hc] at e; cases e
      · exact e (by simp [a2])


end Go.Proofs.YtgkcflindenboaaDoor
