/-
  Joined: Wal11 OpsArg WalArg.
-/
import Derived.Test.YtbimhiffcdhcaaaWalJ5
import Derived.Lib.SlBytesConst

namespace Go.Proofs.Ytbimhiffcdhcaaa
open Go Go.RowKit Go.Lib
set_option linter.unusedVariables false
set_option linter.unusedSimpArgs false
set_option maxRecDepth 100000

def awA2 : List (List UInt8) := [[97, 98], List.replicate 60 0]
theorem awRecs : recsAt 1 (tagM 1 awA2) = [(1, 2, [97, 98]), (2, 4, List.replicate 60 0)] := by decide

set_option maxRecDepth 100000 in
set_option maxHeartbeats 4000000 in
theorem wawake (w : World) :
    Calls Try.prog 9 #[] w fun e w' => e = .returned (.bool true) ∧ Quiet w w' := by
  have H0 := Lib.hid (Own.start w)
  have kc := fun (w : World) (C : Array Value) (n c : Nat) => Lib.run_convert_bytes_const (P := Try.prog) w 48 5 C n c Try.underlying48 Try.underlying5
  go_enter Try.func9, Try.ntmps9
  go_wp2_with fail
  refine (own_new H0.out 16 (by decide) (by decide)).mono ?_
  rintro e w1 ⟨p, rfl, h1⟩
  have HL0 : Hid (LogOk (DS.new 16) 2 8 1 1 1 [] 0) := Lib.hid (LogOk.new (by decide) (by decide) (by decide) (by decide) (by decide) (by decide))
  have hf0 : (DS.new 16).found 2 8 1 1 1 = [] := HL0.out.found (by decide) (by decide)
  have HO1 := Lib.hid (own_open h1 2 8 1 1 1 (by decide) (by decide) (by decide) (by decide) (by decide) (by decide) (by decide))
  rw [hf0] at HO1
  clear h1 H0 hf0
  go_wp2_with fail
  refine HO1.out.mono ?_
  rintro e w2 ⟨q, v, rfl, h2⟩
  obtain ⟨ao, cap, rfl⟩ := RecsR.shape h2.snd
  have H2 : Hid (Own w w2 (Sep (WLogR q p 2 8 1 1 1) (Sep (DiskR p (DS.new 16)) Emp))) := Lib.hid (h2.swap.snd)
  clear h2 HO1
  go_wp2_with fail
  have h3 : Own w (w2.alloc (.cells #[.int .u8 97, .int .u8 98] 5 (2, 3))) (Sep (WLogR q p 2 8 1 1 1) (Sep (DiskR p (DS.new 16)) (Sep (Row w2.heap.size 5 [97, 98] (2, 3)) Emp))) := (H2.out.alloc (.cells #[.int .u8 97, .int .u8 98] 5 (2, 3))).ac (by show Sep (Row w2.heap.size 5 [97, 98] (2, 3)) _ = _; ac_rfl)
  refine (own_append_fit h3 HL0.out (by decide) (by decide) (some ⟨w2.heap.size, 0, none⟩) 2 2 [97, 98] rfl (by decide) (hv_row rfl) (by decide) (by decide)).mono ?_
  rintro e w3 ⟨rfl, D1, hL1, hn1, h4⟩
  have HL1 : Hid (LogOk D1 2 8 1 2 1 [[97, 98]] 8) := Lib.hid hL1
  have H4 : Hid (Own w w3 (Sep (WLogR q p 2 8 1 1 2) (Sep (DiskR p D1) Emp))) := Lib.hid ((h4.ac (J := Sep (Row w2.heap.size 5 [97, 98] (2, 3)) (Sep (WLogR q p 2 8 1 1 2) (Sep (DiskR p D1) Emp))) (by show Sep (WLogR q p 2 8 1 1 2) _ = _; ac_rfl)).snd)
  clear h3 h4 hL1 H2 HL0
  obtain ⟨zs, hzs⟩ : ∃ zs : List UInt8, zs = List.replicate 60 0 := ⟨_, rfl⟩
  obtain ⟨C, hC⟩ : ∃ C, C = (u8s zs).toArray := ⟨_, rfl⟩
  have hzl : zs.length = 60 := by rw [hzs]; simp
  have hmk : ∀ w, (Instr.makeSlice 48 (.int .i64 60) (.int .i64 60)).run Try.prog w = .ok (.slice (some ⟨w.heap.size, 0, none⟩) 60 60) (w.alloc (.cells C 5)) := fun w => by
    rw [hC, hzs]; exact run_make_bytes 60 (by decide) w
  have h5 : Own w (w3.alloc (.cells C 5)) (Sep (WLogR q p 2 8 1 1 2) (Sep (DiskR p D1) (Sep (Row w3.heap.size 5 zs) Emp))) := (H4.out.alloc (.cells C 5)).ac (by rw [hC]; show Sep (Row w3.heap.size 5 zs) _ = _; ac_rfl)
  have hap := own_append_fit h5 HL1.out (by decide) (by decide) (some ⟨w3.heap.size, 0, none⟩) 60 60 zs hzl.symm (by decide) (hv_row hzl.symm) (by decide) (by decide)
  have HAP := Lib.hid hap
  have HZS := Lib.hid hzs
  clear h5 hzs hC hzl hap H4 HL1
  have HN1 := Lib.hid hn1
  clear hn1
  go_wp2_with fail
  refine HAP.out.mono ?_
  rintro e w4 ⟨rfl, D2, hL2, hn2, h6⟩
  have hL2' : LogOk D2 2 8 1 4 1 awA2 16 := by rw [HZS.out] at hL2; exact hL2
  have h7 : Own w w4 (Sep (DiskR p D2) (Sep (WLogR q p 2 8 1 1 4) Emp)) := (h6.ac (J := Sep (Row w3.heap.size 5 zs) (Sep (DiskR p D2) (Sep (WLogR q p 2 8 1 1 4) Emp))) (by show Sep (WLogR q p 2 8 1 1 4) _ = _; ac_rfl)).snd
  have hf2 : D2.found 2 8 1 2 1 = [(1, 2, [97, 98]), (2, 4, zs)] := by rw [HZS.out, ← awRecs]; exact hL2'.found (by decide) (by decide)
  have hn2' : (D2.n : Nat) = 16 := hn2.trans HN1.out
  have HO3 := Lib.hid (own_open h7 2 8 1 2 1 (by decide) (by decide) (by rw [hn2']; decide) (by decide) (by decide) (by decide) (by decide))
  rw [hf2] at HO3
  clear h6 h7 hL2 hL2' hn2 hn2' HAP hf2
  go_wp2_with fail
  refine HO3.out.mono ?_
  rintro e w5 ⟨q2, v2, rfl, h8⟩
  obtain ⟨ro, rc, rfl⟩ := RecsR.shape h8.snd
  obtain ⟨g, dv, rfl, d0, d1, d2, ds⟩ := rec_cells rfl h8.snd (k := 0) (by simp)
  obtain ⟨g', dv', e', x0, x1, x2, _⟩ := rec_cells rfl h8.snd (k := 1) (by simp)
  simp at e'
  subst e'
  have hcv := run_strC ds
  obtain ⟨dvo, dvc, rfl⟩ := ds.shape
  have hlog := (h8.ac (J := Sep (WLogR q p 2 8 1 1 4) (Sep (WLogR q2 p 2 8 2 1 (nextOf 1 [(1, 2, [97, 98]), (2, 4, zs)])) (Sep (RecsR 68 (.slice (some ⟨g, 0, none⟩) 2 rc) [(1, 2, [97, 98]), (2, 4, zs)]) (Sep (DiskR p D2) Emp)))) (by show Sep _ (Sep (RecsR 68 (.slice (some ⟨g, 0, none⟩) 2 rc) _) _) = _; ac_rfl)).held
  have HNX := Lib.hid (wnext_any hlog)
  have HRM : Hid (Calls Try.prog 21 #[.pointer (some ⟨q, 0, none⟩)] w5 fun e w' => e = .returned (.int .i64 5) ∧ ∃ n, w' = w5.drewN n) := Lib.hid (wroom_any hlog (by decide) (by decide) (by decide))
  have HNX : Hid (Calls Try.prog 20 #[.pointer (some ⟨q, 0, none⟩)] w5 fun e w' => e = .returned (.int .u64 4) ∧ w5 = w') := HNX
  simp at d0 d1 d2 x0 x1 x2 ds
  have hcv : ∀ w9, Only (fun _ => False) w5 w9 → (convert 48 9 (.slice dvo 2 dvc)).run Try.prog w9 = .ok (.string ⟨#[97, 98]⟩) w9 := fun w9 h => run_strC (ds.keep h)
  have HO5 := Lib.hid h8.only
  clear h8 hlog HO3
  simp only [List.length_cons, List.length_nil, Nat.zero_add, Nat.reduceAdd]
  go_wp2_with fail
  refine HNX.out.mono ?_
  rintro e w' ⟨rfl, rfl⟩
  go_wp2_with fail
  refine HRM.out.mono ?_
  rintro e w6 ⟨rfl, n, rfl⟩
  have ho := (Only.refl (fun _ => False) w5).drewN n
  have d2' := ho.cellq d2
  have x1' := ho.cellq x1
  have hcv' := hcv _ ho
  have HO6 := Lib.hid (HO5.out.trans ho (fun _ _ h => h))
  clear hcv ho ds HNX HRM HO5 d0 d1 d2 x0 x1 x2
  go_wp2_with fail
  go_ret
  exact ⟨rfl, HO6.out⟩

end Go.Proofs.Ytbimhiffcdhcaaa

namespace Go.Proofs.Ytbimhiffcdhcaaa
open Go Go.ChangeShapes Go.WideShapes Go.ChangeAt Go.RowKit
set_option linter.unusedVariables false
set_option linter.unusedSimpArgs false
set_option maxRecDepth 100000

def Sized {H : Type} (t : TypeId) (d : DataW H) : Prop := ∀ n ∈ d.weights Try.prog t, n ≤ 140737488351232
theorem sized_all {H : Type} {e : TypeId} : ∀ {l : List (DataW H)} {d : DataW H}, d ∈ l → ∀ n ∈ d.weights Try.prog e, n ∈ DataW.weightsAll Try.prog e l
  | [], d, h, _, _ => by cases h
  | x :: l, d, h, n, hn => by
    simp only [DataW.weightsAll, List.mem_append]
    rcases List.mem_cons.1 h with rfl | h
    · exact .inl hn
    · exact .inr (sized_all h n hn)
theorem Sized.elem {H : Type} {t e : TypeId} {elems spare : List (DataW H)} (h : Sized t (.slice elems spare)) (hu : Try.prog.underlying t = some (.slice e)) {d : DataW H} (hd : d ∈ elems) : Sized e d := fun n hn =>
  h n (by simp only [DataW.weights, hu, List.mem_cons, List.mem_append]; exact .inr (.inl (sized_all hd n hn)))
theorem Sized.part {H : Type} {t : TypeId} {fs : Array Field} {parts : List (DataW H)} (h : Sized t (.agg parts)) (hu : Try.prog.underlying t = some (.struct fs)) {j : Nat} {e : TypeId} {d : DataW H} (ht : (fs.toList.map (·.type))[j]? = some e) (hd : parts[j]? = some d) : Sized e d := fun n hn =>
  h n (by simp only [DataW.weights, hu]; exact DataW.weights_mem_each ht hd n hn)
theorem Sized.len {H : Type} {t e : TypeId} {elems spare : List (DataW H)} (h : Sized t (.slice elems spare)) (hu : Try.prog.underlying t = some (.slice e)) : (elems.length + spare.length) * Try.prog.bytesOf e ≤ 140737488351232 :=
  h _ (by simp only [DataW.weights, hu, List.mem_cons]; exact .inl trivial)
theorem sized_arg {H : Type} {ts : List TypeId} {ds : List (DataW H)} (h : (DataW.weightsEach Try.prog ts ds).all (· ≤ reachBytes) = true) {j : Nat} {t : TypeId} {d : DataW H} (ht : ts[j]? = some t) (hd : ds[j]? = some d) : Sized t d := fun n hn => by
  have := List.all_eq_true.1 h n (DataW.weights_mem_each ht hd n hn)
  have h2 : n ≤ reachBytes := by simpa using this
  exact h2

theorem open_bytesCellS {H : Type} {enc : TypeId × Value → H} {W : World} {fuel : Nat} {cs : List Value} {y : DataW H × List MemPlace} (h : DataW.trod enc Try.prog W 0 (fun _ => true) true fuel 48 cs = some y) (hs : Sized 48 y.1) :
    ∃ (v : Value) (bs : List UInt8), cs = [v] ∧ SlN W v bs ∧ bs.length ≤ 140737488351232 := by
  rcases open_ints Try.underlying48 Try.underlying5 Try.cellsU8 h with ⟨hcs, hx⟩ | ⟨a, len', cap', zs, hcs, _, hl, hm, hz, hx, hcell, hwz⟩
  · exact ⟨_, [], hcs, ⟨.inl ⟨rfl, rfl⟩, none, 0, rfl, Nat.le_refl _⟩, Nat.zero_le _⟩
  · simp only [if_true] at hz
    have hbl : ((zs.take len').map fun z => UInt8.ofNat z.toNat).length = len' := by simp; omega
    refine ⟨_, (zs.take len').map fun z => UInt8.ofNat z.toNat, hcs, ⟨.inr ⟨a, cap', by rw [hbl], fun j hj => ?_⟩, some a, cap', by rw [hbl], by rw [hbl]; exact hl⟩, ?_⟩
    · rw [hbl] at hj
      rw [hcell j (by omega)]
      have hjz : j < zs.length := by omega
      have hw := hwz zs[j] (List.getElem_mem hjz)
      have hb : 0 ≤ zs[j] ∧ zs[j] ≤ 255 := by simpa [Lit.wf, IntKind.min, IntKind.max, IntKind.signed, IntKind.bits] using hw
      have e1 : zs.getD j 0 = zs[j] := by simp [hjz]
      have e2 : ((zs.take len').map fun z => UInt8.ofNat z.toNat).getD j 0 = UInt8.ofNat (zs[j]).toNat := by
        simp [List.getD_eq_getElem?_getD, hj, hjz]
      rw [e1, e2]
      congr 2
      simp
      omega
    · subst hx
      have := hs.len Try.underlying48
      rw [Try.bytesU8] at this
      simp [lits] at this
      rw [hbl]
      omega
theorem open_intsCellS {H : Type} {enc : TypeId × Value → H} {W : World} {fuel : Nat} {cs : List Value} {y : DataW H × List MemPlace} (h : DataW.trod enc Try.prog W 0 (fun _ => true) true fuel 49 cs = some y) (hs : Sized 49 y.1) :
    ∃ (ao : Option Addr) (c : Nat) (ks : List Int), cs = [.slice ao ks.length c] ∧ SlI W ao ks ∧ (∀ z ∈ ks, i64R z) ∧ ks.length * 8 ≤ 140737488351232 ∧ (ao = none → c = 0) := by
  rcases open_ints Try.underlying49 Try.underlying3 Try.cellsInt h with ⟨hcs, hx⟩ | ⟨a, len', cap', zs, hcs, _, hl, hm, hz, hx, hcell, hwz⟩
  · exact ⟨none, 0, [], hcs, fun j hj => by simp at hj, by simp, by simp, fun _ => rfl⟩
  · simp only [if_true] at hz
    have hbl : (zs.take len').length = len' := by simp; omega
    refine ⟨some a, cap', zs.take len', by rw [hbl]; exact hcs, fun j hj => ?_, fun z hz => ?_, ?_, fun h => by cases h⟩
    · rw [hbl] at hj
      obtain ⟨g, off, rfl⟩ := addr_of_cell (hcell 0 (by omega))
      refine ⟨g, off, rfl, ?_⟩
      rw [← add_lit, hcell j (by omega)]
      congr 2
      simp [List.getD_eq_getElem?_getD, hj]
    · have hw := hwz z (List.mem_of_mem_take hz)
      simpa [i64R, Lit.wf, IntKind.min, IntKind.max, IntKind.signed, IntKind.bits] using hw
    · subst hx
      have := hs.len Try.underlying49
      rw [Try.bytesInt] at this
      simp [lits] at this
      rw [hbl]
      omega

/-- A call of the statements of package disk, as it lies in memory. -/
structure OpS (w : World) (g o : Nat) (x : OpT) : Prop where
  k : w.cell? ⟨g, o, none⟩ = some (.int .i64 x.K)
  i : w.cell? ⟨g, o + 1, none⟩ = some (.int .i64 x.I)
  b : ∃ v, w.cell? ⟨g, o + 2, none⟩ = some v ∧ SlN w v x.B ∧ x.B.length ≤ 140737488351232
  l : ∃ ao c, w.cell? ⟨g, o + 3, none⟩ = some (.slice ao x.L.length c) ∧ SlI w ao x.L ∧ x.L.length * 8 ≤ 140737488351232 ∧ (ao = none → c = 0)
  rk : i64R x.K
  ri : i64R x.I
  rl : ∀ z ∈ x.L, i64R z
def SlOpS (w : World) (ao : Option Addr) (os : List OpT) : Prop := ∀ j, j < os.length → ∃ g off, ao = some ⟨g, off, none⟩ ∧ OpS w g (off + j * 4) (os.getD j default)

end Go.Proofs.Ytbimhiffcdhcaaa

namespace Go.Proofs.Ytbimhiffcdhcaaa
open Go Go.ChangeShapes Go.WideShapes Go.ChangeAt Go.RowKit
set_option linter.unusedVariables false
set_option linter.unusedSimpArgs false
set_option maxRecDepth 100000

/-- One call on a log: its kind, its number, its mount, its bytes, its list. -/
structure OpW where
  K : Int
  I : Int
  D : Int
  B : List UInt8
  L : List Int
instance : Inhabited OpW := ⟨⟨0, 0, 0, [], []⟩⟩
def u32R (z : Int) : Prop := 0 ≤ z ∧ z ≤ 4294967295
theorem Try.cellsOpW : Try.prog.cellsOf 51 = 5 := by kernel_rfl
theorem Try.cellsU32b : Try.prog.cellsOf 22 = 1 := by kernel_rfl

/-- A call of the statements on a log, as it lies in memory. -/
structure OpWS (w : World) (g o : Nat) (x : OpW) : Prop where
  k : w.cell? ⟨g, o, none⟩ = some (.int .i64 x.K)
  i : w.cell? ⟨g, o + 1, none⟩ = some (.int .i64 x.I)
  d : w.cell? ⟨g, o + 2, none⟩ = some (.int .u32 x.D)
  b : ∃ v, w.cell? ⟨g, o + 3, none⟩ = some v ∧ SlN w v x.B ∧ x.B.length ≤ 140737488351232
  l : ∃ ao c, w.cell? ⟨g, o + 4, none⟩ = some (.slice ao x.L.length c) ∧ SlI w ao x.L ∧ x.L.length * 8 ≤ 140737488351232 ∧ (ao = none → c = 0)
  rk : i64R x.K
  ri : i64R x.I
  rd : u32R x.D
  rl : ∀ z ∈ x.L, i64R z
def SlOpW (w : World) (ao : Option Addr) (os : List OpW) : Prop := ∀ j, j < os.length → ∃ g off, ao = some ⟨g, off, none⟩ ∧ OpWS w g (off + j * 5) (os.getD j default)
theorem open_opsArgW {H : Type} {enc : TypeId × Value → H} {W : World} {base : Nat} {v : Value} {d : DataW H} {pl : List MemPlace}
    (hok : Value.okWide Try.prog W .any base 24 v) (h : DataW.Trod enc Try.prog W 0 (fun _ => true) true 24 v d pl) (hs : Sized 24 d) :
    ∃ (os : List OpW) (ao : Option Addr) (c : Nat), v = .slice ao os.length c ∧ SlOpW W ao os := by
  obtain ⟨a0, len, cap, rfl⟩ := okWide_slice Try.underlying24 hok
  obtain ⟨fuel, hf⟩ := h
  rcases Go.Deep.open_slice Try.underlying24 hf with ⟨hcs, hx⟩ | ⟨a, len', cap', m, n, D, Pl, hcs, _, hl, hm, hmm, hx, hel⟩
  · simp [Value.cells] at hcs
    obtain ⟨rfl, rfl, rfl⟩ := hcs
    exact ⟨[], none, 0, rfl, fun j hj => by simp at hj⟩
  · simp [Value.cells] at hcs
    obtain ⟨rfl, rfl, rfl⟩ := hcs
    simp only [if_true] at hmm
    simp only [Prod.mk.injEq] at hx
    obtain ⟨rfl, _⟩ := hx
    have haddr : 0 < len → ∃ g off, a = ⟨g, off, none⟩ := fun h0 => by
      obtain ⟨cs', hc, _⟩ := hel 0 (by omega)
      rw [Try.cellsOpW] at hc
      obtain ⟨_, hcl, hat⟩ := World.cells?_some hc
      have c0 := (hat 0 (by omega)).trans (List.getElem?_eq_getElem (by omega))
      obtain ⟨b, off, spot⟩ := a
      have hspot : spot = none := by simpa [Addr.add] using World.cell?_spot c0
      subst hspot
      exact ⟨b, off, rfl⟩
    have each : ∀ i, i < len → ∃ x : OpW, ∃ g off, a = ⟨g, off, none⟩ ∧ OpWS W g (off + i * 5) x := by
      intro i hi
      obtain ⟨cs', hc, ht⟩ := hel i (by omega)
      have hsD : Sized 51 (D i) := hs.elem Try.underlying24 (List.mem_map.2 ⟨i, List.mem_range.2 hi, rfl⟩)
      rw [Try.cellsOpW] at hc
      obtain ⟨_, hcl, hat⟩ := World.cells?_some hc
      obtain ⟨ys, n', _, hy, _, hyl, hfs⟩ := DataW.trod_struct Try.underlying51 ht
      simp only [Prod.mk.injEq] at hy
      rw [hy.1] at hsD
      have c0 := hat 0 (by omega)
      have c1 := hat 1 (by omega)
      have c2 := hat 2 (by omega)
      have c3 := hat 3 (by omega)
      have c4 := hat 4 (by omega)
      rw [Go.Deep.add_add] at c0 c1 c2 c3 c4
      match cs', hcl with
      | [u0, u1, u2, u3, u4], _ =>
        match ys, hyl with
        | [y0, y1, y2, y3, y4], _ =>
          have f0 : DataW.trod enc Try.prog W 0 (fun _ => true) true n' 3 (List.take (Try.prog.cellsOf 3) (List.drop 0 [u0, u1, u2, u3, u4])) = some y0 := hfs 0 _ rfl
          have f1 : DataW.trod enc Try.prog W 0 (fun _ => true) true n' 3 (List.take (Try.prog.cellsOf 3) (List.drop 1 [u0, u1, u2, u3, u4])) = some y1 := hfs 1 _ rfl
          have f2 : DataW.trod enc Try.prog W 0 (fun _ => true) true n' 22 (List.take (Try.prog.cellsOf 22) (List.drop 2 [u0, u1, u2, u3, u4])) = some y2 := hfs 2 _ rfl
          have f3 : DataW.trod enc Try.prog W 0 (fun _ => true) true n' 48 (List.take (Try.prog.cellsOf 48) (List.drop 3 [u0, u1, u2, u3, u4])) = some y3 := hfs 3 _ rfl
          have f4 : DataW.trod enc Try.prog W 0 (fun _ => true) true n' 49 (List.take (Try.prog.cellsOf 49) (List.drop 4 [u0, u1, u2, u3, u4])) = some y4 := hfs 4 _ rfl
          rw [Try.cellsInt] at f0 f1
          rw [Try.cellsU32b] at f2
          rw [Try.cellsBs] at f3
          rw [Try.cellsIs] at f4
          have s3 : Sized 48 y3.1 := hsD.part Try.underlying51 (j := 3) rfl rfl
          have s4 : Sized 49 y4.1 := hsD.part Try.underlying51 (j := 4) rfl rfl
          obtain ⟨k, e0, _, w0⟩ := DataW.trod_int Try.underlying3 f0
          obtain ⟨x, e1, _, w1⟩ := DataW.trod_int Try.underlying3 f1
          obtain ⟨u, e2, _, w2⟩ := DataW.trod_int Try.underlying22 f2
          obtain ⟨vb, bs, e3, hb, hbl⟩ := open_bytesCellS f3 s3
          obtain ⟨ko, kc, ks, e4, hk, hkr, hkl, hkn⟩ := open_intsCellS f4 s4
          simp at e0 e1 e2 e3 e4
          subst e0 e1 e2 e3 e4
          have r0 : i64R k := by simpa [i64R, Lit.wf, IntKind.min, IntKind.max, IntKind.signed, IntKind.bits] using w0
          have r1 : i64R x := by simpa [i64R, Lit.wf, IntKind.min, IntKind.max, IntKind.signed, IntKind.bits] using w1
          have r2 : u32R u := by simpa [u32R, Lit.wf, IntKind.min, IntKind.max, IntKind.signed, IntKind.bits] using w2
          have c0' : W.cell? (a.add (i * 5)) = some (.int .i64 k) := by simpa using c0
          obtain ⟨g, off, rfl⟩ := haddr (by omega)
          simp only [add_lit] at c0' c1 c2 c3 c4
          exact ⟨⟨k, x, u, bs, ks⟩, g, off, rfl, c0', by rw [Nat.add_assoc]; simpa using c1, by rw [Nat.add_assoc]; simpa using c2, ⟨_, by rw [Nat.add_assoc]; simpa using c3, hb, hbl⟩, ⟨ko, kc, by rw [Nat.add_assoc]; simpa using c4, hk, hkl, hkn⟩, r0, r1, r2, hkr⟩
    obtain ⟨F, hF⟩ := Go.Deep.choose_lt each
    refine ⟨(List.range len).map F, some a, cap, by simp, fun j hj => ?_⟩
    simp only [List.length_map, List.length_range] at hj
    have e : ((List.range len).map F).getD j default = F j := by simp [List.getD_eq_getElem?_getD, hj]
    rw [e]
    obtain ⟨g, off, ha, h1⟩ := hF j hj
    exact ⟨g, off, by rw [ha], h1⟩

theorem open_bytesCell0 {H : Type} {enc : TypeId × Value → H} {W : World} {fuel : Nat} {cs : List Value} {y : DataW H × List MemPlace} (h : DataW.trod enc Try.prog W 0 (fun _ => true) true fuel 48 cs = some y) :
    ∃ (v : Value) (bs : List UInt8), cs = [v] ∧ SlN W v bs := by
  rcases open_ints Try.underlying48 Try.underlying5 Try.cellsU8 h with ⟨hcs, hx⟩ | ⟨a, len', cap', zs, hcs, _, hl, hm, hz, hx, hcell, hwz⟩
  · exact ⟨_, [], hcs, .inl ⟨rfl, rfl⟩, none, 0, rfl, Nat.le_refl _⟩
  · simp only [if_true] at hz
    have hbl : ((zs.take len').map fun z => UInt8.ofNat z.toNat).length = len' := by simp; omega
    refine ⟨_, (zs.take len').map fun z => UInt8.ofNat z.toNat, hcs, .inr ⟨a, cap', by rw [hbl], fun j hj => ?_⟩, some a, cap', by rw [hbl], by rw [hbl]; exact hl⟩
    rw [hbl] at hj
    rw [hcell j (by omega)]
    have hjz : j < zs.length := by omega
    have hw := hwz zs[j] (List.getElem_mem hjz)
    have hb : 0 ≤ zs[j] ∧ zs[j] ≤ 255 := by simpa [Lit.wf, IntKind.min, IntKind.max, IntKind.signed, IntKind.bits] using hw
    have e1 : zs.getD j 0 = zs[j] := by simp [hjz]
    have e2 : ((zs.take len').map fun z => UInt8.ofNat z.toNat).getD j 0 = UInt8.ofNat (zs[j]).toNat := by
      simp [List.getD_eq_getElem?_getD, hj, hjz]
    rw [e1, e2]
    congr 2
    simp
    omega
/-- A slice of slices of bytes. -/
def SlR (w : World) (ao : Option Addr) (ls : List (List UInt8)) : Prop := ∀ j, j < ls.length → ∃ g off v, ao = some ⟨g, off, none⟩ ∧ w.cell? ⟨g, off + j, none⟩ = some v ∧ SlN w v (ls.getD j [])
theorem open_rowsArg {H : Type} {enc : TypeId × Value → H} {W : World} {base : Nat} {v : Value} {d : DataW H} {pl : List MemPlace}
    (hok : Value.okWide Try.prog W .any base 62 v) (h : DataW.Trod enc Try.prog W 0 (fun _ => true) true 62 v d pl) :
    ∃ (ls : List (List UInt8)) (ao : Option Addr) (c : Nat), v = .slice ao ls.length c ∧ SlR W ao ls := by
  obtain ⟨a0, len, cap, rfl⟩ := okWide_slice Try.underlying62 hok
  obtain ⟨fuel, hf⟩ := h
  rcases Go.Deep.open_slice Try.underlying62 hf with ⟨hcs, hx⟩ | ⟨a, len', cap', m, n, D, Pl, hcs, _, hl, hm, hmm, hx, hel⟩
  · simp [Value.cells] at hcs
    obtain ⟨rfl, rfl, rfl⟩ := hcs
    exact ⟨[], none, 0, rfl, fun j hj => by simp at hj⟩
  · simp [Value.cells] at hcs
    obtain ⟨rfl, rfl, rfl⟩ := hcs
    simp only [if_true] at hmm
    have haddr : 0 < len → ∃ g off, a = ⟨g, off, none⟩ := fun h0 => by
      obtain ⟨cs', hc, _⟩ := hel 0 (by omega)
      rw [Try.cellsBs] at hc
      obtain ⟨_, hcl, hat⟩ := World.cells?_some hc
      have c0 := (hat 0 (by omega)).trans (List.getElem?_eq_getElem (by omega))
      obtain ⟨b, off, spot⟩ := a
      have hspot : spot = none := by simpa [Addr.add] using World.cell?_spot c0
      subst hspot
      exact ⟨b, off, rfl⟩
    have each : ∀ i, i < len → ∃ bs : List UInt8, ∃ g off v, a = ⟨g, off, none⟩ ∧ W.cell? ⟨g, off + i, none⟩ = some v ∧ SlN W v bs := by
      intro i hi
      obtain ⟨cs', hc, ht⟩ := hel i (by omega)
      rw [Try.cellsBs] at hc
      obtain ⟨_, hcl, hat⟩ := World.cells?_some hc
      have c0 := hat 0 (by omega)
      rw [Go.Deep.add_add] at c0
      obtain ⟨vb, bs, e, hb⟩ := open_bytesCell0 ht
      subst e
      have c0' : W.cell? (a.add i) = some vb := by simpa using c0
      obtain ⟨b, off, rfl⟩ := haddr (by omega)
      exact ⟨bs, b, off, vb, rfl, by rw [← add_lit]; exact c0', hb⟩
    obtain ⟨F, hF⟩ := Go.Deep.choose_lt each
    refine ⟨(List.range len).map F, some a, cap, by simp, fun j hj => ?_⟩
    simp only [List.length_map, List.length_range] at hj
    have e : ((List.range len).map F).getD j [] = F j := by simp [List.getD_eq_getElem?_getD, hj]
    rw [e]
    obtain ⟨g, off, v, ha, h1, h2⟩ := hF j hj
    exact ⟨g, off, v, by rw [ha], h1, h2⟩
theorem SlR.keep {w w' : World} {ao : Option Addr} {ls : List (List UInt8)} (h : SlR w ao ls) (ho : Only (fun _ => False) w w') : SlR w' ao ls := fun j hj => by
  obtain ⟨g, off, v, e, c, hs, hv⟩ := h j hj
  exact ⟨g, off, v, e, ho.cellq c, hs.keep ho, hv⟩

end Go.Proofs.Ytbimhiffcdhcaaa
