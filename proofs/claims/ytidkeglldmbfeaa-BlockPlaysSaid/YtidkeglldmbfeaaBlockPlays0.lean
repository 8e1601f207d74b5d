/-
  Joined: OpsArg BlkArg BlkR4 BlkR4b BlkR5 BlkR6 PlayBase.
-/
import Derived.Test.YtidkeglldmbfeaaDiskArg
import Derived.Test.YtidkeglldmbfeaaCopyInts
import Derived.Test.YtidkeglldmbfeaaOpenCap
import Derived.Test.YtidkeglldmbfeaaBlkR3
import Derived.Test.YtidkeglldmbfeaaDiskRef9
import Derived.Test.YtidkeglldmbfeaaMem2
import Derived.Deep.QuietTactic
import Derived.BigQuiet
import Derived.StillTailTactics
import Derived.Test.YtidkeglldmbfeaaBlkR1
import Derived.Test.YtidkeglldmbfeaaDiskTwice
import Derived.Test.YtidkeglldmbfeaaApart
import Derived.Deep.RegionHeld3

namespace Go.Proofs.Ytidkeglldmbfeaa
open Go Go.ChangeShapes Go.WideShapes Go.ChangeAt Go.RowKit
set_option linter.unusedVariables false
set_option linter.unusedSimpArgs false
set_option maxRecDepth 100000

def Sized {H : Type} (t : TypeId) (d : DataW H) : Prop := ∀ n ∈ d.weights Try.prog t, n ≤ 140737488351232
theorem sized_all {H : Type} {e : TypeId} : ∀ {l : List (DataW H)} {d : DataW H}, d ∈ l → ∀ n ∈ d.weights Try.prog e, n ∈ DataW.weightsAll Try.prog e l
  | [], d, h, _, _ => by cases h
  | x :: l, d, h, n, hn => by
    simp only [DataW.weightsAll, List.mem_append]
    rcases List.mem_cons.1 h with rfl | h
    · exact .inl hn
    · exact .inr (sized_all h n hn)
theorem Sized.elem {H : Type} {t e : TypeId} {elems spare : List (DataW H)} (h : Sized t (.slice elems spare)) (hu : Try.prog.underlying t = some (.slice e)) {d : DataW H} (hd : d ∈ elems) : Sized e d := fun n hn =>
  h n (by simp only [DataW.weights, hu, List.mem_cons, List.mem_append]; exact .inr (.inl (sized_all hd n hn)))
theorem Sized.part {H : Type} {t : TypeId} {fs : Array Field} {parts : List (DataW H)} (h : Sized t (.agg parts)) (hu : Try.prog.underlying t = some (.struct fs)) {j : Nat} {e : TypeId} {d : DataW H} (ht : (fs.toList.map (·.type))[j]? = some e) (hd : parts[j]? = some d) : Sized e d := fun n hn =>
  h n (by simp only [DataW.weights, hu]; exact DataW.weights_mem_each ht hd n hn)
theorem Sized.len {H : Type} {t e : TypeId} {elems spare : List (DataW H)} (h : Sized t (.slice elems spare)) (hu : Try.prog.underlying t = some (.slice e)) : (elems.length + spare.length) * Try.prog.bytesOf e ≤ 140737488351232 :=
  h _ (by simp only [DataW.weights, hu, List.mem_cons]; exact .inl trivial)
theorem sized_arg {H : Type} {ts : List TypeId} {ds : List (DataW H)} (h : (DataW.weightsEach Try.prog ts ds).all (· ≤ reachBytes) = true) {j : Nat} {t : TypeId} {d : DataW H} (ht : ts[j]? = some t) (hd : ds[j]? = some d) : Sized t d := fun n hn => by
  have := List.all_eq_true.1 h n (DataW.weights_mem_each ht hd n hn)
  have h2 : n ≤ reachBytes := by simpa using this
  exact h2

theorem open_bytesCellS {H : Type} {enc : TypeId × Value → H} {W : World} {fuel : Nat} {cs : List Value} {y : DataW H × List MemPlace} (h : DataW.trod enc Try.prog W 0 (fun _ => true) true fuel 31 cs = some y) (hs : Sized 31 y.1) :
    ∃ (v : Value) (bs : List UInt8), cs = [v] ∧ SlN W v bs ∧ bs.length ≤ 140737488351232 := by
  rcases open_ints Try.underlying31 Try.underlying5 Try.cellsU8 h with ⟨hcs, hx⟩ | ⟨a, len', cap', zs, hcs, _, hl, hm, hz, hx, hcell, hwz⟩
  · exact ⟨_, [], hcs, ⟨.inl ⟨rfl, rfl⟩, none, 0, rfl, Nat.le_refl _⟩, Nat.zero_le _⟩
  · simp only [if_true] at hz
    have hbl : ((zs.take len').map fun z => UInt8.ofNat z.toNat).length = len' := by simp; omega
    refine ⟨_, (zs.take len').map fun z => UInt8.ofNat z.toNat, hcs, ⟨.inr ⟨a, cap', by rw [hbl], fun j hj => ?_⟩, some a, cap', by rw [hbl], by rw [hbl]; exact hl⟩, ?_⟩
    · rw [hbl] at hj
      rw [hcell j (by omega)]
      have hjz : j < zs.length := by omega
      have hw := hwz zs[j] (List.getElem_mem hjz)
      have hb : 0 ≤ zs[j] ∧ zs[j] ≤ 255 := by simpa [Lit.wf, IntKind.min, IntKind.max, IntKind.signed, IntKind.bits] using hw
      have e1 : zs.getD j 0 = zs[j] := by simp [hjz]
      have e2 : ((zs.take len').map fun z => UInt8.ofNat z.toNat).getD j 0 = UInt8.ofNat (zs[j]).toNat := by
        simp [List.getD_eq_getElem?_getD, hj, hjz]
      rw [e1, e2]
      congr 2
      simp
      omega
    · subst hx
      have := hs.len Try.underlying31
      rw [Try.bytesU8] at this
      simp [lits] at this
      rw [hbl]
      omega
theorem open_intsCellS {H : Type} {enc : TypeId × Value → H} {W : World} {fuel : Nat} {cs : List Value} {y : DataW H × List MemPlace} (h : DataW.trod enc Try.prog W 0 (fun _ => true) true fuel 39 cs = some y) (hs : Sized 39 y.1) :
    ∃ (ao : Option Addr) (c : Nat) (ks : List Int), cs = [.slice ao ks.length c] ∧ SlI W ao ks ∧ (∀ z ∈ ks, i64R z) ∧ ks.length * 8 ≤ 140737488351232 ∧ (ao = none → c = 0) := by
  rcases open_ints Try.underlying39 Try.underlying3 Try.cellsInt h with ⟨hcs, hx⟩ | ⟨a, len', cap', zs, hcs, _, hl, hm, hz, hx, hcell, hwz⟩
  · exact ⟨none, 0, [], hcs, fun j hj => by simp at hj, by simp, by simp, fun _ => rfl⟩
  · simp only [if_true] at hz
    have hbl : (zs.take len').length = len' := by simp; omega
    refine ⟨some a, cap', zs.take len', by rw [hbl]; exact hcs, fun j hj => ?_, fun z hz => ?_, ?_, fun h => by cases h⟩
    · rw [hbl] at hj
      obtain ⟨g, off, rfl⟩ := addr_of_cell (hcell 0 (by omega))
      refine ⟨g, off, rfl, ?_⟩
      rw [← add_lit, hcell j (by omega)]
      congr 2
      simp [List.getD_eq_getElem?_getD, hj]
    · have hw := hwz z (List.mem_of_mem_take hz)
      simpa [i64R, Lit.wf, IntKind.min, IntKind.max, IntKind.signed, IntKind.bits] using hw
    · subst hx
      have := hs.len Try.underlying39
      rw [Try.bytesInt] at this
      simp [lits] at this
      rw [hbl]
      omega

/-- A call of the statements of package disk, as it lies in memory. -/
structure OpS (w : World) (g o : Nat) (x : OpT) : Prop where
  k : w.cell? ⟨g, o, none⟩ = some (.int .i64 x.K)
  i : w.cell? ⟨g, o + 1, none⟩ = some (.int .i64 x.I)
  b : ∃ v, w.cell? ⟨g, o + 2, none⟩ = some v ∧ SlN w v x.B ∧ x.B.length ≤ 140737488351232
  l : ∃ ao c, w.cell? ⟨g, o + 3, none⟩ = some (.slice ao x.L.length c) ∧ SlI w ao x.L ∧ x.L.length * 8 ≤ 140737488351232 ∧ (ao = none → c = 0)
  rk : i64R x.K
  ri : i64R x.I
  rl : ∀ z ∈ x.L, i64R z
def SlOpS (w : World) (ao : Option Addr) (os : List OpT) : Prop := ∀ j, j < os.length → ∃ g off, ao = some ⟨g, off, none⟩ ∧ OpS w g (off + j * 4) (os.getD j default)
theorem open_opsArgS {H : Type} {enc : TypeId × Value → H} {W : World} {base : Nat} {v : Value} {d : DataW H} {pl : List MemPlace}
    (hok : Value.okWide Try.prog W .any base 22 v) (h : DataW.Trod enc Try.prog W 0 (fun _ => true) true 22 v d pl) (hs : Sized 22 d) :
    ∃ (os : List OpT) (ao : Option Addr) (c : Nat), v = .slice ao os.length c ∧ SlOpS W ao os := by
  obtain ⟨a0, len, cap, rfl⟩ := okWide_slice Try.underlying22 hok
  obtain ⟨fuel, hf⟩ := h
  rcases Go.Deep.open_slice Try.underlying22 hf with ⟨hcs, hx⟩ | ⟨a, len', cap', m, n, D, Pl, hcs, _, hl, hm, hmm, hx, hel⟩
  · simp [Value.cells] at hcs
    obtain ⟨rfl, rfl, rfl⟩ := hcs
    exact ⟨[], none, 0, rfl, fun j hj => by simp at hj⟩
  · simp [Value.cells] at hcs
    obtain ⟨rfl, rfl, rfl⟩ := hcs
    simp only [if_true] at hmm
    simp only [Prod.mk.injEq] at hx
    obtain ⟨rfl, _⟩ := hx
    have haddr : 0 < len → ∃ g off, a = ⟨g, off, none⟩ := fun h0 => by
      obtain ⟨cs', hc, _⟩ := hel 0 (by omega)
      rw [Try.cellsOp] at hc
      obtain ⟨_, hcl, hat⟩ := World.cells?_some hc
      have c0 := (hat 0 (by omega)).trans (List.getElem?_eq_getElem (by omega))
      obtain ⟨b, off, spot⟩ := a
      have hspot : spot = none := by simpa [Addr.add] using World.cell?_spot c0
      subst hspot
      exact ⟨b, off, rfl⟩
    have each : ∀ i, i < len → ∃ x : OpT, ∃ g off, a = ⟨g, off, none⟩ ∧ OpS W g (off + i * 4) x := by
      intro i hi
      obtain ⟨cs', hc, ht⟩ := hel i (by omega)
      have hsD : Sized 41 (D i) := hs.elem Try.underlying22 (List.mem_map.2 ⟨i, List.mem_range.2 hi, rfl⟩)
      rw [Try.cellsOp] at hc
      obtain ⟨_, hcl, hat⟩ := World.cells?_some hc
      obtain ⟨ys, n', _, hy, _, hyl, hfs⟩ := DataW.trod_struct Try.underlying41 ht
      simp only [Prod.mk.injEq] at hy
      rw [hy.1] at hsD
      have c0 := hat 0 (by omega)
      have c1 := hat 1 (by omega)
      have c2 := hat 2 (by omega)
      have c3 := hat 3 (by omega)
      rw [Go.Deep.add_add] at c0 c1 c2 c3
      match cs', hcl with
      | [u0, u1, u2, u3], _ =>
        match ys, hyl with
        | [y0, y1, y2, y3], _ =>
          have f0 : DataW.trod enc Try.prog W 0 (fun _ => true) true n' 3 (List.take (Try.prog.cellsOf 3) (List.drop 0 [u0, u1, u2, u3])) = some y0 := hfs 0 _ rfl
          have f1 : DataW.trod enc Try.prog W 0 (fun _ => true) true n' 3 (List.take (Try.prog.cellsOf 3) (List.drop 1 [u0, u1, u2, u3])) = some y1 := hfs 1 _ rfl
          have f2 : DataW.trod enc Try.prog W 0 (fun _ => true) true n' 31 (List.take (Try.prog.cellsOf 31) (List.drop 2 [u0, u1, u2, u3])) = some y2 := hfs 2 _ rfl
          have f3 : DataW.trod enc Try.prog W 0 (fun _ => true) true n' 39 (List.take (Try.prog.cellsOf 39) (List.drop 3 [u0, u1, u2, u3])) = some y3 := hfs 3 _ rfl
          rw [Try.cellsInt] at f0 f1
          rw [Try.cellsBs] at f2
          rw [Try.cellsIs] at f3
          have s2 : Sized 31 y2.1 := hsD.part Try.underlying41 (j := 2) rfl rfl
          have s3 : Sized 39 y3.1 := hsD.part Try.underlying41 (j := 3) rfl rfl
          obtain ⟨k, e0, _, w0⟩ := DataW.trod_int Try.underlying3 f0
          obtain ⟨x, e1, _, w1⟩ := DataW.trod_int Try.underlying3 f1
          obtain ⟨vb, bs, e2, hb, hbl⟩ := open_bytesCellS f2 s2
          obtain ⟨ko, kc, ks, e3, hk, hkr, hkl, hkn⟩ := open_intsCellS f3 s3
          simp at e0 e1 e2 e3
          subst e0 e1 e2 e3
          have r0 : i64R k := by simpa [i64R, Lit.wf, IntKind.min, IntKind.max, IntKind.signed, IntKind.bits] using w0
          have r1 : i64R x := by simpa [i64R, Lit.wf, IntKind.min, IntKind.max, IntKind.signed, IntKind.bits] using w1
          have c0' : W.cell? (a.add (i * 4)) = some (.int .i64 k) := by simpa using c0
          obtain ⟨g, off, rfl⟩ := haddr (by omega)
          simp only [add_lit] at c0' c1 c2 c3
          exact ⟨⟨k, x, bs, ks⟩, g, off, rfl, c0', by rw [Nat.add_assoc]; simpa using c1, ⟨_, by rw [Nat.add_assoc]; simpa using c2, hb, hbl⟩, ⟨ko, kc, by rw [Nat.add_assoc]; simpa using c3, hk, hkl, hkn⟩, r0, r1, hkr⟩
    obtain ⟨F, hF⟩ := Go.Deep.choose_lt each
    refine ⟨(List.range len).map F, some a, cap, by simp, fun j hj => ?_⟩
    simp only [List.length_map, List.length_range] at hj
    have e : ((List.range len).map F).getD j default = F j := by simp [List.getD_eq_getElem?_getD, hj]
    rw [e]
    obtain ⟨g, off, ha, h1⟩ := hF j hj
    exact ⟨g, off, by rw [ha], h1⟩

end Go.Proofs.Ytidkeglldmbfeaa

namespace Go.Proofs.Ytidkeglldmbfeaa
open Go Go.ChangeShapes Go.WideShapes Go.ChangeAt Go.RowKit
set_option linter.unusedVariables false
set_option linter.unusedSimpArgs false
set_option maxRecDepth 100000

/-- One call on blocks: its kind, its number, its name, its bytes, its list. -/
structure OpU where
  K : Int
  I : Int
  D : Int
  B : List UInt8
  L : List Int
instance : Inhabited OpU := ⟨⟨0, 0, 0, [], []⟩⟩
def u64R (z : Int) : Prop := 0 ≤ z ∧ z ≤ 18446744073709551615
theorem Try.cellsOpU : Try.prog.cellsOf 53 = 5 := by kernel_rfl
theorem Try.cellsU64b : Try.prog.cellsOf 51 = 1 := by kernel_rfl

/-- A call of the statements on blocks, as it lies in memory. -/
structure OpUS (w : World) (g o : Nat) (x : OpU) : Prop where
  k : w.cell? ⟨g, o, none⟩ = some (.int .i64 x.K)
  i : w.cell? ⟨g, o + 1, none⟩ = some (.int .i64 x.I)
  d : w.cell? ⟨g, o + 2, none⟩ = some (.int .u64 x.D)
  b : ∃ v, w.cell? ⟨g, o + 3, none⟩ = some v ∧ SlN w v x.B ∧ x.B.length ≤ 140737488351232
  l : ∃ ao c, w.cell? ⟨g, o + 4, none⟩ = some (.slice ao x.L.length c) ∧ SlI w ao x.L ∧ x.L.length * 8 ≤ 140737488351232 ∧ (ao = none → c = 0)
  rk : i64R x.K
  ri : i64R x.I
  rd : u64R x.D
  rl : ∀ z ∈ x.L, i64R z
def SlOpU (w : World) (ao : Option Addr) (os : List OpU) : Prop := ∀ j, j < os.length → ∃ g off, ao = some ⟨g, off, none⟩ ∧ OpUS w g (off + j * 5) (os.getD j default)
theorem open_opsArgU {H : Type} {enc : TypeId × Value → H} {W : World} {base : Nat} {v : Value} {d : DataW H} {pl : List MemPlace}
    (hok : Value.okWide Try.prog W .any base 49 v) (h : DataW.Trod enc Try.prog W 0 (fun _ => true) true 49 v d pl) (hs : Sized 49 d) :
    ∃ (os : List OpU) (ao : Option Addr) (c : Nat), v = .slice ao os.length c ∧ SlOpU W ao os := by
  obtain ⟨a0, len, cap, rfl⟩ := okWide_slice Try.underlying49 hok
  obtain ⟨fuel, hf⟩ := h
  rcases Go.Deep.open_slice Try.underlying49 hf with ⟨hcs, hx⟩ | ⟨a, len', cap', m, n, D, Pl, hcs, _, hl, hm, hmm, hx, hel⟩
  · simp [Value.cells] at hcs
    obtain ⟨rfl, rfl, rfl⟩ := hcs
    exact ⟨[], none, 0, rfl, fun j hj => by simp at hj⟩
  · simp [Value.cells] at hcs
    obtain ⟨rfl, rfl, rfl⟩ := hcs
    simp only [if_true] at hmm
    simp only [Prod.mk.injEq] at hx
    obtain ⟨rfl, _⟩ := hx
    have haddr : 0 < len → ∃ g off, a = ⟨g, off, none⟩ := fun h0 => by
      obtain ⟨cs', hc, _⟩ := hel 0 (by omega)
      rw [Try.cellsOpU] at hc
      obtain ⟨_, hcl, hat⟩ := World.cells?_some hc
      have c0 := (hat 0 (by omega)).trans (List.getElem?_eq_getElem (by omega))
      obtain ⟨b, off, spot⟩ := a
      have hspot : spot = none := by simpa [Addr.add] using World.cell?_spot c0
      subst hspot
      exact ⟨b, off, rfl⟩
    have each : ∀ i, i < len → ∃ x : OpU, ∃ g off, a = ⟨g, off, none⟩ ∧ OpUS W g (off + i * 5) x := by
      intro i hi
      obtain ⟨cs', hc, ht⟩ := hel i (by omega)
      have hsD : Sized 53 (D i) := hs.elem Try.underlying49 (List.mem_map.2 ⟨i, List.mem_range.2 hi, rfl⟩)
      rw [Try.cellsOpU] at hc
      obtain ⟨_, hcl, hat⟩ := World.cells?_some hc
      obtain ⟨ys, n', _, hy, _, hyl, hfs⟩ := DataW.trod_struct Try.underlying53 ht
      simp only [Prod.mk.injEq] at hy
      rw [hy.1] at hsD
      have c0 := hat 0 (by omega)
      have c1 := hat 1 (by omega)
      have c2 := hat 2 (by omega)
      have c3 := hat 3 (by omega)
      have c4 := hat 4 (by omega)
      rw [Go.Deep.add_add] at c0 c1 c2 c3 c4
      match cs', hcl with
      | [u0, u1, u2, u3, u4], _ =>
        match ys, hyl with
        | [y0, y1, y2, y3, y4], _ =>
          have f0 : DataW.trod enc Try.prog W 0 (fun _ => true) true n' 3 (List.take (Try.prog.cellsOf 3) (List.drop 0 [u0, u1, u2, u3, u4])) = some y0 := hfs 0 _ rfl
          have f1 : DataW.trod enc Try.prog W 0 (fun _ => true) true n' 3 (List.take (Try.prog.cellsOf 3) (List.drop 1 [u0, u1, u2, u3, u4])) = some y1 := hfs 1 _ rfl
          have f2 : DataW.trod enc Try.prog W 0 (fun _ => true) true n' 51 (List.take (Try.prog.cellsOf 51) (List.drop 2 [u0, u1, u2, u3, u4])) = some y2 := hfs 2 _ rfl
          have f3 : DataW.trod enc Try.prog W 0 (fun _ => true) true n' 31 (List.take (Try.prog.cellsOf 31) (List.drop 3 [u0, u1, u2, u3, u4])) = some y3 := hfs 3 _ rfl
          have f4 : DataW.trod enc Try.prog W 0 (fun _ => true) true n' 39 (List.take (Try.prog.cellsOf 39) (List.drop 4 [u0, u1, u2, u3, u4])) = some y4 := hfs 4 _ rfl
          rw [Try.cellsInt] at f0 f1
          rw [Try.cellsU64b] at f2
          rw [Try.cellsBs] at f3
          rw [Try.cellsIs] at f4
          have s3 : Sized 31 y3.1 := hsD.part Try.underlying53 (j := 3) rfl rfl
          have s4 : Sized 39 y4.1 := hsD.part Try.underlying53 (j := 4) rfl rfl
          obtain ⟨k, e0, _, w0⟩ := DataW.trod_int Try.underlying3 f0
          obtain ⟨x, e1, _, w1⟩ := DataW.trod_int Try.underlying3 f1
          obtain ⟨u, e2, _, w2⟩ := DataW.trod_int Try.underlying51 f2
          obtain ⟨vb, bs, e3, hb, hbl⟩ := open_bytesCellS f3 s3
          obtain ⟨ko, kc, ks, e4, hk, hkr, hkl, hkn⟩ := open_intsCellS f4 s4
          simp at e0 e1 e2 e3 e4
          subst e0 e1 e2 e3 e4
          have r0 : i64R k := by simpa [i64R, Lit.wf, IntKind.min, IntKind.max, IntKind.signed, IntKind.bits] using w0
          have r1 : i64R x := by simpa [i64R, Lit.wf, IntKind.min, IntKind.max, IntKind.signed, IntKind.bits] using w1
          have r2 : u64R u := by simpa [u64R, Lit.wf, IntKind.min, IntKind.max, IntKind.signed, IntKind.bits] using w2
          have c0' : W.cell? (a.add (i * 5)) = some (.int .i64 k) := by simpa using c0
          obtain ⟨g, off, rfl⟩ := haddr (by omega)
          simp only [add_lit] at c0' c1 c2 c3 c4
          exact ⟨⟨k, x, u, bs, ks⟩, g, off, rfl, c0', by rw [Nat.add_assoc]; simpa using c1, by rw [Nat.add_assoc]; simpa using c2, ⟨_, by rw [Nat.add_assoc]; simpa using c3, hb, hbl⟩, ⟨ko, kc, by rw [Nat.add_assoc]; simpa using c4, hk, hkl, hkn⟩, r0, r1, r2, hkr⟩
    obtain ⟨F, hF⟩ := Go.Deep.choose_lt each
    refine ⟨(List.range len).map F, some a, cap, by simp, fun j hj => ?_⟩
    simp only [List.length_map, List.length_range] at hj
    have e : ((List.range len).map F).getD j default = F j := by simp [List.getD_eq_getElem?_getD, hj]
    rw [e]
    obtain ⟨g, off, ha, h1⟩ := hF j hj
    exact ⟨g, off, by rw [ha], h1⟩

end Go.Proofs.Ytidkeglldmbfeaa

namespace Go.Proofs.Ytidkeglldmbfeaa
open Go Go.RowKit
set_option linter.unusedVariables false
set_option linter.unusedSimpArgs false
set_option maxRecDepth 100000

theorem pad_pad {b : List UInt8} (h : b.length ≤ 64) : pad (pad b) = pad b := by
  have := pad_length h
  unfold pad at this ⊢
  rw [this]
  simp
theorem write_pad (D : DS) (i : Int) {b : List UInt8} (h : b.length ≤ 64) : D.write i (pad b) = D.write i b ∧ D.wrE i (pad b) = D.wrE i b := by
  have hl := pad_length h
  have e1 : decide (64 < (pad b).length) = decide (64 < b.length) := by rw [hl]; simp; omega
  refine ⟨?_, ?_⟩
  · unfold DS.write
    rw [e1, pad_pad h]
  · unfold DS.wrE
    rw [e1]

/-- The sectors of a block, each in a row of its own. -/
def SecR (vl : Value) (id : Nat) (xs : List UInt8) (c : Nat) : Res := fun w F => ∃ vs : List Value, vs.length = c ∧ w.ownsRow 0 31 1 vl c vs ∧ (∀ j, j < c → w.ownsRow 0 5 1 (vs.getD j (.slice none 0 0)) 64 (u8s (pad (partAt id xs j).out))) ∧
  ∀ k, F k ↔ vl.ownBlock = some k ∨ ∃ j, j < c ∧ (vs.getD j (.slice none 0 0)).ownBlock = some k
instance {vl : Value} {id : Nat} {xs : List UInt8} {c : Nat} : Stab (SecR vl id xs c) where
  lt := by
    rintro w F ⟨vs, h1, h2, h3, h4⟩ k hk
    rcases (h4 k).1 hk with h | ⟨j, hj, h⟩
    · exact own_lt h2 h
    · exact own_lt (h3 j hj) h
  keep := by
    rintro w w' F ⟨vs, h1, h2, h3, h4⟩ hk
    exact ⟨vs, h1, own_keepAt h2 (fun k e => hk k ((h4 k).2 (.inl e))), fun j hj => own_keepAt (h3 j hj) (fun k e => hk k ((h4 k).2 (.inr ⟨j, hj, e⟩))), h4⟩
theorem SecI.own {w0 w w' : World} {I : Res} [Stab I] {vl : Value} {id : Nat} {xs : List UInt8} {c : Nat} (h : Own w0 w I) (hs : SecI w w' id xs c vl) : Own w0 w' (Sep (SecR vl id xs c) I) := by
  obtain ⟨vs, h1, h2, h3⟩ := hs.ex
  refine h.fresh hs.only (B := fun k => vl.ownBlock = some k ∨ ∃ j, j < c ∧ (vs.getD j (.slice none 0 0)).ownBlock = some k) ⟨vs, h1, own_base h2 (Nat.zero_le _), fun j hj => own_base (h3 j hj) (Nat.zero_le _), fun _ => Iff.rfl⟩ ?_
  rintro k (e | ⟨j, hj, e⟩)
  · exact (h2.lt k e).1
  · exact ((h3 j hj).lt k e).1
theorem SecR.cell {w : World} {F : Nat → Prop} {ao : Option Addr} {id : Nat} {xs : List UInt8} {c cap : Nat} (h : SecR (.slice ao c cap) id xs c w F) {j : Nat} (hj : j < c) :
    ∃ g uo uc, ao = some ⟨g, 0, none⟩ ∧ w.cell? ⟨g, j, none⟩ = some (.slice uo 64 uc) ∧ SlC w (.slice uo 64 uc) (pad (partAt id xs j).out) := by
  obtain ⟨vs, h1, h2, h3, _⟩ := h
  obtain ⟨uo, uc, hu⟩ := own_shapeN (h3 j hj)
  have h4 := h3 j hj
  rw [hu] at h4
  have hl : (pad (partAt id xs j).out).length = 64 := pad_length (partAt_len id xs j)
  have hs : SlC w (.slice uo 64 uc) (pad (partAt id xs j).out) := by
    have h5 := h4
    rw [← hl] at h5 ⊢
    exact (own_toB h5).toC
  have h2' := h2
  rcases h2.2 with ⟨e, h0⟩ | ⟨g, cap', cur, e, _⟩
  · omega
  · simp at e
    obtain ⟨rfl, rfl⟩ := e
    refine ⟨g, uo, uc, rfl, ?_, hs⟩
    rw [h2'.cellAt j (by omega), List.getElem?_eq_getElem (by omega)]
    rw [← hu]
    simp [List.getD_eq_getElem?_getD, show j < vs.length by omega]
theorem SecR.apart {w : World} {B F : Nat → Prop} {J : Res} {g : Nat} {id : Nat} {xs : List UInt8} {c cap : Nat} {uo : Option Addr} {uc : Nat} (h : Sep (SecR (.slice (some ⟨g, 0, none⟩) c cap) id xs c) J w B) (hd : ∀ k, F k → ¬ B k) {j : Nat} (hj : j < c)
    (hc : w.cell? ⟨g, j, none⟩ = some (.slice uo 64 uc)) (hs : SlC w (.slice uo 64 uc) (pad (partAt id xs j).out)) : SlO w F (.slice uo 64 uc) (pad (partAt id xs j).out) := by
  obtain ⟨A, C, ⟨vs, h1, h2, h3, h4⟩, _, _, hB⟩ := h
  refine ⟨hs, fun a n cp e hx hk => hd _ hk ((hB _).2 (.inl ((h4 _).2 (.inr ⟨j, hj, ?_⟩))))⟩
  have hcell := h2.cellAt j (by omega)
  rw [hc, List.getElem?_eq_getElem (by omega)] at hcell
  simp at hcell
  have : vs.getD j (.slice none 0 0) = .slice uo 64 uc := by
    rw [hcell]; simp [List.getD_eq_getElem?_getD, show j < vs.length by omega]
  rw [this, e]
  rfl

/-- Behind k rounds of the loop of the reference's Write. -/
def RwI (w0 wr : World) (r : Nat) (D : DS) (s id : Nat) (xs : List UInt8) (vl : Value) (c : Nat) (J : Res) (k : Nat) : Prop :=
  Own w0 wr (Sep (RefR r (D.blk s id xs k)) (Sep (SecR vl id xs c) J)) ∧ (0 < k → (D.blk s id xs k).down = false)

set_option maxHeartbeats 8000000 in
theorem rblk_write_go {w0 w : World} {r : Nat} {D : DS} {J : Res} [Stab J] (h : Own w0 w (Sep (RefR r D) J)) (s id : Nat) (hid : id < 18446744073709551616) (vo : Option Addr) (n vc : Nat) (xs : List UInt8) (hn : n = xs.length)
    (hv : SlN w (.slice vo n vc) xs) (hD : D.n ≤ 4096) (hW : D.W.length ≤ 900000) (hwr : D.wr ≤ 900000)
    (h0 : id ≠ 0) (hx : n ≤ 32768) (hs : s + cntN n ≤ D.n) :
    Calls Try.prog 34 #[.pointer (some ⟨r, 0, none⟩), .int .i64 s, .int .u64 id, .slice vo n vc] w fun e w' => e = .returned (.int .i64 (bwR (D.blk s id xs (cntN n)).down : Int)) ∧ Own w0 w' (Sep (RefR r (D.blk s id xs (cntN n))) J) := by
  obtain ⟨gk, gs, ck, cs, vw, f, kb, sb, wb, hR⟩ := h.ref
  have r1 := hR.cell 1
  simp at r1
  have HCN : Hid (∀ w : World, _) := Lib.hid fun (w : World) => rcount_all (n : Int) w
  rw [cnt_nat hx] at HCN
  have HSEC : Hid (∀ w1 : World, SlN w1 (.slice vo n vc) xs → Calls Try.prog 43 #[.int .u64 id, .slice vo n vc] w1 (SecsPost w1 id xs)) := Lib.hid fun w1 h1 => rsectors id hid _ xs w1 h1 (by rw [← hn]; exact hx)
  obtain ⟨c, hcc⟩ : ∃ c, c = cntN n := ⟨_, rfl⟩
  have hp := cntN_pos n
  have hm := cntN_max hx
  rw [← hcc] at hp hm HCN hs ⊢
  have HCC := Lib.hid hcc
  have HH := Lib.hid h
  have HV := Lib.hid hv
  have HX := Lib.hid hx
  have HID := Lib.hid hid
  have HN := Lib.hid hn
  have HDN := Lib.hid hD
  have HW := Lib.hid hW
  have HWR := Lib.hid hwr
  obtain ⟨z, hz⟩ : ∃ z : Int, z = (s : Int) := ⟨_, rfl⟩
  have h5 : ((id : Int) == 0) = false := by simpa using h0
  have h6 : decide ((32768 : Int) < (n : Int)) = false := by simp; omega
  have h7 : decide (z < 0) = false := by simp; omega
  have h8 : decide ((D.n : Int) < z) = false := by simp; omega
  have h9 : decide ((D.n : Int) < z + (c : Int)) = false := by simp; omega
  have hz0 : 0 ≤ z := by omega
  have hz1 : z ≤ 4096 := by omega
  have hsum : IntKind.i64.wrap (z + (c : Int)) = z + (c : Int) := IntWalk.i64_in _ (by omega)
  have HS := Lib.hid hs
  have HM := Lib.hid hm
  have hm1 : (c : Int) ≤ 656 := by omega
  have hdn1 : (D.n : Int) ≤ 4096 := by omega
  rw [← hz]
  have HZ := Lib.hid hz
  clear h hcc hv hx hid hz hn hW hwr hD hs hm hR
  go_enter Try.func34, Try.ntmps34
  go_upto_region 1 with fail
  refine wp_region_still_lit (by kernel_rfl) (by kernel_rfl) ?_
  repeat still_step
  still_call ((HCN.out _).mono (fun _ _ ⟨a, b⟩ => ⟨a, b.symm⟩))
  repeat still_step
  refine wpStill_nil ?_
  change Exit.then _ _ _ _ w.drew
  clear hsum
  go_wp2_with fail
  refine (HSEC.out w.drew ⟨HV.out.1.keep ((Only.refl _ w).drew), HV.out.2⟩).mono ?_
  rintro e w1 ⟨lo, lc, rfl, hsec⟩
  rw [← HN.out, ← HCC.out] at hsec ⊢
  have hown := SecI.own HH.out.drew hsec
  have HB0 : Hid (RwI w0 w1 r D s id xs (.slice lo c lc) c J 0) := Lib.hid ⟨hown.swap, fun h => by omega⟩
  clear hsec hown HH r1
  go_wp2_with fail
  go_loopw [10] (fun i wr => ∃ k : Nat, k ≤ c ∧ i = .int .i64 k ∧ Hid (RwI w0 wr r D s id xs (.slice lo c lc) c J k)) (fun i _ => c - (intOf i).toNat)
  case atStart => exact ⟨0, Nat.zero_le _, rfl, HB0⟩
  case round =>
    clear HB0
    obtain ⟨k, hk, rfl, HI⟩ := hrel
    by_cases hlt : k < c
    · have hltI : (k : Int) < (c : Int) := by omega
      have hk0 : (0 : Int) ≤ (k : Int) := by omega
      have hk6 : (k : Int) ≤ 656 := by omega
      have HLT := Lib.hid hlt
      have hcellx : ∃ g uo uc, lo = some ⟨g, 0, none⟩ ∧ wr.cell? ⟨g, k, none⟩ = some (.slice uo 64 uc) ∧ SlC wr (.slice uo 64 uc) (pad (partAt id xs k).out) := by
        obtain ⟨F, h5, _⟩ := HI.out.1.snd.fst
        exact SecR.cell h5 hlt
      obtain ⟨g, uo, uc, rfl, hcu, hsu⟩ := hcellx
      have HCU := Lib.hid hcu
      have HSU := Lib.hid hsu
      have hzk : z + (k : Int) = ((s + k : Nat) : Int) := by rw [HZ.out]; omega
      have hfew := blk_few D s id xs k
      have hwh := write_here (D := D.blk s id xs k) (i := ((s + k : Nat) : Int)) (b := (partAt id xs k).out) (by have := HS.out; rw [hfew.1]; omega) (partAt_len id xs k)
      have HZK := Lib.hid hzk
      have HWH := Lib.hid hwh
      have HFW := Lib.hid hfew
      have hwp := write_pad (D.blk s id xs k) ((s + k : Nat) : Int) (partAt_len id xs k)
      have HWP := Lib.hid hwp
      clear hlt hk hsu hzk hfew hwh hwp
      cases hl : (D.blk s id xs k).lastB with
      | true =>
        obtain ⟨e1, e2⟩ := HWH.out.1 hl
        have HE1 := Lib.hid e1
        have HE2 := Lib.hid e2
        clear e1 e2 hl
        go_wp2_with fail
        rw [HZK.out]
        refine (own_rwrite HI.out.1 ((s + k : Nat) : Int) (.slice uo 64 uc) (pad (partAt id xs k).out) (fun F B hJ hd _ _ => SecR.apart hJ hd HLT.out HCU.out HSU.out) (by have := HFW.out; have := HW.out; have := HLT.out; omega) (by have := HFW.out; have := HWR.out; have := HLT.out; omega)).mono ?_
        rintro e w2 ⟨rfl, h2⟩
        rw [HWP.out.1] at h2
        rw [HWP.out.2, HE1.out]
        have HN2 : Hid (RwI w0 w2 r D s id xs (.slice (some ⟨g, 0, none⟩) c lc) c J (k + 1)) := Lib.hid ⟨h2, fun _ => HE2.out⟩
        clear h2 HI hcu
        go_wp2
        go_roundw
        case rel => exact ⟨k + 1, HLT.out, by go_num, HN2⟩
        case measure => have := HLT.out; simp [intOf]; omega
      | false =>
        obtain ⟨e1, e2⟩ := HWH.out.2 hl
        have HE1 := Lib.hid e1
        have HE2 := Lib.hid e2
        clear e1 e2 hl
        go_wp2_with fail
        rw [HZK.out]
        refine (own_rwrite HI.out.1 ((s + k : Nat) : Int) (.slice uo 64 uc) (pad (partAt id xs k).out) (fun F B hJ hd _ _ => SecR.apart hJ hd HLT.out HCU.out HSU.out) (by have := HFW.out; have := HW.out; have := HLT.out; omega) (by have := HFW.out; have := HWR.out; have := HLT.out; omega)).mono ?_
        rintro e w2 ⟨rfl, h2⟩
        rw [HWP.out.1] at h2
        rw [HWP.out.2, HE1.out]
        have HN2 := Lib.hid h2.drop2
        clear h2 HI hcu
        have hbc : D.blk s id xs c = D.blk s id xs (k + 1) := by
          have := blk_down (k := k + 1) HE2.out (c - (k + 1))
          rwa [show k + 1 + (c - (k + 1)) = c by have := HLT.out; omega] at this
        have HBC := Lib.hid hbc; clear hbc
        go_wp2
        go_ret
        rw [HBC.out, show (D.blk s id xs (k + 1)).down = true from HE2.out]
        exact ⟨rfl, HN2.out⟩
    · have hkc : k = c := by omega
      subst hkc
      have hltI : ¬ (k : Int) < (k : Int) := by omega
      have hp0 : 0 < k := hp
      go_wp2
      go_ret
      rw [HI.out.2 hp0]
      exact ⟨rfl, HI.out.1.drop2⟩

end Go.Proofs.Ytidkeglldmbfeaa

namespace Go.Proofs.Ytidkeglldmbfeaa
open Go Go.RowKit
set_option linter.unusedVariables false
set_option linter.unusedSimpArgs false
set_option maxRecDepth 100000

set_option maxHeartbeats 4000000 in
theorem rblk_write_arg {w : World} {r gk gs ck cs : Nat} {vw : Value} {f : Int} {kb sb : List Nat} {wb : List (Nat × Nat)} {D : DS} (hR : RefAt w r gk gs ck cs vw f kb sb wb D) (s : Int) (hs : -9223372036854775808 ≤ s ∧ s ≤ 9223372036854775807) (id : Nat) (vo : Option Addr) (n vc : Nat)
    (hn : n ≤ 4611686018427387904) (hb : D.okB s id n = false) :
    Calls Try.prog 34 #[.pointer (some ⟨r, 0, none⟩), .int .i64 s, .int .u64 id, .slice vo n vc] w fun e w' => e = .returned (.int .i64 1) ∧ Only (fun _ => False) w w' := by
  have r1 := hR.cell 1
  simp at r1
  have hDn := hR.ok.n
  have hO := (Only.refl (fun _ => False) w).drew
  have HO := Lib.hid hO
  clear hO hR
  have HCN : Hid (∀ w : World, _) := Lib.hid fun (w : World) => rcount_all (n : Int) w
  by_cases h0 : id = 0
  · have h5 : ((id : Int) == 0) = true := by simp [h0]
    clear hb h0
    go_enter Try.func34, Try.ntmps34
    go_upto_region 1 with fail
    go_quiet (fail)
    go_wp2
    go_ret
    exact ⟨rfl, (Only.refl _ w).drewN _⟩
  have h5 : ((id : Int) == 0) = false := by simpa using h0
  by_cases h1 : 32768 < n
  · have h6 : decide ((32768 : Int) < (n : Int)) = true := by simp; omega
    clear hb
    go_enter Try.func34, Try.ntmps34
    go_upto_region 1 with fail
    go_quiet (fail)
    go_wp2
    go_ret
    exact ⟨rfl, (Only.refl _ w).drewN _⟩
  have h6 : decide ((32768 : Int) < (n : Int)) = false := by simp; omega
  by_cases h2 : s < 0
  · have h7 : decide (s < 0) = true := by simpa using h2
    clear hb
    go_enter Try.func34, Try.ntmps34
    go_upto_region 1 with fail
    go_quiet (fail)
    go_wp2
    go_ret
    exact ⟨rfl, (Only.refl _ w).drewN _⟩
  have h7 : decide (s < 0) = false := by simpa using h2
  by_cases h3 : (D.n : Int) < s
  · have h8 : decide ((D.n : Int) < s) = true := by simpa using h3
    clear hb
    go_enter Try.func34, Try.ntmps34
    go_upto_region 1 with fail
    go_quiet (fail)
    go_wp2
    go_ret
    exact ⟨rfl, (Only.refl _ w).drewN _⟩
  have h8 : decide ((D.n : Int) < s) = false := by simpa using h3
  rw [cnt_nat (by omega)] at HCN
  have h4 : (D.n : Int) < s + cntN n := by
    simp [DS.okB, h0] at hb
    have := hb (by omega) (by omega)
    omega
  have hm := cntN_max (n := n) (by omega)
  obtain ⟨c, hcc⟩ : ∃ c, c = cntN n := ⟨_, rfl⟩
  rw [← hcc] at HCN h4 hm
  have h9 : decide ((D.n : Int) < s + (c : Int)) = true := by simpa using h4
  have hs0 : 0 ≤ s := by omega
  have hs1 : s ≤ 4096 := by omega
  have hm1 : (c : Int) ≤ 656 := by omega
  have hsum : IntKind.i64.wrap (s + (c : Int)) = s + (c : Int) := IntWalk.i64_in _ (by omega)
  clear hb hcc
  go_enter Try.func34, Try.ntmps34
  go_upto_region 1 with fail
  refine wp_region_still_lit (by kernel_rfl) (by kernel_rfl) ?_
  repeat still_step
  still_call ((HCN.out _).mono (fun _ _ ⟨a, b⟩ => ⟨a, b.symm⟩))
  repeat still_step
  refine wpStill_nil ?_
  change Exit.then _ _ _ _ w.drew
  go_wp2
  go_ret
  exact ⟨rfl, HO.out⟩

theorem own_rbwrite {w0 w : World} {r : Nat} {D : DS} {J : Res} [Stab J] (h : Own w0 w (Sep (RefR r D) J)) (s : Int) (hs : -9223372036854775808 ≤ s ∧ s ≤ 9223372036854775807) (id : Nat) (hid : id < 18446744073709551616) (v : Value) (xs : List UInt8)
    (hv : SlN w v xs) (hlen : xs.length ≤ 4611686018427387904) (hW : D.W.length ≤ 900000) (hwr : D.wr ≤ 900000) :
    Calls Try.prog 34 #[.pointer (some ⟨r, 0, none⟩), .int .i64 s, .int .u64 id, v] w fun e w' => e = .returned (.int .i64 (D.bwE s id xs)) ∧ Own w0 w' (Sep (RefR r (D.bwrite s id xs)) J) := by
  obtain ⟨vo, vc, rfl, hvc⟩ := hv.2
  obtain ⟨gk, gs, ck, cs, vw, f, kb, sb, wb, hR⟩ := h.ref
  cases hb : D.okB s id xs.length with
  | false =>
    refine (rblk_write_arg hR s hs id vo xs.length vc hlen hb).mono ?_
    rintro e w' ⟨rfl, ho⟩
    exact ⟨by simp [DS.bwE, hb], by simpa [DS.bwrite, hb] using h.quiet ho⟩
  | true =>
    have hb' := hb
    simp only [DS.okB, Bool.and_eq_true, decide_eq_true_eq] at hb'
    obtain ⟨⟨⟨h1, h2⟩, h3⟩, h4⟩ := hb'
    obtain ⟨s, rfl⟩ := Int.eq_ofNat_of_zero_le h3
    refine (rblk_write_go h s id hid vo xs.length vc xs rfl hv hR.ok.n hW hwr h1 h2 (by omega)).mono ?_
    rintro e w' ⟨rfl, hq⟩
    exact ⟨by simp [DS.bwE, hb], by simpa [DS.bwrite, hb] using hq⟩

end Go.Proofs.Ytidkeglldmbfeaa

namespace Go.Proofs.Ytidkeglldmbfeaa
open Go Go.RowKit Go.Lib
set_option linter.unusedVariables false
set_option linter.unusedSimpArgs false
set_option maxRecDepth 100000

/-- What the sectors from s on hold, one behind the other. -/
def catN (D : DS) (s k : Nat) : List UInt8 := (List.range k).flatMap fun j => (partOf (sec D.N (s + j))).data
theorem catN_succ (D : DS) (s k : Nat) : catN D s (k + 1) = catN D s k ++ (partOf (sec D.N (s + k))).data := by
  simp [catN, List.range_succ]
theorem rd_facts {D : DS} (hok : D.Ok) {s id : Nat} (hid : id < 18446744073709551616) {xs : List UInt8} (h : D.rd s id = some xs) :
    xs.length ≤ 32768 ∧ fstC D s = cntN xs.length ∧ s + cntN xs.length ≤ D.n ∧ (∀ j, j < cntN xs.length → pkS (sec D.N (s + j)) ≤ 50 ∧ sec D.N (s + j) = pad (partAt id xs j).out) ∧ catN D s (cntN xs.length) = xs := by
  obtain ⟨hx, hs, hj⟩ := rd_iff hok h
  have hp := cntN_pos xs.length
  have hm := cntN_max hx
  obtain ⟨f1, f2⟩ := cntN_fits xs.length
  have hb : ∀ j, j < cntN xs.length → partOf (sec D.N (s + j)) = partAt id xs j ∧ okSec (sec D.N (s + j)) = true := fun j hj' => by
    rw [hj j hj']; exact part_back _ (partAt_ok hid hx (by omega))
  refine ⟨hx, ?_, hs, fun j hj' => ⟨?_, hj j hj'⟩, ?_⟩
  · have := (hb 0 hp).1
    rw [Nat.add_zero] at this
    unfold fstC
    rw [this]
    rfl
  · have := (hb j hj').2
    simp [okSec] at this
    exact this.1
  · have key : ∀ k, k ≤ cntN xs.length → catN D s k = xs.take (k * 50) := fun k => by
      induction k with
      | zero => intro _; simp [catN]
      | succ k ih =>
        intro hk
        rw [catN_succ, ih (by omega), (hb k (by omega)).1]
        show xs.take (k * 50) ++ pieceN xs k = _
        rw [pieceN, show (k + 1) * 50 = k * 50 + 50 by omega, List.take_add]
    rw [key _ (Nat.le_refl _)]
    exact List.take_of_length_le (by omega)
theorem pk_two {s : List UInt8} (hs : s.length = 64) : (pkS s : Int) = ((s.getD 12 0).toNat : Int) * 256 + ((s.getD 13 0).toNat : Int) := by
  have e : (s.drop 12).take 2 = [s.getD 12 0, s.getD 13 0] := by
    have h12 : 12 < s.length := by omega
    have h13 : 13 < s.length := by omega
    rw [List.drop_eq_getElem_cons h12, List.take_succ_cons, List.drop_eq_getElem_cons (by omega), List.take_succ_cons, List.take_zero]
    simp [List.getD_eq_getElem?_getD, h12, h13]
  unfold pkS
  rw [e]
  simp [numB]

theorem RefAt.quiet {w w' : World} {r gk gs ck cs : Nat} {vw : Value} {f : Int} {kb sb : List Nat} {wb : List (Nat × Nat)} {D : DS} (h : RefAt w r gk gs ck cs vw f kb sb wb D) (ho : Only (fun _ => False) w w') : RefAt w' r gk gs ck cs vw f kb sb wb D :=
  h.keep fun k hk => ho.block k (h.lt hk) (fun h => h)

/-- Behind k rounds of the first loop of the reference's Read. -/
structure RrI (w wr : World) (D : DS) (s k : Nat) (v : Value) (acc : List UInt8) : Prop where
  acc' : acc = catN D s k
  pk : ∀ j, j < k → pkS (sec D.N (s + j)) ≤ 50
  row : wr.ownsRow w.heap.size 5 1 v acc.length (u8s acc)
  only : Only (fun _ => False) w wr
theorem RrI.len {w wr : World} {D : DS} {s k : Nat} {v : Value} {acc : List UInt8} (h : RrI w wr D s k v acc) : acc.length ≤ k * 50 := by
  rw [h.acc']
  have key : ∀ m, m ≤ k → (catN D s m).length ≤ m * 50 := fun m => by
    induction m with
    | zero => intro _; simp [catN]
    | succ m ih =>
      intro hm
      rw [catN_succ, List.length_append]
      have h1 := ih (by omega)
      have h2 := h.pk m (by omega)
      have h3 : (partOf (sec D.N (s + m))).data.length ≤ 50 := by simp only [partOf, List.length_take]; omega
      omega
  exact key k (Nat.le_refl _)

end Go.Proofs.Ytidkeglldmbfeaa

namespace Go.Proofs.Ytidkeglldmbfeaa
open Go Go.RowKit Go.Lib
set_option linter.unusedVariables false
set_option linter.unusedSimpArgs false
set_option maxRecDepth 100000

theorem rblk_read_bad {w w' : World} {D : DS} {s id : Nat} {e : Ending} (hr : D.rd s id = none) (he : e = .returned (.tuple #[.slice none 0 0, .int .i64 2])) (ho : Only (fun _ => False) w w') : RdPost w (D.rd s id) e w' := RdPost.bad hr he ho

set_option maxHeartbeats 1000000 in
theorem rblk_read_arg {w : World} {r gk gs ck cs : Nat} {vw : Value} {f : Int} {kb sb : List Nat} {wb : List (Nat × Nat)} {D : DS} (hR : RefAt w r gk gs ck cs vw f kb sb wb D) (z : Int) (id : Nat) (hb : id = 0 ∨ D.has z = false) :
    Calls Try.prog 36 #[.pointer (some ⟨r, 0, none⟩), .int .i64 z, .int .u64 id] w fun e w' => e = .returned (.tuple #[.slice none 0 0, .int .i64 1]) ∧ w = w' := by
  have r1 := hR.cell 1
  simp at r1
  clear hR
  by_cases h0 : id = 0
  · have h5 : ((id : Int) == 0) = true := by simp [h0]
    clear hb h0
    go_enter Try.func36, Try.ntmps36
    go_wp2
    go_ret2
    exact ⟨rfl, rfl⟩
  · have hb : D.has z = false := hb.resolve_left h0
    have hbI : ((id : Int) == 0) = false := by simpa using h0
    by_cases h1 : z < 0
    · clear hb
      have h3 : decide (z < 0) = true := by simpa using h1
      go_enter Try.func36, Try.ntmps36
      go_wp2
      go_ret2
      exact ⟨rfl, rfl⟩
    · have h2 : (D.n : Int) ≤ z := by simp [DS.has] at hb; omega
      have h3 : decide (z < 0) = false := by simpa using h1
      have h4 : decide ((D.n : Int) ≤ z) = true := by simpa using h2
      clear hb
      go_enter Try.func36, Try.ntmps36
      go_wp2
      go_ret2
      exact ⟨rfl, rfl⟩

set_option maxHeartbeats 8000000 in
theorem rblk_read_go {w : World} {r gk gs ck cs : Nat} {vw : Value} {f : Int} {kb sb : List Nat} {wb : List (Nat × Nat)} {D : DS} (hR : RefAt w r gk gs ck cs vw f kb sb wb D) (s id : Nat) (hs : s < D.n) (h0 : id ≠ 0) (hid : id < 18446744073709551616) :
    Calls Try.prog 36 #[.pointer (some ⟨r, 0, none⟩), .int .i64 s, .int .u64 id] w (RdPost w (D.rd s id)) := by
  have r1 := hR.cell 1
  simp at r1
  have r2 := hR.seenAt hs
  have hsb := hR.hs s hs
  have hsl := sec_length hR.ok.N hs
  have hDn := hR.ok.n
  have hfacts := fun (xs : List UInt8) (h : D.rd s id = some xs) => rd_facts hR.ok hid h
  have HFX := Lib.hid hfacts
  have HR := Lib.hid hR
  have HSB := Lib.hid hsb
  have HSL := Lib.hid hsl
  have HDN := Lib.hid hDn
  have HID := Lib.hid hid
  have hbI : ((id : Int) == 0) = false := by simpa using h0
  obtain ⟨z, hz⟩ : ∃ z : Int, z = (s : Int) := ⟨_, rfl⟩
  have h3 : decide (z < 0) = false := by simp; omega
  have h4 : decide ((D.n : Int) ≤ z) = false := by simp; omega
  have h4b : z < (D.n : Int) := by omega
  have hz0 : 0 ≤ z := by omega
  have hz1 : z ≤ 4096 := by omega
  have hzt : z.toNat = s := by omega
  rw [← hz]
  have HZ := Lib.hid hz
  have HS := Lib.hid hs
  obtain ⟨b, hb⟩ : ∃ b, b = sb.getD s 0 := ⟨_, rfl⟩
  rw [← hb] at r2
  have HB := Lib.hid hb
  unfold sl64 at r2
  clear hR hsb hsl hDn hfacts hs hz hb hid
  go_enter Try.func36, Try.ntmps36
  go_wp2_with fail
  have hI : RI.RefAt (w.alloc (.cells #[.slice (some ⟨b, 0, none⟩) 64 64, .int .i64 0, .bool false] 82)) w.heap.size (.slice (some ⟨b, 0, none⟩) 64 64) (sec D.N s) 0 false := by
    refine ⟨heap_alloc_new w _, .inr ⟨b, 0, 64, (u8s (sec D.N s)).toArray, by rw [HSL.out], by rw [HSL.out]; exact Nat.le_refl _, by unfold maxLen; omega, ?_, fun j hj => ?_⟩, Nat.zero_le _, by rw [HSL.out]; omega⟩
    · have := HSB.out.1
      rw [← HB.out] at this
      exact ((Only.refl (fun _ => False) w).alloc _).keep this (fun h => h)
    · rw [Nat.zero_add]
      simpa using u8s_at hj
  have HI := Lib.hid hI
  have HO0 := Lib.hid ((Only.refl (fun _ => False) w).alloc (.cells #[.slice (some ⟨b, 0, none⟩) 64 64, .int .i64 0, .bool false] 82))
  obtain ⟨ip, hip⟩ : ∃ ip, ip = w.heap.size := ⟨_, rfl⟩
  have hge : w.heap.size ≤ ip := by omega
  have HGE := Lib.hid hge
  rw [← hip] at HI ⊢
  generalize w.alloc (.cells #[.slice (some ⟨b, 0, none⟩) 64 64, .int .i64 0, .bool false] 82) = wi at *
  clear hI hip hge r1 r2
  refine (RI.refNum_any ip 10 _ _ 0 wi HI.out (by rw [HSL.out]; omega) (by omega)).mono ?_
  rintro e w1 ⟨⟨zz, rfl⟩, q, rfl⟩
  have hI1 := (HI.out.drewN q).move (0 + 10) (by rw [HSL.out]; omega)
  have ho1 : Only (fun _ => False) w ((wi.drewN q).setCell ⟨ip, 1, none⟩ (.int .i64 ((0 + 10 : Nat) : Int))) := (HO0.out.drewN q).setCell (fun h => by have := HGE.out; simp at h; omega) _
  have HI1 := Lib.hid hI1
  have HO1 := Lib.hid ho1
  generalize (wi.drewN q).setCell ⟨ip, 1, none⟩ (.int .i64 ((0 + 10 : Nat) : Int)) = w2 at *
  clear hI1 ho1 HI HO0
  go_wp2_with fail
  refine (RI.refNum_ok ip 2 _ _ (0 + 10) w2 HI1.out (by rw [HSL.out]; omega) (by omega)).mono ?_
  rintro e w3 ⟨rfl, q2, rfl⟩
  have ho2 : Only (fun _ => False) w ((w2.drewN q2).setCell ⟨ip, 1, none⟩ (.int .i64 ((0 + 10 + 2 : Nat) : Int))) := (HO1.out.drewN q2).setCell (fun h => by have := HGE.out; simp at h; omega) _
  have HO2 := Lib.hid ho2
  generalize (w2.drewN q2).setCell ⟨ip, 1, none⟩ (.int .i64 ((0 + 10 + 2 : Nat) : Int)) = w4 at *
  clear ho2 HI1 HO1
  obtain ⟨c, hc⟩ : ∃ c, c = fstC D s := ⟨_, rfl⟩
  have hc2 : numB (List.take 2 (List.drop (0 + 10) (sec D.N s))) = c := by rw [hc]; rfl
  have hcl : c < 65536 := by rw [hc]; exact numB2 _
  rw [hc2]
  have HCW : Hid (IntKind.i64.wrap (c : Int) = (c : Int)) := by show _ = _; exact IntWalk.i64_in _ (by omega)
  have hcI : (c : Int) ≤ 65535 := by omega
  have HC := Lib.hid hc
  have hR4 := HR.out.quiet HO2.out
  have r1 := hR4.cell 1
  simp at r1
  have HR4 := Lib.hid hR4
  clear hc hc2 hcl hR4
  have hbadc : (c < 1 ∨ 656 < c ∨ D.n < s + c) → D.rd s id = none := fun h => by
    cases hr : D.rd s id with
    | none => rfl
    | some xs =>
      obtain ⟨q1, q2, q3, _⟩ := HFX.out xs hr
      have := cntN_pos xs.length
      have := cntN_max q1
      rw [← HC.out] at q2
      omega
  have HBC := Lib.hid hbadc; clear hbadc
  by_cases g1 : c < 1
  · have g1B : decide ((c : Int) < 1) = true := by simp; omega
    have HN := Lib.hid (HBC.out (.inl g1))
    clear HBC
    go_wp2
    refine bodyPost_ret (v := .tuple #[.slice none 0 0, .int .i64 2]) (by simp [results, Try.results36, go_sem]) rfl ?_
    exact RdPost.bad HN.out rfl HO2.out
  have g1B : decide ((c : Int) < 1) = false := by simp; omega
  by_cases g2 : 656 < c
  · have g2B : decide ((656 : Int) < (c : Int)) = true := by simp; omega
    have HN := Lib.hid (HBC.out (.inr (.inl g2)))
    clear HBC
    go_wp2
    refine bodyPost_ret (v := .tuple #[.slice none 0 0, .int .i64 2]) (by simp [results, Try.results36, go_sem]) rfl ?_
    exact RdPost.bad HN.out rfl HO2.out
  have g2B : decide ((656 : Int) < (c : Int)) = false := by simp; omega
  by_cases g3 : D.n < s + c
  · have g3B : decide ((D.n : Int) < z + (c : Int)) = true := by have := HZ.out; simp; omega
    have HN := Lib.hid (HBC.out (.inr (.inr g3)))
    clear HBC
    go_wp2
    refine bodyPost_ret (v := .tuple #[.slice none 0 0, .int .i64 2]) (by simp [results, Try.results36, go_sem]) rfl ?_
    exact RdPost.bad HN.out rfl HO2.out
  have g3B : decide ((D.n : Int) < z + (c : Int)) = false := by have := HZ.out; simp; omega
  have G1 := Lib.hid g1
  have G2 := Lib.hid g2
  have G3 := Lib.hid g3
  have hc656 : (c : Int) ≤ 656 := by omega
  clear g1 g2 g3 HBC
  have HL0 : Hid (RrI w w4 D s 0 (.slice none 0 0) []) := Lib.hid ⟨rfl, fun j hj => by omega, World.ownsRow_nil _ _ _ _, HO2.out⟩
  go_wp2_with fail
  go_loopw [10, 11] (fun dv iv wr => ∃ (k : Nat) (acc : List UInt8) (ao : Option Addr) (cp : Nat), k ≤ c ∧ iv = .int .i64 k ∧ dv = .slice ao acc.length cp ∧ Hid (RrI w wr D s k (.slice ao acc.length cp) acc)) (fun _ iv _ => c - (intOf iv).toNat)
  case atStart => exact ⟨0, [], none, 0, Nat.zero_le _, rfl, rfl, HL0⟩
  case round =>
    clear HL0 r1 HR4 HO2
    obtain ⟨k, acc, ao, cp, hk, rfl, rfl, HL⟩ := hrel
    by_cases hlt : k < c
    · have hltI : (k : Int) < (c : Int) := by omega
      have hk0 : (0 : Int) ≤ (k : Int) := by omega
      have hk6 : (k : Int) ≤ 656 := by omega
      have hin : s + k < D.n := by have := G3.out; omega
      have hRk := HR.out.quiet HL.out.only
      have r1 := hRk.cell 1
      simp at r1
      have r2 := hRk.seenAt hin
      have hsbk := hRk.hs (s + k) hin
      have hslk := sec_length hRk.ok.N hin
      obtain ⟨bk, hbk⟩ : ∃ b, b = sb.getD (s + k) 0 := ⟨_, rfl⟩
      rw [← hbk] at r2 hsbk
      obtain ⟨sk, hsk⟩ : ∃ t, t = sec D.N (s + k) := ⟨_, rfl⟩
      rw [← hsk] at hsbk hslk
      unfold sl64 at r2
      have hzk : z + (k : Int) = ((s + k : Nat) : Int) := by rw [HZ.out]; omega
      have ht : (z + (k : Int)).toNat = s + k := by omega
      have hzk0 : 0 ≤ z + (k : Int) := by omega
      have hzkn : z + (k : Int) < (D.n : Int) := by omega
      have c12 : wr.cell? ⟨bk, 12, none⟩ = some (.int .u8 (sk.getD 12 0).toNat) := by
        rw [cell_of_row wr bk _ _ _ _ hsbk.1]
        simpa using u8s_at (xs := sk) (j := 12) (by omega)
      have c13 : wr.cell? ⟨bk, 13, none⟩ = some (.int .u8 (sk.getD 13 0).toNat) := by
        rw [cell_of_row wr bk _ _ _ _ hsbk.1]
        simpa using u8s_at (xs := sk) (j := 13) (by omega)
      have hpk := pk_two hslk
      obtain ⟨x1, hx1⟩ : ∃ x : Nat, x = (sk.getD 12 0).toNat := ⟨_, rfl⟩
      obtain ⟨x2, hx2⟩ : ∃ x : Nat, x = (sk.getD 13 0).toNat := ⟨_, rfl⟩
      have hb1 : x1 < 256 := by rw [hx1]; exact UInt8.toNat_lt _
      have hb2 : x2 < 256 := by rw [hx2]; exact UInt8.toNat_lt _
      rw [← hx1] at c12 hpk
      rw [← hx2] at c13 hpk
      obtain ⟨kk, hkk⟩ : ∃ kk, kk = pkS sk := ⟨_, rfl⟩
      rw [← hkk] at hpk
      have s1 : IntKind.i64.wrap ((x1 : Int) * 256) = (x1 : Int) * 256 := IntWalk.i64_in _ (by omega)
      have s2 : IntKind.i64.wrap ((x1 : Int) * 256 + (x2 : Int)) = (kk : Int) := by rw [hpk]; exact IntWalk.i64_in _ (by omega)
      have s3 : IntKind.i64.wrap (x1 : Int) = (x1 : Int) := IntWalk.i64_in _ (by omega)
      have s4 : IntKind.i64.wrap (x2 : Int) = (x2 : Int) := IntWalk.i64_in _ (by omega)
      have HPK := Lib.hid hpk
      have HKK := Lib.hid hkk
      have HSK := Lib.hid hsk
      have HSBK := Lib.hid hsbk
      have HSLK := Lib.hid hslk
      have HLT := Lib.hid hlt
      have HB1 := Lib.hid hb1
      have HB2 := Lib.hid hb2
      clear hRk hbk hsbk hslk hzk hpk hx1 hx2 hkk hsk hlt hk hb1 hb2 hin
      go_upto_region 13 with fail
      refine wp_region_still_lit (by kernel_rfl) (by kernel_rfl) ?_
      repeat still_step
      refine wpStill_nil ?_
      change Exit.then _ _ _ _ wr.drew
      clear s1 s3 s4 c12 c13
      have hbadk : 50 < kk → D.rd s id = none := fun h => by
        cases hr : D.rd s id with
        | none => rfl
        | some xs =>
          obtain ⟨q1, q2, q3, q4, _⟩ := HFX.out xs hr
          rw [← HC.out] at q2
          have := (q4 k (by rw [← q2]; exact HLT.out)).1
          rw [← HSK.out, ← HKK.out] at this
          omega
      have HBK := Lib.hid hbadk; clear hbadk
      have HOd := Lib.hid HL.out.only.drew
      by_cases g50 : 50 < kk
      · have g50I : (50 : Int) < (kk : Int) := by omega
        have g50B : decide ((50 : Int) < (kk : Int)) = true := by simpa using g50I
        have HN := Lib.hid (HBK.out g50)
        clear HBK
        go_wp2
        refine bodyPost_ret (v := .tuple #[.slice none 0 0, .int .i64 2]) (by simp [results, Try.results36, go_sem]) rfl ?_
        exact RdPost.bad HN.out rfl HOd.out
      · have g50I : ¬ (50 : Int) < (kk : Int) := by omega
        have g50B : decide ((50 : Int) < (kk : Int)) = false := by simpa using g50I
        have hal := HL.out.len
        have hpl : ((sk.drop 14).take kk).length = kk := by rw [List.length_take, List.length_drop, HSLK.out]; omega
        have hps : SlC wr.drew (.slice (some ⟨bk, 14, none⟩) kk 50) ((sk.drop 14).take kk) := by
          refine .inr ⟨⟨bk, 14, none⟩, 50, by rw [hpl], fun j hj => ?_⟩
          rw [hpl] at hj
          rw [add_lit]
          have hcb : wr.drew.heap[bk]? = some (.cells (u8s sk).toArray 5 (0, 0)) := HSBK.out.1
          rw [cell_of_row wr.drew bk _ _ _ _ hcb]
          have := u8s_at (xs := sk) (j := 14 + j) (by rw [HSLK.out]; omega)
          simp only [List.getElem?_toArray]
          rw [this]
          congr 3
          simp [List.getD_eq_getElem?_getD, List.getElem?_take, hj]
        have hrow := own_keep HL.out.row ((Only.refl (fun _ => False) wr).drew)
        have HPS := Lib.hid hps
        have HPL := Lib.hid hpl
        have HROW := Lib.hid hrow
        have HAL := Lib.hid hal
        obtain ⟨m, hm⟩ : ∃ m, m = 14 + kk := ⟨_, rfl⟩
        have s5 : (14 : Int) + (kk : Int) = (m : Int) := by omega
        have q1 : (14 : Int) ≤ (m : Int) := by omega
        have q2 : (m : Int) ≤ 64 := by omega
        have q3 : 14 ≤ m := by omega
        have q4 : m ≤ 64 := by omega
        have HM14 : Hid (m - 14 = kk) := Lib.hid (by omega)
        have HG50 := Lib.hid g50
        clear hps hpl hrow hal hm g50 HBK
        go_upto_region 16 with fail
        go_wp2_with (at_builtin; rw [HM14.out]; refine wp_more wr.drew w.heap.size HOd.out.size _ acc HROW.out (.slice (some ⟨bk, 14, none⟩) kk 50) _ HPS.out (by have := HAL.out; have := HPL.out; have := HG50.out; omega) rfl (.tmp 88) (.tmp 92) rfl rfl rfl (acc.length + kk) (by rw [List.length_append, HPL.out]) ?_; intro bo2 bc2 w6 hb6 hg6)
        have hnew : Hid (RrI w w6 D s (k + 1) (.slice bo2 (acc ++ (sk.drop 14).take kk).length bc2) (acc ++ (sk.drop 14).take kk)) := by
          refine Lib.hid ⟨?_, fun j hj => ?_, ?_, HOd.out.grown hg6.out (fun q hq e => by have := (HROW.out.lt q e).1; omega)⟩
          · rw [catN_succ, ← HL.out.acc', HSK.out, HKK.out, HSK.out]
            rfl
          · by_cases e : j < k
            · exact HL.out.pk j e
            · have : j = k := by omega
              subst this
              rw [← HSK.out, ← HKK.out]
              have := HG50.out
              omega
          · rw [List.length_append, HPL.out]
            exact hb6.out
        have HLN : Hid ((acc ++ (sk.drop 14).take kk).length = acc.length + kk) := Lib.hid (by rw [List.length_append, HPL.out])
        clear hb6 hg6
        constructor
        · exact ⟨k + 1, _, bo2, bc2, HLT.out, by go_num, by rw [HLN.out], hnew⟩
        · have := HLT.out; simp [intOf]; omega
    · have hkc : c = k := by omega
      subst hkc
      have hltI : ¬ (c : Int) < (c : Int) := by omega
      have hal := HL.out.len
      have hcat : ∀ xs, D.rd s id = some xs → acc = xs := fun xs hr => by
        obtain ⟨q1, q2, q3, q4, q5⟩ := HFX.out xs hr
        rw [← HC.out] at q2
        rw [HL.out.acc', q2]
        exact q5
      have HCAT := Lib.hid hcat
      have HAL := Lib.hid hal
      clear hcat hal hk hlt
      go_wp2_with fail
      refine (rcount_all (acc.length : Int) wr).mono ?_
      rintro e w' ⟨rfl, rfl⟩
      by_cases hcn : cnt (acc.length : Int) = c
      · have hx : acc.length ≤ 32768 := by
          by_cases hx : acc.length ≤ 32768
          · exact hx
          · rw [(cnt_zero _).2 (.inr (by omega))] at hcn
            have := G1.out
            omega
        have hcnN : cntN acc.length = c := by rw [← hcn, cnt_nat hx]
        have hsn : SlN wr (.slice ao acc.length cp) acc := by
          refine ⟨(own_toB HL.out.row).toC, ao, cp, rfl, ?_⟩
          rcases HL.out.row.2 with ⟨e, _⟩ | ⟨g', cap', cur, e, _, _, hcap, _⟩
          · simp at e; omega
          · simp at e; omega
        have HSN := Lib.hid hsn
        have HX := Lib.hid hx
        have HCN := Lib.hid hcnN
        rw [hcn]
        clear hcn hx hcnN hsn
        go_wp2_with fail
        refine (rsectors id HID.out _ acc wr HSN.out HX.out).mono ?_
        rintro e w5 ⟨lo, lc, rfl, hsec⟩
        rw [HCN.out] at hsec ⊢
        have HW0 : Hid (Only (fun _ => False) w wr) := Lib.hid HL.out.only
        have HROW := Lib.hid HL.out.row
        have HS5 := Lib.hid hsec
        clear hsec HL
        obtain ⟨wq, hwq⟩ : ∃ wq, wq = wr := ⟨_, rfl⟩
        rw [← hwq] at HS5 HW0 HROW
        clear hwq HSN
        go_wp2_with fail
        go_loopw [15] (fun iv wz => ∃ i : Nat, i ≤ c ∧ iv = .int .i64 i ∧ Hid (∀ j, j < i → sec D.N (s + j) = pad (partAt id acc j).out) ∧ Hid (SecI wq wz id acc c (.slice lo c lc))) (fun iv _ => c - (intOf iv).toNat)
        case atStart => exact ⟨0, Nat.zero_le _, rfl, Lib.hid (fun j hj => by omega), HS5⟩
        case round =>
          clear HS5
          obtain ⟨i, hi, rfl, HEQ, HSI⟩ := hrel
          by_cases hlt : i < c
          · have hltI : (i : Int) < (c : Int) := by omega
            have hi0 : (0 : Int) ≤ (i : Int) := by omega
            have hi6 : (i : Int) ≤ 656 := by omega
            have hin : s + i < D.n := by have := G3.out; omega
            have hRk := HR.out.quiet (HW0.out.trans HSI.out.only (fun _ _ h => h))
            have r1 := hRk.cell 1
            simp at r1
            have r2 := hRk.seenAt hin
            have hsbk := hRk.hs (s + i) hin
            obtain ⟨bk, hbk⟩ : ∃ b, b = sb.getD (s + i) 0 := ⟨_, rfl⟩
            rw [← hbk] at r2 hsbk
            have hs2 := hsbk.slc
            unfold sl64 at r2 hs2
            have hcellx : ∃ g uo uc, lo = some ⟨g, 0, none⟩ ∧ wr.cell? ⟨g, i, none⟩ = some (.slice uo 64 uc) ∧ SlC wr (.slice uo 64 uc) (pad (partAt id acc i).out) := by
              obtain ⟨vs, v1, v2, v3⟩ := HSI.out.ex
              exact SecR.cell (F := fun k => (Value.slice lo c lc).ownBlock = some k ∨ ∃ j, j < c ∧ (vs.getD j (.slice none 0 0)).ownBlock = some k) ⟨vs, v1, own_base v2 (Nat.zero_le _), fun j hj => own_base (v3 j hj) (Nat.zero_le _), fun _ => Iff.rfl⟩ hlt
            obtain ⟨g, uo, uc, rfl, hcu, hsu⟩ := hcellx
            have hcv1 := run_strC (w := wr.drew) (hsu.keep ((Only.refl (fun _ => False) wr).drew))
            have hcv2 := run_strC (w := wr.drew) (hs2.keep ((Only.refl (fun _ => False) wr).drew))
            have hzk : z + (i : Int) = ((s + i : Nat) : Int) := by rw [HZ.out]; omega
            have ht : (z + (i : Int)).toNat = s + i := by omega
            have hzk0 : 0 ≤ z + (i : Int) := by omega
            have hzkn : z + (i : Int) < (D.n : Int) := by omega
            have hsum : IntKind.i64.wrap (z + (i : Int)) = z + (i : Int) := IntWalk.i64_in _ (by omega)
            have HLT := Lib.hid hlt
            have HSId := Lib.hid (HSI.out.quiet ((Only.refl (fun _ => False) wr).drew))
            clear hRk hbk hsbk hs2 hsu hzk hlt hi hin HSI
            by_cases he : pad (partAt id acc i).out = sec D.N (s + i)
            · rw [← he] at hcv2
              have HE2 : Hid (∀ j, j < i + 1 → sec D.N (s + j) = pad (partAt id acc j).out) := Lib.hid (fun j hj => by
                by_cases e : j < i
                · exact HEQ.out j e
                · have : j = i := by omega
                  subst this
                  exact he.symm)
              clear he HEQ
              go_upto_region 23 with fail
              refine wp_region_still_lit (by kernel_rfl) (by kernel_rfl) ?_
              repeat still_step
              refine wpStill_nil ?_
              change Exit.then _ _ _ _ wr.drew
              clear hcv1 hcv2 hsum
              go_wp2
              go_roundw
              case rel => exact ⟨i + 1, HLT.out, by go_num, HE2, HSId⟩
              case measure => have := HLT.out; simp [intOf]; omega
            · have hbad : D.rd s id = none := by
                cases hr : D.rd s id with
                | none => rfl
                | some xs =>
                  obtain ⟨q1, q2, q3, q4, q5⟩ := HFX.out xs hr
                  rw [← HC.out] at q2
                  have := (q4 i (by rw [← q2]; exact HLT.out)).2
                  rw [← HCAT.out xs hr] at this
                  exact absurd this.symm he
              obtain ⟨L1, hL1⟩ : ∃ L, L = pad (partAt id acc i).out := ⟨_, rfl⟩
              obtain ⟨L2, hL2⟩ : ∃ L, L = sec D.N (s + i) := ⟨_, rfl⟩
              rw [← hL1] at hcv1 he
              rw [← hL2] at hcv2 he
              have hneB : (L1 == L2) = false := by simpa using he
              have hneN : (L1 != L2) = true := by simpa using he
              have HN := Lib.hid hbad
              have HOX := Lib.hid ((HW0.out.trans HSId.out.only (fun _ _ h => h)))
              clear hbad HEQ hL1 hL2
              go_upto_region 23 with fail
              refine wp_region_still_lit (by kernel_rfl) (by kernel_rfl) ?_
              repeat still_step
              refine wpStill_nil ?_
              change Exit.then _ _ _ _ wr.drew
              clear hcv1 hcv2 hsum
              go_wp2
              refine bodyPost_ret (v := .tuple #[.slice none 0 0, .int .i64 2]) (by simp [results, Try.results36, go_sem]) rfl ?_
              exact RdPost.bad HN.out rfl HOX.out
          · have hic : c = i := by omega
            subst hic
            have hltI2 : ¬ (c : Int) < (c : Int) := by omega
            have hgood : D.rd s id = some acc := rd_some HX.out HID.out (by rw [HCN.out]; have := G3.out; omega) (fun j hj => HEQ.out j (by rw [HCN.out] at hj; exact hj))
            have HG := Lib.hid hgood
            have HRW := Lib.hid (own_keep HROW.out HSI.out.only)
            have HOX := Lib.hid (HW0.out.trans HSI.out.only (fun _ _ h => h))
            clear hgood
            go_wp2
            refine bodyPost_ret (v := .tuple #[.slice ao acc.length cp, .int .i64 0]) (by simp [results, Try.results36, go_sem]) rfl ?_
            rw [HG.out]
            exact ⟨_, rfl, HRW.out, HOX.out⟩
      · have hbad : D.rd s id = none := by
          cases hr : D.rd s id with
          | none => rfl
          | some xs =>
            obtain ⟨q1, q2, q3, q4, q5⟩ := HFX.out xs hr
            rw [← HC.out] at q2
            have e := HCAT.out xs hr
            rw [e, cnt_nat q1] at hcn
            exact absurd q2.symm hcn
        have e1 : ¬ (cnt (acc.length : Int) : Int) = (c : Int) := by omega
        have e2 : ((cnt (acc.length : Int) : Int) == (c : Int)) = false := by simpa using e1
        have e3 : ((cnt (acc.length : Int) : Int) != (c : Int)) = true := by simpa using e1
        have HN := Lib.hid hbad
        have HOX := Lib.hid HL.out.only
        clear hbad hcn HL
        go_wp2
        refine bodyPost_ret (v := .tuple #[.slice none 0 0, .int .i64 2]) (by simp [results, Try.results36, go_sem]) rfl ?_
        exact RdPost.bad HN.out rfl HOX.out

end Go.Proofs.Ytidkeglldmbfeaa

namespace Go.Proofs.Ytidkeglldmbfeaa
open Go Go.RowKit
set_option linter.unusedVariables false
set_option linter.unusedSimpArgs false
set_option maxRecDepth 100000

theorem SlN.keep {w w' : World} {v : Value} {xs : List UInt8} (h : SlN w v xs) (ho : Only (fun _ => False) w w') : SlN w' v xs := ⟨h.1.keep ho, h.2⟩
theorem Own.drop2' {w0 w : World} {I J K L : Res} (h : Own w0 w (Sep (Sep I J) (Sep K L))) : Own w0 w (Sep I (Sep J L)) := (h.swap.snd).assoc
/-- Both disks, behind k calls, beside J. -/
def PlayR (w wr : World) (p r n k : Nat) (D : DS) (J : Res) : Prop := Own w wr (Sep (DiskR p D) (Sep (RefR r D) J)) ∧ Few n k D ∧ Coh D
theorem ownB_mk {w : World} {b : Nat} {v : Value} {xs : List UInt8} (h : w.ownsRow b 5 1 v xs.length (u8s xs)) : OwnB v xs w (fun k => v.ownBlock = some k) := by
  refine ⟨⟨h.1, ?_⟩, fun _ => Iff.rfl⟩
  rcases h.2 with h0 | ⟨g, cap, cur, rfl, hb, rest⟩
  · exact .inl h0
  · exact .inr ⟨g, cap, cur, rfl, Nat.zero_le _, rest⟩
theorem own_slc {w : World} {B : Nat} {v : Value} {xs : List UInt8} (h : w.ownsRow B 5 1 v xs.length (u8s xs)) : SlC w v xs := by
  have h' := h
  rcases h'.2 with ⟨rfl, h0⟩ | ⟨g, cap, cur, rfl, _⟩
  · exact .inl ⟨rfl, List.eq_nil_of_length_eq_zero h0⟩
  · exact .inr ⟨_, cap, rfl, fun j hj => by rw [add_lit, Nat.zero_add, h.cellAt j (by omega)]; exact u8s_at hj⟩
theorem len2 (xs : List UInt8) : (xs ++ [71, 72]).length = xs.length + 2 := by simp
theorem Few.fused {m k : Nat} {D : DS} (h : Few m k D) (n : Int) : Few m k (D.fused n) := by
  unfold DS.fused
  split
  · exact h
  · exact ⟨h.sz, h.W, h.wr, h.sy⟩
theorem op_cells {w0 w : World} {I J K L : Res} {op : Nat} {a b c d : Value} {t : TypeId} (h : Own w0 w (Sep I (Sep J (Sep K (Sep (Blk op (.cells #[a, b, c, d] t)) L))))) :
    w.cell? ⟨op, 1, none⟩ = some b ∧ w.cell? ⟨op, 2, none⟩ = some c := by
  have := Own.blk h.snd.snd.snd
  exact ⟨by simp [World.cell?, this], by simp [World.cell?, this]⟩
theorem op_cells2 {w0 w : World} {I J L : Res} {op : Nat} {a b c d : Value} {t : TypeId} (h : Own w0 w (Sep I (Sep J (Sep (Blk op (.cells #[a, b, c, d] t)) L)))) :
    w.cell? ⟨op, 1, none⟩ = some b ∧ w.cell? ⟨op, 2, none⟩ = some c ∧ w.cell? ⟨op, 3, none⟩ = some d := by
  have := Own.blk h.snd.snd
  exact ⟨by simp [World.cell?, this], by simp [World.cell?, this], by simp [World.cell?, this]⟩
/-- What is lent reads as the bytes, and lies apart. -/
theorem lent_apart {w : World} {g cap : Nat} {xs : List UInt8} {J : Res} {F B : Nat → Prop} (hJ : Sep (OwnB (.slice (some ⟨g, 0, none⟩) (xs ++ [71, 72]).length cap) (xs ++ [71, 72])) J w B) (hd : ∀ k, F k → ¬ B k) : SlO w F (.slice (some ⟨g, 0, none⟩) xs.length cap) xs := by
  obtain ⟨A, C, hA, hC, hac, hB⟩ := hJ
  refine ⟨.inr ⟨⟨g, 0, none⟩, cap, rfl, fun j hj => ?_⟩, fun a m c e hx hk => ?_⟩
  · rw [add_lit, Nat.zero_add, hA.1.cellAt j (by simp; omega), u8s_at (by simp; omega)]
    congr 3
    simp [List.getD_eq_getElem?_getD, List.getElem?_append, hj]
  · simp at e
    obtain ⟨rfl, _, _⟩ := e
    exact hd _ hk ((hB _).2 (.inl ((hA.2 _).2 rfl)))

end Go.Proofs.Ytidkeglldmbfeaa
