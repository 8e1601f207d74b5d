/-
  A slice of the calls of the statements on pools that is handed in, each with its numbers and its bytes. (Written by wip/tools/genpoarg.py.)
-/
import Derived.Test.YtjmelhmjcbliaaaCopyInts
import Derived.Test.YtjmelhmjcbliaaaOpenCap
import Derived.Deep.Slices
import Derived.Deep.Fields
namespace Go.Proofs.Ytjmelhmjcbliaaa
open Go Go.ChangeShapes Go.WideShapes Go.ChangeAt Go.RowKit
set_option linter.unusedVariables false
set_option linter.unusedSimpArgs false
set_option maxRecDepth 100000

def i64R (z : Int) : Prop := -9223372036854775808 ≤ z ∧ z ≤ 9223372036854775807
def Sized {H : Type} (t : TypeId) (d : DataW H) : Prop := ∀ n ∈ d.weights Try.prog t, n ≤ 140737488351232
theorem sized_all {H : Type} {e : TypeId} : ∀ {l : List (DataW H)} {d : DataW H}, d ∈ l → ∀ n ∈ d.weights Try.prog e, n ∈ DataW.weightsAll Try.prog e l
  | [], d, h, _, _ => by cases h
  | x :: l, d, h, n, hn => by
    simp only [DataW.weightsAll, List.mem_append]
    rcases List.mem_cons.1 h with rfl | h
    · exact .inl hn
    · exact .inr (sized_all h n hn)
theorem Sized.elem {H : Type} {t e : TypeId} {elems spare : List (DataW H)} (h : Sized t (.slice elems spare)) (hu : Try.prog.underlying t = some (.slice e)) {d : DataW H} (hd : d ∈ elems) : Sized e d := fun n hn =>
  h n (by simp only [DataW.weights, hu, List.mem_cons, List.mem_append]; exact .inr (.inl (sized_all hd n hn)))
theorem Sized.part {H : Type} {t : TypeId} {fs : Array Field} {parts : List (DataW H)} (h : Sized t (.agg parts)) (hu : Try.prog.underlying t = some (.struct fs)) {j : Nat} {e : TypeId} {d : DataW H} (ht : (fs.toList.map (·.type))[j]? = some e) (hd : parts[j]? = some d) : Sized e d := fun n hn =>
  h n (by simp only [DataW.weights, hu]; exact DataW.weights_mem_each ht hd n hn)
theorem Sized.len {H : Type} {t e : TypeId} {elems spare : List (DataW H)} (h : Sized t (.slice elems spare)) (hu : Try.prog.underlying t = some (.slice e)) : (elems.length + spare.length) * Try.prog.bytesOf e ≤ 140737488351232 :=
  h _ (by simp only [DataW.weights, hu, List.mem_cons]; exact .inl trivial)
theorem sized_arg {H : Type} {ts : List TypeId} {ds : List (DataW H)} (h : (DataW.weightsEach Try.prog ts ds).all (· ≤ reachBytes) = true) {j : Nat} {t : TypeId} {d : DataW H} (ht : ts[j]? = some t) (hd : ds[j]? = some d) : Sized t d := fun n hn => by
  have := List.all_eq_true.1 h n (DataW.weights_mem_each ht hd n hn)
  have h2 : n ≤ reachBytes := by simpa using this
  exact h2
theorem open_bytesCellS {H : Type} {enc : TypeId × Value → H} {W : World} {fuel : Nat} {cs : List Value} {y : DataW H × List MemPlace} (h : DataW.trod enc Try.prog W 0 (fun _ => true) true fuel 35 cs = some y) (hs : Sized 35 y.1) :
    ∃ (v : Value) (bs : List UInt8), cs = [v] ∧ SlN W v bs ∧ bs.length ≤ 140737488351232 := by
  rcases open_ints Try.underlying35 Try.underlying5 Try.cellsU8 h with ⟨hcs, hx⟩ | ⟨a, len', cap', zs, hcs, _, hl, hm, hz, hx, hcell, hwz⟩
  · exact ⟨_, [], hcs, ⟨.inl ⟨rfl, rfl⟩, none, 0, rfl, Nat.le_refl _⟩, Nat.zero_le _⟩
  · simp only [if_true] at hz
    have hbl : ((zs.take len').map fun z => UInt8.ofNat z.toNat).length = len' := by simp; omega
    refine ⟨_, (zs.take len').map fun z => UInt8.ofNat z.toNat, hcs, ⟨.inr ⟨a, cap', by rw [hbl], fun j hj => ?_⟩, some a, cap', by rw [hbl], by rw [hbl]; exact hl⟩, ?_⟩
    · rw [hbl] at hj
      rw [hcell j (by omega)]
      have hjz : j < zs.length := by omega
      have hw := hwz zs[j] (List.getElem_mem hjz)
      have hb : 0 ≤ zs[j] ∧ zs[j] ≤ 255 := by simpa [Lit.wf, IntKind.min, IntKind.max, IntKind.signed, IntKind.bits] using hw
      have e1 : zs.getD j 0 = zs[j] := by simp [hjz]
      have e2 : ((zs.take len').map fun z => UInt8.ofNat z.toNat).getD j 0 = UInt8.ofNat (zs[j]).toNat := by
        simp [List.getD_eq_getElem?_getD, hj, hjz]
      rw [e1, e2]
      congr 2
      simp
      omega
    · subst hx
      have := hs.len Try.underlying35
      rw [Try.bytesU8] at this
      simp [lits] at this
      rw [hbl]
      omega
/-- One call on a pool: its kind, its number, its thing, its bytes. -/
structure OpP where
  K : Int
  I : Int
  D : Int
  B : List UInt8
instance : Inhabited OpP := ⟨⟨0, 0, 0, []⟩⟩
def u64R (z : Int) : Prop := 0 ≤ z ∧ z ≤ 18446744073709551615
theorem Try.cellsOpP : Try.prog.cellsOf 37 = 4 := by kernel_rfl
theorem Try.cellsBs : Try.prog.cellsOf 35 = 1 := by kernel_rfl
theorem Try.cellsU64b : Try.prog.cellsOf 34 = 1 := by kernel_rfl

/-- A call of the statements on pools, as it lies in memory. -/
structure OpPS (w : World) (g o : Nat) (x : OpP) : Prop where
  k : w.cell? ⟨g, o, none⟩ = some (.int .i64 x.K)
  i : w.cell? ⟨g, o + 1, none⟩ = some (.int .i64 x.I)
  d : w.cell? ⟨g, o + 2, none⟩ = some (.int .u64 x.D)
  b : ∃ v, w.cell? ⟨g, o + 3, none⟩ = some v ∧ SlN w v x.B ∧ x.B.length ≤ 140737488351232
  rk : i64R x.K
  ri : i64R x.I
  rd : u64R x.D
def SlOpP (w : World) (ao : Option Addr) (os : List OpP) : Prop := ∀ j, j < os.length → ∃ g off, ao = some ⟨g, off, none⟩ ∧ OpPS w g (off + j * 4) (os.getD j default)
theorem open_opsArgP {H : Type} {enc : TypeId × Value → H} {W : World} {base : Nat} {v : Value} {d : DataW H} {pl : List MemPlace}
    (hok : Value.okWide Try.prog W .any base 22 v) (h : DataW.Trod enc Try.prog W 0 (fun _ => true) true 22 v d pl) (hs : Sized 22 d) :
    ∃ (os : List OpP) (ao : Option Addr) (c : Nat), v = .slice ao os.length c ∧ SlOpP W ao os := by
  obtain ⟨a0, len, cap, rfl⟩ := okWide_slice Try.underlying22 hok
  obtain ⟨fuel, hf⟩ := h
  rcases Go.Deep.open_slice Try.underlying22 hf with ⟨hcs, hx⟩ | ⟨a, len', cap', m, n, D, Pl, hcs, _, hl, hm, hmm, hx, hel⟩
  · simp [Value.cells] at hcs
    obtain ⟨rfl, rfl, rfl⟩ := hcs
    exact ⟨[], none, 0, rfl, fun j hj => by simp at hj⟩
  · simp [Value.cells] at hcs
    obtain ⟨rfl, rfl, rfl⟩ := hcs
    simp only [if_true] at hmm
    simp only [Prod.mk.injEq] at hx
    obtain ⟨rfl, _⟩ := hx
    have haddr : 0 < len → ∃ g off, a = ⟨g, off, none⟩ := fun h0 => by
      obtain ⟨cs', hc, _⟩ := hel 0 (by omega)
      rw [Try.cellsOpP] at hc
      obtain ⟨_, hcl, hat⟩ := World.cells?_some hc
      have c0 := (hat 0 (by omega)).trans (List.getElem?_eq_getElem (by omega))
      obtain ⟨b, off, spot⟩ := a
      have hspot : spot = none := by simpa [Addr.add] using World.cell?_spot c0
      subst hspot
      exact ⟨b, off, rfl⟩
    have each : ∀ i, i < len → ∃ x : OpP, ∃ g off, a = ⟨g, off, none⟩ ∧ OpPS W g (off + i * 4) x := by
      intro i hi
      obtain ⟨cs', hc, ht⟩ := hel i (by omega)
      have hsD : Sized 37 (D i) := hs.elem Try.underlying22 (List.mem_map.2 ⟨i, List.mem_range.2 hi, rfl⟩)
      rw [Try.cellsOpP] at hc
      obtain ⟨_, hcl, hat⟩ := World.cells?_some hc
      obtain ⟨ys, n', _, hy, _, hyl, hfs⟩ := DataW.trod_struct Try.underlying37 ht
      simp only [Prod.mk.injEq] at hy
      rw [hy.1] at hsD
      have c0 := hat 0 (by omega)
      have c1 := hat 1 (by omega)
      have c2 := hat 2 (by omega)
      have c3 := hat 3 (by omega)
      rw [Go.Deep.add_add] at c0 c1 c2 c3
      match cs', hcl with
      | [u0, u1, u2, u3], _ =>
        match ys, hyl with
        | [y0, y1, y2, y3], _ =>
          have f0 : DataW.trod enc Try.prog W 0 (fun _ => true) true n' 3 (List.take (Try.prog.cellsOf 3) (List.drop 0 [u0, u1, u2, u3])) = some y0 := hfs 0 _ rfl
          have f1 : DataW.trod enc Try.prog W 0 (fun _ => true) true n' 3 (List.take (Try.prog.cellsOf 3) (List.drop 1 [u0, u1, u2, u3])) = some y1 := hfs 1 _ rfl
          have f2 : DataW.trod enc Try.prog W 0 (fun _ => true) true n' 34 (List.take (Try.prog.cellsOf 34) (List.drop 2 [u0, u1, u2, u3])) = some y2 := hfs 2 _ rfl
          have f3 : DataW.trod enc Try.prog W 0 (fun _ => true) true n' 35 (List.take (Try.prog.cellsOf 35) (List.drop 3 [u0, u1, u2, u3])) = some y3 := hfs 3 _ rfl
          rw [Try.cellsInt] at f0 f1
          rw [Try.cellsU64b] at f2
          rw [Try.cellsBs] at f3
          have s3 : Sized 35 y3.1 := hsD.part Try.underlying37 (j := 3) rfl rfl
          obtain ⟨k, e0, _, w0⟩ := DataW.trod_int Try.underlying3 f0
          obtain ⟨x, e1, _, w1⟩ := DataW.trod_int Try.underlying3 f1
          obtain ⟨u, e2, _, w2⟩ := DataW.trod_int Try.underlying34 f2
          obtain ⟨vb, bs, e3, hb, hbl⟩ := open_bytesCellS f3 s3
          simp at e0 e1 e2 e3
          subst e0 e1 e2 e3
          have r0 : i64R k := by simpa [i64R, Lit.wf, IntKind.min, IntKind.max, IntKind.signed, IntKind.bits] using w0
          have r1 : i64R x := by simpa [i64R, Lit.wf, IntKind.min, IntKind.max, IntKind.signed, IntKind.bits] using w1
          have r2 : u64R u := by simpa [u64R, Lit.wf, IntKind.min, IntKind.max, IntKind.signed, IntKind.bits] using w2
          have c0' : W.cell? (a.add (i * 4)) = some (.int .i64 k) := by simpa using c0
          obtain ⟨g, off, rfl⟩ := haddr (by omega)
          simp only [add_lit] at c0' c1 c2 c3
          exact ⟨⟨k, x, u, bs⟩, g, off, rfl, c0', by rw [Nat.add_assoc]; simpa using c1, by rw [Nat.add_assoc]; simpa using c2, ⟨_, by rw [Nat.add_assoc]; simpa using c3, hb, hbl⟩, r0, r1, r2⟩
    obtain ⟨F, hF⟩ := Go.Deep.choose_lt each
    refine ⟨(List.range len).map F, some a, cap, by simp, fun j hj => ?_⟩
    simp only [List.length_map, List.length_range] at hj
    have e : ((List.range len).map F).getD j default = F j := by simp [List.getD_eq_getElem?_getD, hj]
    rw [e]
    obtain ⟨g, off, ha, h1⟩ := hF j hj
    exact ⟨g, off, by rw [ha], h1⟩

end Go.Proofs.Ytjmelhmjcbliaaa
