/-
  An argument of the statements, opened: a []Op.
-/
import Derived.Test.YtidkeglldmbfeaaOpen
import Derived.Deep.Slices
import Derived.Deep.Fields
namespace Go.Proofs.Ytidkeglldmbfeaa
open Go Go.ChangeShapes Go.WideShapes Go.ChangeAt Go.RowKit
set_option linter.unusedVariables false
set_option linter.unusedSimpArgs false
set_option maxRecDepth 100000

/-- One call: its kind, its number, its bytes, its list. -/
structure OpT where
  K : Int
  I : Int
  B : List UInt8
  L : List Int
instance : Inhabited OpT := ⟨⟨0, 0, [], []⟩⟩
def i64R (z : Int) : Prop := -9223372036854775808 ≤ z ∧ z ≤ 9223372036854775807

structure OpAt (w : World) (g o : Nat) (x : OpT) : Prop where
  k : w.cell? ⟨g, o, none⟩ = some (.int .i64 x.K)
  i : w.cell? ⟨g, o + 1, none⟩ = some (.int .i64 x.I)
  b : ∃ v, w.cell? ⟨g, o + 2, none⟩ = some v ∧ SlC w v x.B
  l : ∃ ao c, w.cell? ⟨g, o + 3, none⟩ = some (.slice ao x.L.length c) ∧ SlI w ao x.L
  rk : i64R x.K
  ri : i64R x.I
  rl : ∀ z ∈ x.L, i64R z
/-- A slice of calls, by its cells. -/
def SlOp (w : World) (ao : Option Addr) (os : List OpT) : Prop := ∀ j, j < os.length → ∃ g off, ao = some ⟨g, off, none⟩ ∧ OpAt w g (off + j * 4) (os.getD j default)

theorem SlI.keep {w w' : World} {ao : Option Addr} {ks : List Int} (h : SlI w ao ks) (ho : Only (fun _ => False) w w') : SlI w' ao ks := fun j hj => by
  obtain ⟨g, off, e, hc⟩ := h j hj
  exact ⟨g, off, e, ho.cellq hc⟩
theorem OpAt.keep {w w' : World} {g o : Nat} {x : OpT} (h : OpAt w g o x) (ho : Only (fun _ => False) w w') : OpAt w' g o x := by
  obtain ⟨v, hv, hb⟩ := h.b
  obtain ⟨ao, c, hl, hs⟩ := h.l
  exact ⟨ho.cellq h.k, ho.cellq h.i, ⟨v, ho.cellq hv, hb.keep ho⟩, ⟨ao, c, ho.cellq hl, hs.keep ho⟩, h.rk, h.ri, h.rl⟩
theorem SlOp.keep {w w' : World} {ao : Option Addr} {os : List OpT} (h : SlOp w ao os) (ho : Only (fun _ => False) w w') : SlOp w' ao os := fun j hj => by
  obtain ⟨g, off, e, hc⟩ := h j hj
  exact ⟨g, off, e, hc.keep ho⟩

theorem Try.cellsOp : Try.prog.cellsOf 41 = 4 := by kernel_rfl
theorem Try.cellsBs : Try.prog.cellsOf 31 = 1 := by kernel_rfl
theorem Try.cellsIs : Try.prog.cellsOf 39 = 1 := by kernel_rfl

theorem open_bytesCell {H : Type} {enc : TypeId × Value → H} {W : World} {fuel : Nat} {cs : List Value} {y : DataW H × List MemPlace} (h : DataW.trod enc Try.prog W 0 (fun _ => true) true fuel 31 cs = some y) :
    ∃ (v : Value) (bs : List UInt8), cs = [v] ∧ SlC W v bs := by
  rcases open_ints Try.underlying31 Try.underlying5 Try.cellsU8 h with ⟨hcs, hx⟩ | ⟨a, len', cap', zs, hcs, _, hl, hm, hz, hx, hcell, hwz⟩
  · exact ⟨_, [], hcs, .inl ⟨rfl, rfl⟩⟩
  · simp only [if_true] at hz
    have hbl : ((zs.take len').map fun z => UInt8.ofNat z.toNat).length = len' := by simp; omega
    refine ⟨_, (zs.take len').map fun z => UInt8.ofNat z.toNat, hcs, .inr ⟨a, cap', by rw [hbl], fun j hj => ?_⟩⟩
    rw [hbl] at hj
    rw [hcell j (by omega)]
    have hjz : j < zs.length := by omega
    have hw := hwz zs[j] (List.getElem_mem hjz)
    have hb : 0 ≤ zs[j] ∧ zs[j] ≤ 255 := by simpa [Lit.wf, IntKind.min, IntKind.max, IntKind.signed, IntKind.bits] using hw
    have e1 : zs.getD j 0 = zs[j] := by simp [hjz]
    have e2 : ((zs.take len').map fun z => UInt8.ofNat z.toNat).getD j 0 = UInt8.ofNat (zs[j]).toNat := by
      simp [List.getD_eq_getElem?_getD, hj, hjz]
    rw [e1, e2]
    congr 2
    simp
    omega
theorem open_intsCell {H : Type} {enc : TypeId × Value → H} {W : World} {fuel : Nat} {cs : List Value} {y : DataW H × List MemPlace} (h : DataW.trod enc Try.prog W 0 (fun _ => true) true fuel 39 cs = some y) :
    ∃ (ao : Option Addr) (c : Nat) (ks : List Int), cs = [.slice ao ks.length c] ∧ SlI W ao ks ∧ ∀ z ∈ ks, i64R z := by
  rcases open_ints Try.underlying39 Try.underlying3 Try.cellsInt h with ⟨hcs, hx⟩ | ⟨a, len', cap', zs, hcs, _, hl, hm, hz, hx, hcell, hwz⟩
  · exact ⟨none, 0, [], hcs, fun j hj => by simp at hj, by simp⟩
  · simp only [if_true] at hz
    have hbl : (zs.take len').length = len' := by simp; omega
    refine ⟨some a, cap', zs.take len', by rw [hbl]; exact hcs, fun j hj => ?_, fun z hz => ?_⟩
    · rw [hbl] at hj
      obtain ⟨g, off, rfl⟩ := addr_of_cell (hcell 0 (by omega))
      refine ⟨g, off, rfl, ?_⟩
      rw [← add_lit, hcell j (by omega)]
      congr 2
      simp [List.getD_eq_getElem?_getD, hj]
    · have hw := hwz z (List.mem_of_mem_take hz)
      simpa [i64R, Lit.wf, IntKind.min, IntKind.max, IntKind.signed, IntKind.bits] using hw

theorem open_opsArg {H : Type} {enc : TypeId × Value → H} {W : World} {base : Nat} {v : Value} {d : DataW H} {pl : List MemPlace}
    (hok : Value.okWide Try.prog W .any base 22 v) (h : DataW.Trod enc Try.prog W 0 (fun _ => true) true 22 v d pl) :
    ∃ (os : List OpT) (ao : Option Addr) (c : Nat), v = .slice ao os.length c ∧ SlOp W ao os := by
  obtain ⟨a0, len, cap, rfl⟩ := okWide_slice Try.underlying22 hok
  obtain ⟨fuel, hf⟩ := h
  rcases Go.Deep.open_slice Try.underlying22 hf with ⟨hcs, hx⟩ | ⟨a, len', cap', m, n, D, Pl, hcs, _, hl, hm, hmm, hx, hel⟩
  · simp [Value.cells] at hcs
    obtain ⟨rfl, rfl, rfl⟩ := hcs
    exact ⟨[], none, 0, rfl, fun j hj => by simp at hj⟩
  · simp [Value.cells] at hcs
    obtain ⟨rfl, rfl, rfl⟩ := hcs
    simp only [if_true] at hmm
    have haddr : 0 < len → ∃ g off, a = ⟨g, off, none⟩ := fun h0 => by
      obtain ⟨cs', hc, _⟩ := hel 0 (by omega)
      rw [Try.cellsOp] at hc
      obtain ⟨_, hcl, hat⟩ := World.cells?_some hc
      have c0 := (hat 0 (by omega)).trans (List.getElem?_eq_getElem (by omega))
      obtain ⟨b, off, spot⟩ := a
      have hspot : spot = none := by simpa [Addr.add] using World.cell?_spot c0
      subst hspot
      exact ⟨b, off, rfl⟩
    have each : ∀ i, i < len → ∃ x : OpT, ∃ g off, a = ⟨g, off, none⟩ ∧ OpAt W g (off + i * 4) x := by
      intro i hi
      obtain ⟨cs', hc, ht⟩ := hel i (by omega)
      rw [Try.cellsOp] at hc
      obtain ⟨_, hcl, hat⟩ := World.cells?_some hc
      obtain ⟨ys, n', _, hy, _, hyl, hfs⟩ := DataW.trod_struct Try.underlying41 ht
      have c0 := hat 0 (by omega)
      have c1 := hat 1 (by omega)
      have c2 := hat 2 (by omega)
      have c3 := hat 3 (by omega)
      rw [Go.Deep.add_add] at c0 c1 c2 c3
      match cs', hcl with
      | [u0, u1, u2, u3], _ =>
        match ys, hyl with
        | [y0, y1, y2, y3], _ =>
          have f0 : DataW.trod enc Try.prog W 0 (fun _ => true) true n' 3 (List.take (Try.prog.cellsOf 3) (List.drop 0 [u0, u1, u2, u3])) = some y0 := hfs 0 _ rfl
          have f1 : DataW.trod enc Try.prog W 0 (fun _ => true) true n' 3 (List.take (Try.prog.cellsOf 3) (List.drop 1 [u0, u1, u2, u3])) = some y1 := hfs 1 _ rfl
          have f2 : DataW.trod enc Try.prog W 0 (fun _ => true) true n' 31 (List.take (Try.prog.cellsOf 31) (List.drop 2 [u0, u1, u2, u3])) = some y2 := hfs 2 _ rfl
          have f3 : DataW.trod enc Try.prog W 0 (fun _ => true) true n' 39 (List.take (Try.prog.cellsOf 39) (List.drop 3 [u0, u1, u2, u3])) = some y3 := hfs 3 _ rfl
          rw [Try.cellsInt] at f0 f1
          rw [Try.cellsBs] at f2
          rw [Try.cellsIs] at f3
          obtain ⟨k, e0, _, w0⟩ := DataW.trod_int Try.underlying3 f0
          obtain ⟨x, e1, _, w1⟩ := DataW.trod_int Try.underlying3 f1
          obtain ⟨vb, bs, e2, hb⟩ := open_bytesCell f2
          obtain ⟨ko, kc, ks, e3, hk, hkr⟩ := open_intsCell f3
          simp at e0 e1 e2 e3
          subst e0 e1 e2 e3
          have r0 : i64R k := by simpa [i64R, Lit.wf, IntKind.min, IntKind.max, IntKind.signed, IntKind.bits] using w0
          have r1 : i64R x := by simpa [i64R, Lit.wf, IntKind.min, IntKind.max, IntKind.signed, IntKind.bits] using w1
          have c0' : W.cell? (a.add (i * 4)) = some (.int .i64 k) := by simpa using c0
          obtain ⟨g, off, rfl⟩ := haddr (by omega)
          simp only [add_lit] at c0' c1 c2 c3
          exact ⟨⟨k, x, bs, ks⟩, g, off, rfl, c0', by rw [Nat.add_assoc]; simpa using c1, ⟨_, by rw [Nat.add_assoc]; simpa using c2, hb⟩, ⟨ko, kc, by rw [Nat.add_assoc]; simpa using c3, hk⟩, r0, r1, hkr⟩
    obtain ⟨F, hF⟩ := Go.Deep.choose_lt each
    refine ⟨(List.range len).map F, some a, cap, by simp, fun j hj => ?_⟩
    simp only [List.length_map, List.length_range] at hj
    have e : ((List.range len).map F).getD j default = F j := by simp [List.getD_eq_getElem?_getD, hj]
    rw [e]
    obtain ⟨g, off, rfl, h⟩ := hF j hj
    exact ⟨g, off, rfl, h⟩

end Go.Proofs.Ytidkeglldmbfeaa
