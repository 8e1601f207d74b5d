/-
  An argument of package extent's statements, opened: a []Op.
-/
import Derived.Test.YtfclfmobmaemkaaOpen
import Derived.Deep.Slices
import Derived.Deep.Fields
namespace Go.Proofs.Ytfclfmobmaemkaa
open Go Go.ChangeShapes Go.WideShapes Go.ChangeAt Go.RowKit
set_option linter.unusedVariables false
set_option linter.unusedSimpArgs false
set_option maxRecDepth 100000

/-- One call: its kind, its first sector, how many. -/
structure OpE where
  K : Int
  S : Int
  N : Int
instance : Inhabited OpE := ⟨⟨0, 0, 0⟩⟩
structure OpEAt (w : World) (g o : Nat) (x : OpE) : Prop where
  k : w.cell? ⟨g, o, none⟩ = some (.int .i64 x.K)
  s : w.cell? ⟨g, o + 1, none⟩ = some (.int .i64 x.S)
  n : w.cell? ⟨g, o + 2, none⟩ = some (.int .i64 x.N)
  rk : -9223372036854775808 ≤ x.K ∧ x.K ≤ 9223372036854775807
  rs : -9223372036854775808 ≤ x.S ∧ x.S ≤ 9223372036854775807
  rn : -9223372036854775808 ≤ x.N ∧ x.N ≤ 9223372036854775807
def SlE (w : World) (ao : Option Addr) (os : List OpE) : Prop := ∀ j, j < os.length → ∃ g off, ao = some ⟨g, off, none⟩ ∧ OpEAt w g (off + j * 3) (os.getD j default)
theorem OpEAt.keep {w w' : World} {g o : Nat} {x : OpE} (h : OpEAt w g o x) (ho : Only (fun _ => False) w w') : OpEAt w' g o x :=
  ⟨ho.cellq h.k, ho.cellq h.s, ho.cellq h.n, h.rk, h.rs, h.rn⟩
theorem Try.cellsOpE : Try.prog.cellsOf 38 = 3 := by kernel_rfl

theorem open_opsE {H : Type} {enc : TypeId × Value → H} {W : World} {base : Nat} {v : Value} {d : DataW H} {pl : List MemPlace}
    (hok : Value.okWide Try.prog W .any base 22 v) (h : DataW.Trod enc Try.prog W 0 (fun _ => true) true 22 v d pl) :
    ∃ (os : List OpE) (ao : Option Addr) (c : Nat), v = .slice ao os.length c ∧ SlE W ao os := by
  obtain ⟨a0, len, cap, rfl⟩ := okWide_slice Try.underlying22 hok
  obtain ⟨fuel, hf⟩ := h
  rcases Go.Deep.open_slice Try.underlying22 hf with ⟨hcs, hx⟩ | ⟨a, len', cap', m, n, D, Pl, hcs, _, hl, hm, hmm, hx, hel⟩
  · simp [Value.cells] at hcs
    obtain ⟨rfl, rfl, rfl⟩ := hcs
    exact ⟨[], none, 0, rfl, fun j hj => by simp at hj⟩
  · simp [Value.cells] at hcs
    obtain ⟨rfl, rfl, rfl⟩ := hcs
    simp only [if_true] at hmm
    have haddr : 0 < len → ∃ g off, a = ⟨g, off, none⟩ := fun h0 => by
      obtain ⟨cs', hc, _⟩ := hel 0 (by omega)
      rw [Try.cellsOpE] at hc
      obtain ⟨_, hcl, hat⟩ := World.cells?_some hc
      have c0 := (hat 0 (by omega)).trans (List.getElem?_eq_getElem (by omega))
      obtain ⟨b, off, spot⟩ := a
      have hspot : spot = none := by simpa [Addr.add] using World.cell?_spot c0
      subst hspot
      exact ⟨b, off, rfl⟩
    have each : ∀ i, i < len → ∃ x : OpE, ∃ g off, a = ⟨g, off, none⟩ ∧ OpEAt W g (off + i * 3) x := by
      intro i hi
      obtain ⟨cs', hc, ht⟩ := hel i (by omega)
      rw [Try.cellsOpE] at hc
      obtain ⟨_, hcl, hat⟩ := World.cells?_some hc
      obtain ⟨ys, n', _, hy, _, hyl, hfs⟩ := DataW.trod_struct Try.underlying38 ht
      have c0 := hat 0 (by omega)
      have c1 := hat 1 (by omega)
      have c2 := hat 2 (by omega)
      rw [Go.Deep.add_add] at c0 c1 c2
      match cs', hcl with
      | [u0, u1, u2], _ =>
        match ys, hyl with
        | [y0, y1, y2], _ =>
          have f0 : DataW.trod enc Try.prog W 0 (fun _ => true) true n' 3 (List.take (Try.prog.cellsOf 3) (List.drop 0 [u0, u1, u2])) = some y0 := hfs 0 _ rfl
          have f1 : DataW.trod enc Try.prog W 0 (fun _ => true) true n' 3 (List.take (Try.prog.cellsOf 3) (List.drop 1 [u0, u1, u2])) = some y1 := hfs 1 _ rfl
          have f2 : DataW.trod enc Try.prog W 0 (fun _ => true) true n' 3 (List.take (Try.prog.cellsOf 3) (List.drop 2 [u0, u1, u2])) = some y2 := hfs 2 _ rfl
          rw [Try.cellsInt] at f0 f1 f2
          obtain ⟨k, e0, _, w0⟩ := DataW.trod_int Try.underlying3 f0
          obtain ⟨x, e1, _, w1⟩ := DataW.trod_int Try.underlying3 f1
          obtain ⟨y, e2, _, w2⟩ := DataW.trod_int Try.underlying3 f2
          simp at e0 e1 e2
          subst e0 e1 e2
          have r0 : -9223372036854775808 ≤ k ∧ k ≤ 9223372036854775807 := by simpa [Lit.wf, IntKind.min, IntKind.max, IntKind.signed, IntKind.bits] using w0
          have r1 : -9223372036854775808 ≤ x ∧ x ≤ 9223372036854775807 := by simpa [Lit.wf, IntKind.min, IntKind.max, IntKind.signed, IntKind.bits] using w1
          have r2 : -9223372036854775808 ≤ y ∧ y ≤ 9223372036854775807 := by simpa [Lit.wf, IntKind.min, IntKind.max, IntKind.signed, IntKind.bits] using w2
          have c0' : W.cell? (a.add (i * 3)) = some (.int .i64 k) := by simpa using c0
          obtain ⟨g, off, rfl⟩ := haddr (by omega)
          simp only [add_lit] at c0' c1 c2
          exact ⟨⟨k, x, y⟩, g, off, rfl, c0', by rw [Nat.add_assoc]; simpa using c1, by rw [Nat.add_assoc]; simpa using c2, r0, r1, r2⟩
    obtain ⟨F, hF⟩ := Go.Deep.choose_lt each
    refine ⟨(List.range len).map F, some a, cap, by simp, fun j hj => ?_⟩
    simp only [List.length_map, List.length_range] at hj
    have e : ((List.range len).map F).getD j default = F j := by simp [List.getD_eq_getElem?_getD, hj]
    rw [e]
    obtain ⟨g, off, rfl, h⟩ := hF j hj
    exact ⟨g, off, rfl, h⟩

end Go.Proofs.Ytfclfmobmaemkaa
