/-
  An argument of the statements, opened: a []Put; what its bulk bounds.
-/
import Derived.Test.YticaonmifblnbaaPackOpen
import Derived.Test.YticaonmifblnbaaPackGo
import Derived.Deep.Slices
import Derived.Deep.Fields
namespace Go.Proofs.Yticaonmifblnbaa
open Go Go.ChangeShapes Go.WideShapes Go.ChangeAt Go.RowKit
set_option linter.unusedVariables false

/-- One piece: its kind, its number, its text. -/
structure Pt where
  K : Int
  N : Nat
  S : ByteArray
instance : Inhabited Pt := ⟨⟨0, 0, ByteArray.empty⟩⟩

/-- A slice of pieces, by its cells. -/
def SlP (w : World) (ao : Option Addr) (ps : List Pt) : Prop :=
  ∀ j, j < ps.length → ∃ g off, ao = some ⟨g, off, none⟩ ∧ w.cell? ⟨g, off + j * 3, none⟩ = some (.int .i64 (ps.getD j default).K) ∧ w.cell? ⟨g, off + j * 3 + 1, none⟩ = some (.int .u64 (ps.getD j default).N) ∧
    w.cell? ⟨g, off + j * 3 + 2, none⟩ = some (.string (ps.getD j default).S) ∧ (ps.getD j default).N < 18446744073709551616

theorem SlP.keep {w w' : World} {ao : Option Addr} {ps : List Pt} (h : SlP w ao ps) (ho : Only (fun _ => False) w w') : SlP w' ao ps := fun j hj => by
  obtain ⟨g, off, h0, h1, h2, h3, h4⟩ := h j hj
  exact ⟨g, off, h0, ho.cellq h1, ho.cellq h2, ho.cellq h3, h4⟩

/-- How many places the pieces and their texts take. -/
def tot (ps : List Pt) : Nat := (ps.map fun p => p.S.size + 1).sum

theorem bulk_range {H : Type} (D : Nat → DataW H) (F : Nat → Pt) : ∀ n, (∀ i, i < n → (F i).S.size + 1 ≤ Rows.uptoBulk (D i)) → tot ((List.range n).map F) ≤ Rows.uptoBulkAll ((List.range n).map D)
  | 0, _ => by simp [tot, Rows.uptoBulkAll]
  | n + 1, h => by
    have ih := bulk_range D F n (fun i hi => h i (by omega))
    have h1 := h n (by omega)
    have happ : ∀ (l : List (DataW H)) (d : DataW H), Rows.uptoBulkAll (l ++ [d]) = Rows.uptoBulkAll l + Rows.uptoBulk d := by
      intro l d
      induction l with
      | nil => simp [Rows.uptoBulkAll]
      | cons x l ihl => simp only [List.cons_append, Rows.uptoBulkAll, ihl]; omega
    rw [List.range_succ, List.map_append, List.map_append]
    simp only [List.map_cons, List.map_nil]
    rw [happ]
    simp only [tot, List.map_append, List.sum_append, List.map_cons, List.map_nil, List.sum_cons, List.sum_nil] at ih ⊢
    omega

theorem Try.cellsPut : Try.prog.cellsOf 46 = 3 := by kernel_rfl

theorem Try.cellsU64 : Try.prog.cellsOf 44 = 1 := by kernel_rfl
theorem Try.cellsStr : Try.prog.cellsOf 9 = 1 := by kernel_rfl

theorem open_putsArg {H : Type} {enc : TypeId × Value → H} {W : World} {base : Nat} {v : Value} {d : DataW H} {pl : List MemPlace}
    (hok : Value.okWide Try.prog W .any base 22 v) (h : DataW.Trod enc Try.prog W 0 (fun _ => true) true 22 v d pl) :
    ∃ (ps : List Pt) (ao : Option Addr) (c : Nat), v = .slice ao ps.length c ∧ SlP W ao ps ∧ tot ps ≤ Rows.uptoBulk d := by
  obtain ⟨a0, len, cap, rfl⟩ := okWide_slice Try.underlying22 hok
  obtain ⟨fuel, hf⟩ := h
  rcases Go.Deep.open_slice Try.underlying22 hf with ⟨hcs, hx⟩ | ⟨a, len', cap', m, n, D, Pl, hcs, _, hl, hm, hmm, hx, hel⟩
  · simp [Value.cells] at hcs
    obtain ⟨rfl, rfl, rfl⟩ := hcs
    exact ⟨[], none, 0, rfl, fun j hj => by simp at hj, by simp [tot]⟩
  · simp [Value.cells] at hcs
    obtain ⟨rfl, rfl, rfl⟩ := hcs
    simp only [if_true] at hmm
    simp only [Prod.mk.injEq] at hx
    obtain ⟨rfl, _⟩ := hx
    have each : ∀ i, i < len → ∃ x : Pt, W.cell? (a.add (i * 3)) = some (.int .i64 x.K) ∧ W.cell? (a.add (i * 3 + 1)) = some (.int .u64 x.N) ∧ W.cell? (a.add (i * 3 + 2)) = some (.string x.S) ∧ x.N < 18446744073709551616 ∧ x.S.size + 1 ≤ Rows.uptoBulk (D i) := by
      intro i hi
      obtain ⟨cs', hc, ht⟩ := hel i (by omega)
      rw [Try.cellsPut] at hc
      obtain ⟨_, hcl, hat⟩ := World.cells?_some hc
      obtain ⟨ys, n', _, hy, _, hyl, hfs⟩ := DataW.trod_struct Try.underlying46 ht
      simp only [Prod.mk.injEq] at hy
      have c0 := hat 0 (by omega)
      have c1 := hat 1 (by omega)
      have c2 := hat 2 (by omega)
      rw [Go.Deep.add_add] at c0 c1 c2
      match cs', hcl with
      | [u0, u1, u2], _ =>
        match ys, hyl with
        | [y0, y1, y2], _ =>
          have f0 : DataW.trod enc Try.prog W 0 (fun _ => true) true n' 3 (List.take (Try.prog.cellsOf 3) (List.drop 0 [u0, u1, u2])) = some y0 := hfs 0 _ rfl
          have f1 : DataW.trod enc Try.prog W 0 (fun _ => true) true n' 44 (List.take (Try.prog.cellsOf 44) (List.drop 1 [u0, u1, u2])) = some y1 := hfs 1 _ rfl
          have f2 : DataW.trod enc Try.prog W 0 (fun _ => true) true n' 9 (List.take (Try.prog.cellsOf 9) (List.drop 2 [u0, u1, u2])) = some y2 := hfs 2 _ rfl
          rw [Try.cellsInt] at f0
          rw [Try.cellsU64] at f1
          rw [Try.cellsStr] at f2
          obtain ⟨k, e0, rfl, w0⟩ := DataW.trod_int Try.underlying3 f0
          obtain ⟨x, e1, rfl, w1⟩ := DataW.trod_int Try.underlying44 f1
          obtain ⟨s, e2, rfl, _⟩ := DataW.trod_string Try.underlying9 f2
          simp at e0 e1 e2
          subst e0 e1 e2
          have hx : 0 ≤ x ∧ x ≤ 18446744073709551615 := by simpa [Lit.wf, IntKind.min, IntKind.max, IntKind.signed, IntKind.bits] using w1
          have hxn : ((x.toNat : Nat) : Int) = x := by omega
          refine ⟨⟨k, x.toNat, s⟩, by simpa using c0, by rw [hxn]; simpa using c1, by simpa using c2, by show x.toNat < _; omega, ?_⟩
          rw [hy.1]
          simp [Rows.uptoBulk, Rows.uptoBulkAll]
          omega
    obtain ⟨F, hF⟩ := Go.Deep.choose_lt each
    refine ⟨(List.range len).map F, some a, cap, by simp, fun j hj => ?_, ?_⟩
    · simp only [List.length_map, List.length_range] at hj
      have e : ((List.range len).map F).getD j default = F j := by simp [List.getD_eq_getElem?_getD, hj]
      obtain ⟨g, off, rfl⟩ := addr_of_cell (by have := (hF 0 (by omega)).1; simpa using this)
      rw [e]
      have h := hF j hj
      rw [add_lit, add_lit, add_lit] at h
      exact ⟨g, off, rfl, h.1, by rw [Nat.add_assoc]; exact h.2.1, by rw [Nat.add_assoc]; exact h.2.2.1, h.2.2.2.1⟩
    · have hb := bulk_range D F len (fun i hi => (hF i hi).2.2.2.2)
      simp only [Rows.uptoBulk]
      omega

end Go.Proofs.Yticaonmifblnbaa
