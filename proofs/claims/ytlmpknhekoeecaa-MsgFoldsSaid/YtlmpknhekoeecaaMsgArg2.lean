/-
  Lists of messages among the arguments.
-/
import Derived.Test.YtlmpknhekoeecaaMsgArg
import Derived.Test.YtlmpknhekoeecaaMsgEndsP
namespace Go.Proofs.Ytlmpknhekoeecaa
open Go Go.RowKit Go.Joins Go.ChangeShapes Go.WideShapes Go.Deep
set_option linter.unusedVariables false
set_option maxRecDepth 100000

/-- A slice of messages that is handed in. -/
structure MsArg (W : World) (ao : Option Addr) (l : List Ms) (c : Nat) : Prop where
  s : SlM W ao l
  b : l.length * 72 ≤ 140737488351232
  z : ao = none → l.length = 0 ∧ c = 0
  le : l.length ≤ c
section
variable {H : Type} {enc : TypeId × Value → H} {W : World} {base b0 : Nat} {sp : Nat → Bool} {held : Bool} {r : Reach}
theorem ms_cs {fuel : Nat} {a b c d e f g : Value} {x : DataW H × List MemPlace} (h : DataW.trod enc Try.prog W base sp held fuel 28 [a, b, c, d, e, f, g] = some x) (hs : Szd 28 x.1) :
    ∃ z : Ms, a = .int .u64 z.sq ∧ b = .int .i64 z.K ∧ c = .string z.k ∧ d = .int .u64 z.x ∧ e = .string z.v ∧ f = .int .i64 z.off ∧ g = .int .u64 z.num ∧ MsOk z := by
  obtain ⟨xs, n, _, hx, _, hlen, hf⟩ := DataW.trod_struct Try.underlying28 h
  match xs, hlen with
  | [y0, y1, y2, y3, y4, y5, y6], _ =>
    have c3 : Try.prog.cellsOf 3 = 1 := by kernel_rfl
    have c9 : Try.prog.cellsOf 9 = 1 := by kernel_rfl
    have c22 : Try.prog.cellsOf 22 = 1 := by kernel_rfl
    have h0 : DataW.trod enc Try.prog W base sp held n 22 (List.take (Try.prog.cellsOf 22) (List.drop 0 [a, b, c, d, e, f, g])) = some y0 := hf 0 _ rfl
    have h1 : DataW.trod enc Try.prog W base sp held n 3 (List.take (Try.prog.cellsOf 3) (List.drop 1 [a, b, c, d, e, f, g])) = some y1 := hf 1 _ rfl
    have h2 : DataW.trod enc Try.prog W base sp held n 9 (List.take (Try.prog.cellsOf 9) (List.drop 2 [a, b, c, d, e, f, g])) = some y2 := hf 2 _ rfl
    have h3 : DataW.trod enc Try.prog W base sp held n 22 (List.take (Try.prog.cellsOf 22) (List.drop 3 [a, b, c, d, e, f, g])) = some y3 := hf 3 _ rfl
    have h4 : DataW.trod enc Try.prog W base sp held n 9 (List.take (Try.prog.cellsOf 9) (List.drop 4 [a, b, c, d, e, f, g])) = some y4 := hf 4 _ rfl
    have h5 : DataW.trod enc Try.prog W base sp held n 3 (List.take (Try.prog.cellsOf 3) (List.drop 5 [a, b, c, d, e, f, g])) = some y5 := hf 5 _ rfl
    have h6 : DataW.trod enc Try.prog W base sp held n 22 (List.take (Try.prog.cellsOf 22) (List.drop 6 [a, b, c, d, e, f, g])) = some y6 := hf 6 _ rfl
    simp only [c3, c9, c22, List.drop_zero, List.drop_succ_cons, List.take_succ_cons, List.take_zero] at h0 h1 h2 h3 h4 h5 h6
    subst hx
    have hs' : Szd 28 (.agg [y0.1, y1.1, y2.1, y3.1, y4.1, y5.1, y6.1]) := hs
    obtain ⟨sq, e0, _, _⟩ := DataW.trod_int Try.underlying22 h0
    obtain ⟨K, e1, _, _⟩ := DataW.trod_int Try.underlying3 h1
    obtain ⟨k, e2, _⟩ := open_strM Try.underlying9 h2 (hs'.part Try.underlying28 (j := 2) rfl rfl)
    obtain ⟨tx, e3, _, _⟩ := DataW.trod_int Try.underlying22 h3
    obtain ⟨v, e4, w4⟩ := open_strM Try.underlying9 h4 (hs'.part Try.underlying28 (j := 4) rfl rfl)
    obtain ⟨off, e5, _, _⟩ := DataW.trod_int Try.underlying3 h5
    obtain ⟨num, e6, _, w6⟩ := DataW.trod_int Try.underlying22 h6
    exact ⟨⟨sq, K, k, tx, v, off, num⟩, one_val e0, one_val e1, e2, one_val e3, e4, one_val e5, one_val e6, ⟨(wf64 w6).1, (wf64 w6).2, by show v.size ≤ _; omega⟩⟩
theorem addr_plain {a : Addr} {v : Value} (h : W.cell? (a.add 0) = some v) : ∃ g off, a = ⟨g, off, none⟩ := by
  obtain ⟨b, off, spot⟩ := a
  have hspot : spot = none := by simpa [Addr.add] using World.cell?_spot h
  subst hspot
  exact ⟨b, off, rfl⟩
theorem open_msgs {v : Value} {d : DataW H} {pl : List MemPlace} (hok : Value.okWide Try.prog W .any base 23 v) (h : DataW.Trod enc Try.prog W 0 (fun _ => true) true 23 v d pl) (hs : Szd 23 d) :
    ∃ (l : List Ms) (ao : Option Addr) (c : Nat), v = .slice ao l.length c ∧ MsArg W ao l c := by
  obtain ⟨a0, len, cap, rfl⟩ := okWide_slice Try.underlying23 hok
  obtain ⟨fuel, hf⟩ := h
  rcases Go.Deep.open_slice Try.underlying23 hf with ⟨hcs, hx⟩ | ⟨a, len', cap', m, n, D, Pl, hcs, _, hl, hm, hmm, hx, hel⟩
  · simp [Value.cells] at hcs
    obtain ⟨rfl, rfl, rfl⟩ := hcs
    exact ⟨[], none, 0, rfl, ⟨fun j hj => by simp at hj, by simp, fun _ => ⟨rfl, rfl⟩, Nat.le_refl _⟩⟩
  · simp [Value.cells] at hcs
    obtain ⟨rfl, rfl, rfl⟩ := hcs
    simp only [if_true] at hmm
    simp only [Prod.mk.injEq] at hx
    obtain ⟨rfl, _⟩ := hx
    have each : ∀ i, i < len → ∃ x : Ms, ∃ g off, a = ⟨g, off, none⟩ ∧ MsAt W g (off + i * 7) x := by
      intro i hi
      obtain ⟨cs', hc, ht⟩ := hel i (by omega)
      have hsD : Szd 28 (D i) := hs.elem Try.underlying23 (List.mem_map.2 ⟨i, List.mem_range.2 hi, rfl⟩)
      obtain ⟨cs0, hc0, _⟩ := hel 0 (by omega)
      rw [Try.cellsMs] at hc hc0
      obtain ⟨_, hcl, hat⟩ := World.cells?_some hc
      obtain ⟨_, hcl0, hat0⟩ := World.cells?_some hc0
      have z0 := (hat0 0 (by omega)).trans (List.getElem?_eq_getElem (by omega))
      obtain ⟨g, off, rfl⟩ := addr_plain (by simpa using z0)
      have c0 := hat 0 (by omega)
      have c1 := hat 1 (by omega)
      have c2 := hat 2 (by omega)
      have c3 := hat 3 (by omega)
      have c4 := hat 4 (by omega)
      have c5 := hat 5 (by omega)
      have c6 := hat 6 (by omega)
      rw [Go.Deep.add_add] at c0 c1 c2 c3 c4 c5 c6
      match cs', hcl, ht, c0, c1, c2, c3, c4, c5, c6 with
      | [u0, u1, u2, u3, u4, u5, u6], _, ht, c0, c1, c2, c3, c4, c5, c6 =>
        obtain ⟨z, rfl, rfl, rfl, rfl, rfl, rfl, rfl, hN⟩ := ms_cs ht hsD
        simp only [add_lit] at c0 c1 c2 c3 c4 c5 c6
        exact ⟨z, g, off, rfl, ⟨by simpa using c0, by rw [Nat.add_assoc]; simpa using c1, by rw [Nat.add_assoc]; simpa using c2, by rw [Nat.add_assoc]; simpa using c3, by rw [Nat.add_assoc]; simpa using c4, by rw [Nat.add_assoc]; simpa using c5, by rw [Nat.add_assoc]; simpa using c6, hN⟩⟩
    obtain ⟨F, hF⟩ := Go.Deep.choose_lt each
    have hb := hs.len Try.underlying23
    rw [Try.bytesMs] at hb
    simp only [List.length_map, List.length_range] at hb
    refine ⟨(List.range len).map F, some a, cap, by simp, ⟨fun j hj => ?_, by simp only [List.length_map, List.length_range]; omega, (fun e => by cases e), by simpa using hl⟩⟩
    simp only [List.length_map, List.length_range] at hj
    have e : ((List.range len).map F).getD j default = F j := by simp [List.getD_eq_getElem?_getD, hj]
    rw [e]
    obtain ⟨g, off, rfl, h⟩ := hF j hj
    exact ⟨g, off, rfl, h⟩
end

end Go.Proofs.Ytlmpknhekoeecaa
