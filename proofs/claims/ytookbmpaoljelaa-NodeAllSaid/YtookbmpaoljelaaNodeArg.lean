/-
  Nodes among the arguments.
-/
import Derived.Test.YtookbmpaoljelaaArgB
import Derived.Test.YtookbmpaoljelaaNodeMem
import Derived.Test.YtookbmpaoljelaaNode11
namespace Go.Proofs.Ytookbmpaoljelaa
open Go Go.RowKit Go.Joins Go.ChangeShapes Go.WideShapes Go.Deep
set_option linter.unusedVariables false
set_option maxRecDepth 100000

section
variable {H : Type} {enc : TypeId × Value → H} {W : World} {base b0 : Nat} {sp : Nat → Bool} {held : Bool} {r : Reach}
theorem addr_plain {a : Addr} {v : Value} (h : W.cell? (a.add 0) = some v) : ∃ g off, a = ⟨g, off, none⟩ := by
  obtain ⟨b, off, spot⟩ := a
  have hspot : spot = none := by simpa [Addr.add] using World.cell?_spot h
  subst hspot
  exact ⟨b, off, rfl⟩
/-- A slice of elements that is handed in. -/
theorem open_sl {α : Type} [Cel α] [Inhabited α] {t e : TypeId} {bytes : Nat} (T : ElT α t e bytes) (hce : Try.prog.cellsOf e = Cel.size α) (hbe : Try.prog.bytesOf e = bytes) (ok : α → Prop)
    (one : ∀ {fuel : Nat} {cs : List Value} {x : DataW H × List MemPlace}, DataW.trod enc Try.prog W base sp held fuel e cs = some x → cs.length = Cel.size α → Szd e x.1 → ∃ z : α, cs = Cel.cells z ∧ ok z)
    {fuel : Nat} {cs : List Value} {x : DataW H × List MemPlace} (h : DataW.trod enc Try.prog W base sp held fuel t cs = some x) (hs : Szd t x.1) :
    ∃ (l : List α) (ao : Option Addr) (c : Nat), cs = [.slice ao l.length c] ∧ SlG W ao l ∧ (∀ a ∈ l, ok a) ∧ l.length * bytes ≤ 140737488351232 := by
  rcases Go.Deep.open_slice T.u h with ⟨rfl, _⟩ | ⟨a, len, cap, m, n, D, Pl, rfl, _, hl, hm, hmm, hx, hel⟩
  · exact ⟨[], none, 0, rfl, SlG.nil _ _, (fun a ha => by cases ha), by simp⟩
  · have hle : len ≤ m := by rw [hmm]; split <;> omega
    subst hx
    have each : ∀ i, i < len → ∃ z : α, (∃ g off, a = ⟨g, off, none⟩ ∧ ∀ j, j < Cel.size α → W.cell? ⟨g, off + i * Cel.size α + j, none⟩ = (Cel.cells z)[j]?) ∧ ok z := by
      intro i hi
      obtain ⟨cs', hc, ht⟩ := hel i (by omega)
      have hsD : Szd e (D i) := hs.elem T.u (List.mem_map.2 ⟨i, List.mem_range.2 hi, rfl⟩)
      obtain ⟨cs0, hc0, _⟩ := hel 0 (by omega)
      rw [hce] at hc hc0
      obtain ⟨_, hcl, hat⟩ := World.cells?_some hc
      obtain ⟨_, hcl0, hat0⟩ := World.cells?_some hc0
      have hp := Cel.pos (α := α)
      have z0 := (hat0 0 hp).trans (List.getElem?_eq_getElem (by omega))
      obtain ⟨g, off, rfl⟩ := addr_plain (by simpa using z0)
      obtain ⟨z, rfl, hz⟩ := one ht hcl hsD
      refine ⟨z, ⟨g, off, rfl, fun j hj => ?_⟩, hz⟩
      have h1 := hat j hj
      rw [Go.Deep.add_add, add_lit, ← Nat.add_assoc] at h1
      exact h1
    obtain ⟨F, hF⟩ := Go.Deep.choose_lt each
    have hb := hs.len T.u
    rw [hbe] at hb
    simp only [List.length_map, List.length_range] at hb
    have hml : len * bytes ≤ 140737488351232 := Nat.le_trans (Nat.mul_le_mul_right _ (by omega)) hb
    refine ⟨(List.range len).map F, some a, cap, by simp, fun j hj => ?_, fun z hz => ?_, by simpa using hml⟩
    · simp only [List.length_map, List.length_range] at hj
      have e1 : ((List.range len).map F).getD j default = F j := by simp [List.getD_eq_getElem?_getD, hj]
      rw [e1]
      obtain ⟨⟨g, off, rfl, h1⟩, _⟩ := hF j hj
      exact ⟨g, off, rfl, h1⟩
    · obtain ⟨i, hi, rfl⟩ := List.mem_map.1 hz
      exact (hF i (List.mem_range.1 hi)).2

theorem cEn : Try.prog.cellsOf 45 = 6 := by kernel_rfl
theorem bEn : Try.prog.bytesOf 45 = 72 := by kernel_rfl
theorem cMs : Try.prog.cellsOf 57 = 7 := by kernel_rfl
theorem bMs : Try.prog.bytesOf 57 = 72 := by kernel_rfl
theorem cNu : Try.prog.cellsOf 43 = 1 := by kernel_rfl
theorem bNu : Try.prog.bytesOf 43 = 8 := by kernel_rfl
theorem cSt : Try.prog.cellsOf 9 = 1 := by kernel_rfl
theorem bSt : Try.prog.bytesOf 9 = 16 := by kernel_rfl
theorem cHd : Try.prog.cellsOf 46 = 1 := by kernel_rfl
theorem bHd : Try.prog.bytesOf 46 = 24 := by kernel_rfl
theorem one_en {fuel : Nat} {cs : List Value} {x : DataW H × List MemPlace} (h : DataW.trod enc Try.prog W base sp held fuel 45 cs = some x) (hl : cs.length = 6) (hs : Szd 45 x.1) : ∃ z : En, cs = Cel.cells z ∧ NumW z.x := by
  match cs, hl with
  | [a, b, c, d, e, f], _ =>
    obtain ⟨xs, n, _, hx, _, hlen, hf⟩ := DataW.trod_struct Try.underlying45 h
    match xs, hlen with
    | [y0, y1, y2, y3, y4, y5], _ =>
      have c4 : Try.prog.cellsOf 4 = 1 := by kernel_rfl
      have c9 : Try.prog.cellsOf 9 = 1 := by kernel_rfl
      have c22 : Try.prog.cellsOf 43 = 1 := by kernel_rfl
      have h0 : DataW.trod enc Try.prog W base sp held n 9 (List.take (Try.prog.cellsOf 9) (List.drop 0 [a, b, c, d, e, f])) = some y0 := hf 0 _ rfl
      have h1 : DataW.trod enc Try.prog W base sp held n 4 (List.take (Try.prog.cellsOf 4) (List.drop 1 [a, b, c, d, e, f])) = some y1 := hf 1 _ rfl
      have h2 : DataW.trod enc Try.prog W base sp held n 9 (List.take (Try.prog.cellsOf 9) (List.drop 2 [a, b, c, d, e, f])) = some y2 := hf 2 _ rfl
      have h3 : DataW.trod enc Try.prog W base sp held n 43 (List.take (Try.prog.cellsOf 43) (List.drop 3 [a, b, c, d, e, f])) = some y3 := hf 3 _ rfl
      have h4 : DataW.trod enc Try.prog W base sp held n 4 (List.take (Try.prog.cellsOf 4) (List.drop 4 [a, b, c, d, e, f])) = some y4 := hf 4 _ rfl
      have h5 : DataW.trod enc Try.prog W base sp held n 9 (List.take (Try.prog.cellsOf 9) (List.drop 5 [a, b, c, d, e, f])) = some y5 := hf 5 _ rfl
      simp only [c4, c9, c22, List.drop_zero, List.drop_succ_cons, List.take_succ_cons, List.take_zero] at h0 h1 h2 h3 h4 h5
      obtain ⟨k, e0, _⟩ := DataW.trod_string Try.underlying9 h0
      obtain ⟨hh, e1, _⟩ := DataW.trod_bool Try.underlying4 h1
      obtain ⟨v, e2, _⟩ := DataW.trod_string Try.underlying9 h2
      obtain ⟨tx, e3, _, w3⟩ := DataW.trod_int Try.underlying43 h3
      obtain ⟨nn, e4, _⟩ := DataW.trod_bool Try.underlying4 h4
      obtain ⟨nv, e5, _⟩ := DataW.trod_string Try.underlying9 h5
      refine ⟨⟨k, hh, v, tx, nn, nv⟩, ?_, wf64 w3⟩
      rw [one_val e0, one_val e1, one_val e2, one_val e3, one_val e4, one_val e5]
      rfl
theorem one_ms {fuel : Nat} {cs : List Value} {x : DataW H × List MemPlace} (h : DataW.trod enc Try.prog W base sp held fuel 57 cs = some x) (hl : cs.length = 7) (hs : Szd 57 x.1) : ∃ z : Ms, cs = Cel.cells z ∧ MsW z := by
  match cs, hl with
  | [a, b, c, d, e, f, g], _ =>
    obtain ⟨xs, n, _, hx, _, hlen, hf⟩ := DataW.trod_struct Try.underlying57 h
    match xs, hlen with
    | [y0, y1, y2, y3, y4, y5, y6], _ =>
      have c3 : Try.prog.cellsOf 3 = 1 := by kernel_rfl
      have c9 : Try.prog.cellsOf 9 = 1 := by kernel_rfl
      have c22 : Try.prog.cellsOf 43 = 1 := by kernel_rfl
      have h0 : DataW.trod enc Try.prog W base sp held n 43 (List.take (Try.prog.cellsOf 43) (List.drop 0 [a, b, c, d, e, f, g])) = some y0 := hf 0 _ rfl
      have h1 : DataW.trod enc Try.prog W base sp held n 3 (List.take (Try.prog.cellsOf 3) (List.drop 1 [a, b, c, d, e, f, g])) = some y1 := hf 1 _ rfl
      have h2 : DataW.trod enc Try.prog W base sp held n 9 (List.take (Try.prog.cellsOf 9) (List.drop 2 [a, b, c, d, e, f, g])) = some y2 := hf 2 _ rfl
      have h3 : DataW.trod enc Try.prog W base sp held n 43 (List.take (Try.prog.cellsOf 43) (List.drop 3 [a, b, c, d, e, f, g])) = some y3 := hf 3 _ rfl
      have h4 : DataW.trod enc Try.prog W base sp held n 9 (List.take (Try.prog.cellsOf 9) (List.drop 4 [a, b, c, d, e, f, g])) = some y4 := hf 4 _ rfl
      have h5 : DataW.trod enc Try.prog W base sp held n 3 (List.take (Try.prog.cellsOf 3) (List.drop 5 [a, b, c, d, e, f, g])) = some y5 := hf 5 _ rfl
      have h6 : DataW.trod enc Try.prog W base sp held n 43 (List.take (Try.prog.cellsOf 43) (List.drop 6 [a, b, c, d, e, f, g])) = some y6 := hf 6 _ rfl
      simp only [c3, c9, c22, List.drop_zero, List.drop_succ_cons, List.take_succ_cons, List.take_zero] at h0 h1 h2 h3 h4 h5 h6
      obtain ⟨sq, e0, _, w0⟩ := DataW.trod_int Try.underlying43 h0
      obtain ⟨K, e1, _, _⟩ := DataW.trod_int Try.underlying3 h1
      obtain ⟨k, e2, _⟩ := DataW.trod_string Try.underlying9 h2
      obtain ⟨tx, e3, _, w3⟩ := DataW.trod_int Try.underlying43 h3
      obtain ⟨v, e4, _⟩ := DataW.trod_string Try.underlying9 h4
      obtain ⟨off, e5, _, _⟩ := DataW.trod_int Try.underlying3 h5
      obtain ⟨num, e6, _, w6⟩ := DataW.trod_int Try.underlying43 h6
      refine ⟨⟨sq, K, k, tx, v, off, num⟩, ?_, ⟨(wf64 w0).1, (wf64 w0).2, (wf64 w3).1, (wf64 w3).2, (wf64 w6).1, (wf64 w6).2⟩⟩
      rw [one_val e0, one_val e1, one_val e2, one_val e3, one_val e4, one_val e5, one_val e6]
      rfl
theorem one_nu {fuel : Nat} {cs : List Value} {x : DataW H × List MemPlace} (h : DataW.trod enc Try.prog W base sp held fuel 43 cs = some x) (hl : cs.length = 1) (hs : Szd 43 x.1) : ∃ z : Int, cs = Cel.cells z ∧ NumW z := by
  match cs, hl with
  | [a], _ =>
    obtain ⟨k, e, _, w0⟩ := DataW.trod_int Try.underlying43 h
    refine ⟨k, ?_, wf64 w0⟩
    rw [one_val e]
    rfl
theorem one_st {fuel : Nat} {cs : List Value} {x : DataW H × List MemPlace} (h : DataW.trod enc Try.prog W base sp held fuel 9 cs = some x) (hl : cs.length = 1) (hs : Szd 9 x.1) : ∃ z : ByteArray, cs = Cel.cells z ∧ True := by
  match cs, hl with
  | [a], _ =>
    obtain ⟨s, e, _⟩ := DataW.trod_string Try.underlying9 h
    refine ⟨s, ?_, trivial⟩
    rw [one_val e]
    rfl
/-- The head of a list of messages, and what lies behind it. -/
def HdOk (W : World) (h : Hd) : Prop := ∃ l : List Ms, h.n = l.length ∧ SlG W h.ao l ∧ (∀ m ∈ l, MsW m) ∧ l.length * 72 ≤ 140737488351232
theorem one_hd {fuel : Nat} {cs : List Value} {x : DataW H × List MemPlace} (h : DataW.trod enc Try.prog W base sp held fuel 46 cs = some x) (hl : cs.length = 1) (hs : Szd 46 x.1) : ∃ z : Hd, cs = Cel.cells z ∧ HdOk W z := by
  obtain ⟨l, ao, c, rfl, h1, h2, h3⟩ := open_sl elMs cMs bMs MsW one_ms h hs
  exact ⟨⟨ao, l.length, c⟩, rfl, l, rfl, h1, h2, h3⟩
theorem hds_lists {W : World} : ∀ {hs : List Hd}, (∀ h ∈ hs, HdOk W h) → ∃ bs : List (List Ms), bs.length = hs.length ∧ (∀ j, j < hs.length → (hs.getD j default).n = (bs.getD j default).length ∧ SlG W (hs.getD j default).ao (bs.getD j default) ∧ (bs.getD j default).length * 72 ≤ 140737488351232) ∧ ∀ l ∈ bs, ∀ m ∈ l, MsW m
  | [], _ => ⟨[], rfl, (fun j hj => by simp at hj), (fun l hl => by cases hl)⟩
  | h :: hs, ok => by
    obtain ⟨bs, e1, e2, e3⟩ := hds_lists (hs := hs) (fun x hx => ok x (by simp [hx]))
    obtain ⟨l, f1, f2, f3, f4⟩ := ok h (by simp)
    refine ⟨l :: bs, by simp [e1], fun j hj => ?_, fun x hx m hm => ?_⟩
    · cases j with
      | zero => exact ⟨f1, f2, f4⟩
      | succ j =>
        have := e2 j (by simpa using hj)
        simpa using this
    · rcases List.mem_cons.1 hx with rfl | hx
      · exact f3 m hm
      · exact e3 x hx m hm
theorem open_node {v : Value} {d : DataW H} {p : List MemPlace} (hv : Value.okWide Try.prog W r b0 27 v) (h : DataW.Trod enc Try.prog W base sp held 27 v d p) (hs : Szd 27 d) : ∃ (k : Nh) (n : Nd), v = ndv k n ∧ NdAt W k n ∧ NdW n := by
  obtain ⟨cs, rfl, hsz⟩ := okWide_struct Try.underlying27 hv
  obtain ⟨l⟩ := cs
  have c27 : Try.prog.cellsOf 27 = 5 := by kernel_rfl
  match l, hsz.trans c27 with
  | [a, b, c, d', e], _ =>
    obtain ⟨fuel, hf0⟩ := h
    have hf0 : DataW.trod enc Try.prog W base sp held fuel 27 [a, b, c, d', e] = some (d, p) := hf0
    obtain ⟨xs, n, _, hx, _, hlen, hf⟩ := DataW.trod_struct Try.underlying27 hf0
    match xs, hlen with
    | [y0, y1, y2, y3, y4], _ =>
      have c4 : Try.prog.cellsOf 4 = 1 := by kernel_rfl
      have ce : Try.prog.cellsOf 22 = 1 := by kernel_rfl
      have cp : Try.prog.cellsOf 23 = 1 := by kernel_rfl
      have ck : Try.prog.cellsOf 24 = 1 := by kernel_rfl
      have cb : Try.prog.cellsOf 25 = 1 := by kernel_rfl
      have h0 : DataW.trod enc Try.prog W base sp held n 4 (List.take (Try.prog.cellsOf 4) (List.drop 0 [a, b, c, d', e])) = some y0 := hf 0 _ rfl
      have h1 : DataW.trod enc Try.prog W base sp held n 22 (List.take (Try.prog.cellsOf 22) (List.drop 1 [a, b, c, d', e])) = some y1 := hf 1 _ rfl
      have h2 : DataW.trod enc Try.prog W base sp held n 23 (List.take (Try.prog.cellsOf 23) (List.drop 2 [a, b, c, d', e])) = some y2 := hf 2 _ rfl
      have h3 : DataW.trod enc Try.prog W base sp held n 24 (List.take (Try.prog.cellsOf 24) (List.drop 3 [a, b, c, d', e])) = some y3 := hf 3 _ rfl
      have h4 : DataW.trod enc Try.prog W base sp held n 25 (List.take (Try.prog.cellsOf 25) (List.drop 4 [a, b, c, d', e])) = some y4 := hf 4 _ rfl
      simp only [c4, ce, cp, ck, cb, List.drop_zero, List.drop_succ_cons, List.take_succ_cons, List.take_zero] at h0 h1 h2 h3 h4
      have hx2 : d = .agg [y0.1, y1.1, y2.1, y3.1, y4.1] := congrArg Prod.fst hx
      subst hx2
      obtain ⟨lf, e0, _⟩ := DataW.trod_bool Try.underlying4 h0
      obtain ⟨es, eo, ec, e1, s1, o1, b1⟩ := open_sl elEn cEn bEn (fun e => NumW e.x) one_en h1 (hs.part Try.underlying27 (j := 1) rfl rfl)
      obtain ⟨ps, po, pc, e2, s2, o2, b2⟩ := open_sl elSt cSt bSt (fun _ => True) one_st h2 (hs.part Try.underlying27 (j := 2) rfl rfl)
      obtain ⟨ks, ko, kc, e3, s3, o3, b3⟩ := open_sl elNu cNu bNu NumW one_nu h3 (hs.part Try.underlying27 (j := 3) rfl rfl)
      obtain ⟨hds, bo, bc, e4, s4, o4, b4⟩ := open_sl elHd cHd bHd (HdOk W) one_hd h4 (hs.part Try.underlying27 (j := 4) rfl rfl)
      obtain ⟨bs, f1, f2, f3⟩ := hds_lists o4
      rw [one_val e0, one_val e1, one_val e2, one_val e3, one_val e4, ← f1]
      refine ⟨⟨eo, ec, po, pc, ko, kc, bo, bc⟩, ⟨lf, es, ps, ks, bs⟩, rfl, ⟨s1, s2, s3, fun j hj => ?_, ?_, ?_, ?_, ?_⟩, ⟨o1, o3, f3⟩⟩
      · have hj2 : j < hds.length := by rw [← f1]; exact hj
        obtain ⟨g, off, q1, q2⟩ := s4.hd hj2
        obtain ⟨g1, g2, g3⟩ := f2 j hj2
        rw [g1] at q2
        exact ⟨g, off, _, _, q1, q2, g2, by show (bs.getD j default).length ≤ _; omega⟩
      · show es.length ≤ _; omega
      · show ps.length ≤ _; omega
      · show ks.length ≤ _; omega
      · show bs.length ≤ _; omega
end

end Go.Proofs.Ytookbmpaoljelaa
