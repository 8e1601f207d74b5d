/-
  The arguments of the laws of keys, opened: lists of values, of ups and downs, of kinds, spans; and what the rows list.
-/
import Derived.Test.YtpedcpehomkikaaDoorKey8
import Derived.Test.YtpedcpehomkikaaDoorKey9
import Derived.Test.YtpedcpehomkikaaDoorValArg
import Derived.Test.YtpedcpehomkikaaDoorValTabs
import Derived.Deep.Slices
import Derived.SizedLaws
namespace Go.Proofs.YtpedcpehomkikaaDoor
open Go Go.RowKit Go.Joins Go.ChangeShapes Go.WideShapes Go.Deep Go.Lib
set_option linter.unusedVariables false
set_option maxRecDepth 100000

/-- What each row of keys lists. -/
def laidK : List (String × DataW Unit) := [("unicode/utf8.acceptRanges", Rows.laid_unicode_utf8_acceptRanges), ("unicode/utf8.first", Rows.laid_unicode_utf8_first)]
theorem utab_of {W : World} (hL : laidMet Tryd.prog laidK W) : UTab W := by
  refine ⟨utf8Tabs_of_readsT (U8Types.of196 Tryd.laysValid) u8x ?_ ?_⟩
  · have h := laidMet.reads hL (n := "unicode/utf8.first") (d := Rows.laid_unicode_utf8_first) (by simp [laidK])
    rw [show (Rows.laid_unicode_utf8_first : DataW Unit) = firstData from Pinned.utf8First_eq] at h
    exact h
  · have h := laidMet.reads hL (n := "unicode/utf8.acceptRanges") (d := Rows.laid_unicode_utf8_acceptRanges) (by simp [laidK])
    rw [accept_eq] at h
    exact h

theorem addr_at0 {w : World} {a : Addr} {v : Value} (h : w.cell? (a.add 0) = some v) : ∃ g off, a = ⟨g, off, none⟩ := by
  obtain ⟨b, off, spot⟩ := a
  have hspot : spot = none := by simpa [Addr.add] using World.cell?_spot h
  subst hspot
  exact ⟨b, off, rfl⟩
theorem Tryd.cellsVal : Tryd.prog.cellsOf 35 = 3 := by kernel_rfl
theorem Tryd.cellsBool : Tryd.prog.cellsOf 4 = 1 := by kernel_rfl
theorem Tryd.bytesVal : Tryd.prog.bytesOf 35 = 32 := by kernel_rfl
theorem Tryd.bytesBool1 : Tryd.prog.bytesOf 4 = 1 := by kernel_rfl
theorem Tryd.bytesInt8 : Tryd.prog.bytesOf 3 = 8 := by kernel_rfl
section
variable {H : Type} {enc : TypeId × Value → H} {W : World} {base : Nat} {v : Value} {d : DataW H} {pl : List MemPlace}
theorem open_vals (hok : Value.okWide Tryd.prog W .any base 22 v) (h : DataW.Trod enc Tryd.prog W 0 (fun _ => true) true 22 v d pl) :
    ∃ (vs : List Vv) (ao : Option Addr) (c : Nat), v = .slice ao vs.length c ∧ SlV W ao vs ∧ (vs = [] ∨ ∃ elems spare, d = .slice elems spare ∧ vs.length ≤ elems.length + spare.length) := by
  obtain ⟨a0, len, cap, rfl⟩ := okWide_slice Tryd.underlying22 hok
  obtain ⟨fuel, hf⟩ := h
  rcases Go.Deep.open_slice Tryd.underlying22 hf with ⟨hcs, hx⟩ | ⟨a, len', cap', m, n, D, Pl, hcs, _, hl, hm, hmm, hx, hel⟩
  · simp [Value.cells] at hcs
    obtain ⟨rfl, rfl, rfl⟩ := hcs
    exact ⟨[], none, 0, rfl, fun j hj => by simp at hj, .inl rfl⟩
  · simp [Value.cells] at hcs
    obtain ⟨rfl, rfl, rfl⟩ := hcs
    simp only [if_true] at hmm
    simp only [Prod.mk.injEq] at hx
    have each : ∀ i, i < len → ∃ x : Vv, ∃ g off, a = ⟨g, off, none⟩ ∧ VvAt W g (off + i * 3) x := by
      intro i hi
      obtain ⟨cs', hc, ht⟩ := hel i (by omega)
      obtain ⟨cs0, hc0, _⟩ := hel 0 (by omega)
      rw [Tryd.cellsVal] at hc hc0
      obtain ⟨_, hcl, hat⟩ := World.cells?_some hc
      obtain ⟨_, hcl0, hat0⟩ := World.cells?_some hc0
      have z0 := (hat0 0 (by omega)).trans (List.getElem?_eq_getElem (by omega))
      obtain ⟨g, off, rfl⟩ := addr_at0 (by simpa using z0)
      have c0 := hat 0 (by omega)
      have c1 := hat 1 (by omega)
      have c2 := hat 2 (by omega)
      rw [Go.Deep.add_add] at c0 c1 c2
      match cs', hcl, ht, c0, c1, c2 with
      | [u0, u1, u2], _, ht, c0, c1, c2 =>
        obtain ⟨K, N, s, rfl, rfl, rfl, hN, _⟩ := val_cs ht
        simp only [add_lit] at c0 c1 c2
        exact ⟨⟨K, N, s⟩, g, off, rfl, by simpa using c0, by rw [Nat.add_assoc]; simpa using c1, by rw [Nat.add_assoc]; simpa using c2, hN⟩
    obtain ⟨F, hF⟩ := Go.Deep.choose_lt each
    refine ⟨(List.range len).map F, some a, cap, by simp, fun j hj => ?_, .inr ⟨_, _, hx.1, by simp⟩⟩
    simp only [List.length_map, List.length_range] at hj
    have e : ((List.range len).map F).getD j default = F j := by simp [List.getD_eq_getElem?_getD, hj]
    rw [e]
    obtain ⟨g, off, rfl, h⟩ := hF j hj
    exact ⟨g, off, rfl, h⟩
theorem open_bools (hok : Value.okWide Tryd.prog W .any base 23 v) (h : DataW.Trod enc Tryd.prog W 0 (fun _ => true) true 23 v d pl) :
    ∃ (ds : List Bool) (ao : Option Addr) (c : Nat), v = .slice ao ds.length c ∧ SlBo W ao ds ∧ (ds = [] ∨ ∃ elems spare, d = .slice elems spare ∧ ds.length ≤ elems.length + spare.length) := by
  obtain ⟨a0, len, cap, rfl⟩ := okWide_slice Tryd.underlying23 hok
  obtain ⟨fuel, hf⟩ := h
  rcases Go.Deep.open_slice1 Tryd.underlying23 Tryd.cellsBool hf with ⟨hcs, hx⟩ | ⟨a, len', cap', m, n, V, D, Pl, hcs, _, hl, hm, hmm, hx, hel⟩
  · simp [Value.cells] at hcs
    obtain ⟨rfl, rfl, rfl⟩ := hcs
    exact ⟨[], none, 0, rfl, fun j hj => by simp at hj, .inl rfl⟩
  · simp [Value.cells] at hcs
    obtain ⟨rfl, rfl, rfl⟩ := hcs
    simp only [if_true] at hmm
    simp only [Prod.mk.injEq] at hx
    have each : ∀ i, i < len → ∃ x : Bool, ∃ g off, a = ⟨g, off, none⟩ ∧ W.cell? ⟨g, off + i, none⟩ = some (.bool x) := by
      intro i hi
      obtain ⟨hc, ht⟩ := hel i (by omega)
      obtain ⟨hc0, _⟩ := hel 0 (by omega)
      obtain ⟨g, off, rfl⟩ := addr_at0 hc0
      obtain ⟨b, e, _⟩ := DataW.trod_bool Tryd.underlying4 ht
      rw [one_val e] at hc
      rw [add_lit] at hc
      exact ⟨b, g, off, rfl, hc⟩
    obtain ⟨F, hF⟩ := Go.Deep.choose_lt each
    refine ⟨(List.range len).map F, some a, cap, by simp, fun j hj => ?_, .inr ⟨_, _, hx.1, by simp⟩⟩
    simp only [List.length_map, List.length_range] at hj
    have e : ((List.range len).map F).getD j false = F j := by simp [List.getD_eq_getElem?_getD, hj]
    rw [e]
    obtain ⟨g, off, rfl, h⟩ := hF j hj
    exact ⟨g, off, rfl, h⟩
theorem open_span {b0 : Nat} {sp : Nat → Bool} {held : Bool} {r : Reach} (hv : Value.okWide Tryd.prog W r b0 39 v) (h : DataW.Trod enc Tryd.prog W base sp held 39 v d pl) :
    ∃ (lo hi : ByteArray) (op : Bool), v = spv lo hi op := by
  obtain ⟨cs, rfl, hsz⟩ := okWide_struct Tryd.underlying39 hv
  obtain ⟨a, b, c, rfl⟩ := arr3 (hsz.trans (by kernel_rfl))
  obtain ⟨fuel, hf⟩ := h
  obtain ⟨xs, n, _, _, _, hlen, hf⟩ := DataW.trod_struct Tryd.underlying39 (show DataW.trod enc Tryd.prog W base sp held fuel 39 [a, b, c] = some (d, pl) from hf)
  match xs, hlen with
  | [y0, y1, y2], _ =>
    have c4 : Tryd.prog.cellsOf 4 = 1 := by kernel_rfl
    have c9 : Tryd.prog.cellsOf 9 = 1 := by kernel_rfl
    have h0 : DataW.trod enc Tryd.prog W base sp held n 9 (List.take (Tryd.prog.cellsOf 9) (List.drop 0 [a, b, c])) = some y0 := hf 0 _ rfl
    have h1 : DataW.trod enc Tryd.prog W base sp held n 9 (List.take (Tryd.prog.cellsOf 9) (List.drop 1 [a, b, c])) = some y1 := hf 1 _ rfl
    have h2 : DataW.trod enc Tryd.prog W base sp held n 4 (List.take (Tryd.prog.cellsOf 4) (List.drop 2 [a, b, c])) = some y2 := hf 2 _ rfl
    simp only [c4, c9, List.drop_zero, List.drop_succ_cons, List.take_succ_cons, List.take_zero] at h0 h1 h2
    obtain ⟨lo, e0, _, _⟩ := DataW.trod_string Tryd.underlying9 h0
    obtain ⟨hi, e1, _, _⟩ := DataW.trod_string Tryd.underlying9 h1
    obtain ⟨op, e2, _⟩ := DataW.trod_bool Tryd.underlying4 h2
    rw [one_val e0, one_val e1, one_val e2]
    exact ⟨lo, hi, op, rfl⟩
end

end Go.Proofs.YtpedcpehomkikaaDoor
