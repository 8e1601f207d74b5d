/-
  A slice of bytes that is handed in: what it reads as, and that its length is within its capacity.
-/
import Derived.Test.YtjmelhmjcbliaaaOpen
namespace Go.Proofs.Ytjmelhmjcbliaaa
open Go Go.ChangeShapes Go.WideShapes Go.ChangeAt Go.RowKit
set_option linter.unusedVariables false
set_option linter.unusedSimpArgs false
set_option maxRecDepth 100000

def SlN (w : World) (v : Value) (xs : List UInt8) : Prop := SlC w v xs ∧ ∃ ao c, v = .slice ao xs.length c ∧ xs.length ≤ c
theorem cap_bytesArg {H : Type} {enc : TypeId × Value → H} {W : World} {base : Nat} {v : Value} {d : DataW H} {ps : List MemPlace}
    (hok : Value.okWide Try.prog W .any base 35 v) (h : DataW.Trod enc Try.prog W 0 (fun _ => true) true 35 v d ps) : ∃ ao n c, v = .slice ao n c ∧ n ≤ c := by
  obtain ⟨a0, len, cap, rfl⟩ := okWide_slice Try.underlying35 hok
  obtain ⟨fuel, hf⟩ := h
  rcases open_ints Try.underlying35 Try.underlying5 Try.cellsU8 hf with ⟨hcs, hx⟩ | ⟨a, len', cap', zs, hcs, _, hl, hm, hz, hx, hcell, hwz⟩
  · simp [Value.cells] at hcs
    obtain ⟨rfl, rfl, rfl⟩ := hcs
    exact ⟨_, _, _, rfl, Nat.le_refl _⟩
  · simp [Value.cells] at hcs
    obtain ⟨rfl, rfl, rfl⟩ := hcs
    exact ⟨_, _, _, rfl, hl⟩
theorem SlC.fits {W : World} {v : Value} {xs : List UInt8} (h : SlC W v xs) (hc : ∃ ao n c, v = .slice ao n c ∧ n ≤ c) : SlN W v xs := by
  obtain ⟨ao, n, c, rfl, hn⟩ := hc
  refine ⟨h, ao, c, ?_⟩
  rcases h with ⟨e, rfl⟩ | ⟨a, cap, e, _⟩
  · simp at e; obtain ⟨rfl, rfl, rfl⟩ := e; exact ⟨rfl, hn⟩
  · simp at e; obtain ⟨rfl, rfl, rfl⟩ := e; exact ⟨rfl, hn⟩

end Go.Proofs.Ytjmelhmjcbliaaa
