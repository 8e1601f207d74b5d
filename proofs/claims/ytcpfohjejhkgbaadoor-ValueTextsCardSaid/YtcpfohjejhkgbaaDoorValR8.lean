/-
  The reference's Text, of any.
-/
import Derived.Test.YtcpfohjejhkgbaaDoorValR7
namespace Go.Proofs.YtcpfohjejhkgbaaDoor
open Go Go.RowKit
set_option linter.unusedVariables false
set_option linter.unusedSimpArgs false
set_option maxRecDepth 100000

theorem rtext_any {K N : Int} {s : ByteArray} (hN : U64 N) (w : World) :
    Calls Tryd.prog 8 #[vlv K N s] w fun e w' => e = .returned (.string ⟨(vtext (vl K N s)).toArray⟩) ∧ Below w.heap.size w w' := by
  by_cases ho : (vl K N s).okB = true
  case neg => exact rtext_low hN w (.inl (by simpa using ho))
  by_cases h4 : K = 4
  · subst h4; exact rtext4 hN w ho
  by_cases h5 : K = 5
  · subst h5; exact rtext5 hN w ho
  exact rtext_low hN w (.inr ⟨h4, h5⟩)

end Go.Proofs.YtcpfohjejhkgbaaDoor
