/-
  The reference's order and names.
-/
import Derived.Test.YtcpfohjejhkgbaaDoorVal7
namespace Go.Proofs.YtcpfohjejhkgbaaDoor
open Go Go.RowKit
set_option linter.unusedVariables false
set_option linter.unusedSimpArgs false
set_option maxRecDepth 100000


theorem letZ_iff (z : Int) : letZ z = (!(decide (z < 97) || decide (122 < z))) := by
  unfold letZ
  rw [Bool.eq_iff_iff]; simp

end Go.Proofs.YtcpfohjejhkgbaaDoor
