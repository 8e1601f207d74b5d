/-
  Parts of memory side by side, in whatever order and however bracketed: 'h.ac (by ac_rfl)'.
-/
import Derived.Test.YtjmelhmjcbliaaaMem
namespace Go.Proofs.Ytjmelhmjcbliaaa
open Go Go.RowKit
set_option linter.unusedVariables false
set_option linter.unusedSimpArgs false
set_option maxRecDepth 100000

theorem Sep.comm_eq (I J : Res) : Sep I J = Sep J I := funext fun w => funext fun F => propext ⟨Sep.comm, Sep.comm⟩
theorem Sep.assoc_eq (I J K : Res) : Sep (Sep I J) K = Sep I (Sep J K) :=
  funext fun w => funext fun F => propext ⟨Sep.assoc, fun h => Sep.comm (Sep.assoc (Sep.comm (Sep.assoc (Sep.comm h))))⟩
instance : Std.Associative Sep := ⟨Sep.assoc_eq⟩
instance : Std.Commutative Sep := ⟨Sep.comm_eq⟩
theorem Own.ac {w0 w : World} {I J : Res} (h : Own w0 w I) (e : I = J) : Own w0 w J := e ▸ h

end Go.Proofs.Ytjmelhmjcbliaaa
