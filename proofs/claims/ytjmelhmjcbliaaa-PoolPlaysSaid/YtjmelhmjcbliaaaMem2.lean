/-
  Parts of memory side by side, in another order.
-/
import Derived.Test.YtjmelhmjcbliaaaMem
namespace Go.Proofs.Ytjmelhmjcbliaaa
open Go Go.RowKit
set_option linter.unusedVariables false
set_option linter.unusedSimpArgs false
set_option maxRecDepth 100000

theorem Sep.swap {I J K : Res} {w : World} {F : Nat → Prop} (h : Sep I (Sep J K) w F) : Sep J (Sep I K) w F := by
  have h1 : Sep (Sep I J) K w F := Sep.comm (Sep.assoc (Sep.comm (Sep.assoc (Sep.comm h))))
  exact Sep.assoc (h1.imp (fun _ h => Sep.comm h) (fun _ h => h))
theorem Own.rot {w0 w : World} {I J K L : Res} (h : Own w0 w (Sep I (Sep J (Sep K L)))) : Own w0 w (Sep I (Sep K (Sep J L))) := h.imp fun _ h => h.imp (fun _ h => h) (fun _ h => Sep.swap h)
theorem Own.rot2 {w0 w : World} {I J K L M : Res} (h : Own w0 w (Sep I (Sep J (Sep K (Sep L M))))) : Own w0 w (Sep I (Sep J (Sep L (Sep K M)))) :=
  h.imp fun _ h => h.imp (fun _ h => h) (fun _ h => h.imp (fun _ h => h) (fun _ h => Sep.swap h))
theorem Own.rot3 {w0 w : World} {I J K L M N : Res} (h : Own w0 w (Sep I (Sep J (Sep K (Sep L (Sep M N)))))) : Own w0 w (Sep I (Sep J (Sep K (Sep M (Sep L N))))) :=
  h.imp fun _ h => h.imp (fun _ h => h) (fun _ h => h.imp (fun _ h => h) (fun _ h => h.imp (fun _ h => h) (fun _ h => Sep.swap h)))

end Go.Proofs.Ytjmelhmjcbliaaa
