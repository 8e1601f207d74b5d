/-
  The walk of the statement DiskPlays, for every size.
-/
import Derived.Test.YtidkeglldmbfeaaDiskPlays3
namespace Go.Proofs.Ytidkeglldmbfeaa
open Go Go.RowKit
set_option linter.unusedVariables false
set_option linter.unusedSimpArgs false
set_option maxRecDepth 100000

theorem plays_walk (z : Int) (ao : Option Addr) (c : Nat) (os : List OpT) (w : World) (ho : SlOpS w ao os) :
    Calls Try.prog 3 #[.int .i64 z, .slice ao os.length c] w fun e w' => e = .returned (.bool true) ∧ Quiet w w' := by
  by_cases hr : z < 8 ∨ 4096 < z
  · exact plays_refused z _ w hr
  · by_cases hs : z ≤ 64
    · obtain ⟨n, rfl⟩ := Int.eq_ofNat_of_zero_le (show 0 ≤ z by omega)
      exact plays_small n ao c os w (by omega) (by omega) ho
    · exact plays_mod z (8 + z % 57).toNat ao c os w (by omega) (by omega) (by omega) ho

end Go.Proofs.Ytidkeglldmbfeaa
