/-
  The laws' first question: a program that does nothing is told.
-/
import Derived.Test.YtpedcpehomkikaaDoorVal12
import Derived.Test.YtpedcpehomkikaaDoorVal7
import Derived.Laws.StructEq
namespace Go.Proofs.YtpedcpehomkikaaDoor
open Go Go.RowKit
set_option linter.unusedVariables false
set_option linter.unusedSimpArgs false
set_option maxRecDepth 100000

theorem u64_of {n : Int} (h0 : 0 ≤ n) (h1 : n < 1000) : U64 n := ⟨h0, by omega⟩


theorem aw_cmp (w : World) : Calls Tryd.prog 34 #[vlv 1 1 ⟨#[]⟩, vlv 0 0 ⟨#[]⟩] w fun e w' => e = .returned (.int .i64 1) ∧ Below w.heap.size w w' := by
  refine (cmp_any (u64_of (by decide) (by decide)) (u64_of (by decide) (by decide)) w).mono ?_
  rintro e w' ⟨rfl, hb⟩
  exact ⟨rfl, hb⟩


theorem keep0 {w w1 : World} {a : Addr} {v : Value} (h : w.cell? a = some v) (hb : Below w.heap.size w w1) : w1.cell? a = some v := by
  rw [hb.cell (cell_lt h)]; exact h


end Go.Proofs.YtpedcpehomkikaaDoor
