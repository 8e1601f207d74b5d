/-
  Package msg: what a message makes of a value, of a state.
-/
import Derived.Test.YtlmpknhekoeecaaMsg3

namespace Go.Proofs.Ytlmpknhekoeecaa
open Go Go.RowKit
set_option linter.unusedVariables false
set_option linter.unusedSimpArgs false
set_option maxRecDepth 100000

/-- The function that changes a value, by the message's kind. -/
def chgF (K : Int) : FuncId := if K = 1 then 29 else if K = 2 then 30 else if K = 3 then 31 else 32
abbrev chgV (K : Int) : Value := .func (.func (chgF K)) #[] #[]
theorem changeof_any (K : Int) (w : World) (h1 : 1 ≤ K) (h4 : K ≤ 4) : Calls Try.prog 28 #[.int .i64 K] w fun e w' => e = .returned (chgV K) ∧ w = w' := by
  have h : K = 1 ∨ K = 2 ∨ K = 3 ∨ K = 4 := by omega
  have i1 : ∀ w, (Instr.index 59 (.agg #[.nilFunc, .func (.func 29) #[] #[], .func (.func 30) #[] #[], .func (.func 31) #[] #[], .func (.func 32) #[] #[]]) (.int .i64 1)).run Try.prog w = .ok (chgV 1) w := fun _ => by kernel_rfl
  have i2 : ∀ w, (Instr.index 59 (.agg #[.nilFunc, .func (.func 29) #[] #[], .func (.func 30) #[] #[], .func (.func 31) #[] #[], .func (.func 32) #[] #[]]) (.int .i64 2)).run Try.prog w = .ok (chgV 2) w := fun _ => by kernel_rfl
  have i3 : ∀ w, (Instr.index 59 (.agg #[.nilFunc, .func (.func 29) #[] #[], .func (.func 30) #[] #[], .func (.func 31) #[] #[], .func (.func 32) #[] #[]]) (.int .i64 3)).run Try.prog w = .ok (chgV 3) w := fun _ => by kernel_rfl
  have i4 : ∀ w, (Instr.index 59 (.agg #[.nilFunc, .func (.func 29) #[] #[], .func (.func 30) #[] #[], .func (.func 31) #[] #[], .func (.func 32) #[] #[]]) (.int .i64 4)).run Try.prog w = .ok (chgV 4) w := fun _ => by kernel_rfl
  rcases h with rfl | rfl | rfl | rfl
  all_goals
    go_enter Try.func28, Try.ntmps28
    go_wp2
    go_ret
    exact ⟨rfl, rfl⟩
theorem callf (K : Int) (h1 : 1 ≤ K) (h4 : K ≤ 4) (args : Array Value) (w : World) : (callFunc (chgF K) args).run Try.prog w = .ok (.enter (chgF K) args) w := by
  have h : K = 1 ∨ K = 2 ∨ K = 3 ∨ K = 4 := by omega
  rcases h with rfl | rfl | rfl | rfl
  · show (callFunc 29 args).run Try.prog w = .ok (.enter 29 args) w
    kernel_rfl
  · show (callFunc 30 args).run Try.prog w = .ok (.enter 30 args) w
    kernel_rfl
  · show (callFunc 31 args).run Try.prog w = .ok (.enter 31 args) w
    kernel_rfl
  · show (callFunc 32 args).run Try.prog w = .ok (.enter 32 args) w
    kernel_rfl

end Go.Proofs.Ytlmpknhekoeecaa
