/-
  Contracts of the statements' Copy, Lent, Kept and Bytes, in any seat.
-/
import Derived.Test.YtookbmpaoljelaaMemP
import Derived.Laws.AppendOwnNone
import Derived.Deep.DeepCutAuto
import Derived.Deep.CutBlock
namespace Go.Proofs.Ytookbmpaoljelaa
open Go Go.RowKit Go.Lib
set_option linter.unusedVariables false
set_option linter.unusedSimpArgs false
set_option maxRecDepth 100000

set_option maxHeartbeats 400000 in
theorem raw_copy (v : Value) (xs : List UInt8) (w : World) (h : SlC w v xs) (hlen : xs.length ≤ 140737488355328) :
    Calls Try.prog 18 #[v] w fun e w' => ∃ v', e = .returned v' ∧ w'.ownsRow w.heap.size 5 1 v' xs.length (u8s xs) ∧ Only (fun _ => False) w w' := by
  obtain ⟨vo, vc, rfl⟩ := h.shape
  have HC := Lib.hid h; clear h
  go_enter Try.func18, Try.ntmps18
  go_wp2_with (at_builtin; refine wp_fresh w _ xs HC.out hlen rfl (.tmp 3) (.tmp 4) rfl rfl rfl ?_; intro ao cap w1 HW HO)
  go_ret
  exact ⟨_, rfl, HW.out, HO.out⟩

def LentAt (w : World) (xs : List UInt8) (e : Ending) (w' : World) : Prop :=
  ∃ g cap, e = .returned (.slice (some ⟨g, 0, none⟩) xs.length cap) ∧ w'.ownsRow w.heap.size 5 1 (.slice (some ⟨g, 0, none⟩) (xs.length + 2) cap) (xs.length + 2) (u8s (xs ++ [71, 72])) ∧ Only (fun _ => False) w w'



set_option maxHeartbeats 400000 in
theorem raw_bytes (a b : Value) (xs : List UInt8) (w : World) (ha : SlC w a xs) (hb : SlC w b xs) :
    Calls Try.prog 16 #[a, b] w fun e w' => e = .returned (.bool true) ∧ w = w' := by
  have hca := run_strC ha
  have hcb := run_strC hb
  obtain ⟨ao, ac, rfl⟩ := ha.shape
  obtain ⟨bo, bc, rfl⟩ := hb.shape
  clear ha hb
  go_enter Try.func16, Try.ntmps16
  go_wp2
  go_ret
  exact ⟨rfl, rfl⟩

end Go.Proofs.Ytookbmpaoljelaa
