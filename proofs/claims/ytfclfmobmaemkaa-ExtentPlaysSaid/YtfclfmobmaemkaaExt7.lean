/-
  The statements' awake: it answers true, and changes nothing that was there.
-/
import Derived.Test.YtfclfmobmaemkaaExt6
import Derived.Test.YtfclfmobmaemkaaExtSt2
namespace Go.Proofs.Ytfclfmobmaemkaa
open Go Go.RowKit
set_option linter.unusedVariables false
set_option linter.unusedSimpArgs false
set_option maxRecDepth 100000

theorem xaw : allocV 10 (List.replicate 10 false) 4 = 10 ∧ allocE (List.replicate 10 false) 4 = 0 ∧ allocV 10 (allocL (List.replicate 10 false) 4) 3 = 14 ∧ allocE (allocL (List.replicate 10 false) 4) 3 = 0 ∧ (allocL (allocL (List.replicate 10 false) 4) 3).count false = 3 := by decide
set_option maxHeartbeats 1000000 in
theorem xawake_any (w : World) :
    Calls Try.prog 7 #[] w fun e w' => e = .returned (.bool true) ∧ Quiet w w' := by
  have H0 := Lib.hid (Own.start w)
  go_enter Try.func7, Try.ntmps7
  go_wp2_with fail
  refine (xown_new H0.out 10 10 20 (by decide) (by decide)).mono ?_
  rintro e w1 ⟨p, rfl, h1⟩
  have H1 := Lib.hid h1; clear h1 H0
  go_wp2_with fail
  refine (xown_alloc H1.out 4 (by unfold i64R'; decide)).mono ?_
  rintro e w2 ⟨rfl, h2⟩
  rw [xaw.1, xaw.2.1]
  have H2 := Lib.hid h2; clear h2 H1
  go_wp2_with fail
  refine (xown_alloc H2.out 3 (by unfold i64R'; decide)).mono ?_
  rintro e w3 ⟨rfl, h3⟩
  rw [xaw.2.2.1, xaw.2.2.2.1]
  have H3 := Lib.hid h3; clear h3 H2
  go_wp2_with fail
  refine (xown_left H3.out).mono ?_
  rintro e w4 ⟨rfl, h4⟩
  rw [xaw.2.2.2.2]
  have H4 := Lib.hid h4.only; clear h4 H3
  go_wp2_with fail
  go_ret
  exact ⟨rfl, H4.out⟩

end Go.Proofs.Ytfclfmobmaemkaa
