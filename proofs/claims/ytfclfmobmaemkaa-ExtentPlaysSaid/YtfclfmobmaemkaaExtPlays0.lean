/-
  The statement ExtentPlays where the bounds make no space.
-/
import Derived.Test.YtfclfmobmaemkaaExtRef6
import Derived.Test.YtfclfmobmaemkaaExtTwice
import Derived.StillTailTactics
import Derived.Deep.RegionHeld3
namespace Go.Proofs.Ytfclfmobmaemkaa
open Go Go.RowKit
set_option linter.unusedVariables false
set_option linter.unusedSimpArgs false
set_option maxRecDepth 100000

set_option maxRecDepth 100000 in
set_option maxHeartbeats 4000000 in
theorem xplays_bad (x y : Int) (v : Value) (w : World) (h : x < 0 ∨ y < x ∨ 4096 < y) :
    Calls Try.prog 3 #[.int .i64 x, .int .i64 y, v] w fun e w' => e = .returned (.bool true) ∧ Quiet w w' := by
  have HB := Lib.hid h
  clear h
  go_enter Try.func3, Try.ntmps3
  go_wp2_with fail
  refine (xawake_any w).mono ?_
  rintro e w0 ⟨rfl, hq⟩
  have H0 := Lib.hid ((Own.start w).quiet hq); clear hq
  go_wp2_with fail
  refine (ext_new_bad x y w0 HB.out).mono ?_
  rintro e w1 ⟨rfl, rfl⟩
  go_wp2_with fail
  refine (ref_new_bad x y w0 HB.out).mono ?_
  rintro e w1 ⟨rfl, rfl⟩
  go_wp2_with fail
  refine (ext_alloc_nil w0 1).mono ?_
  rintro e w1 ⟨rfl, hq⟩
  have H1 := Lib.hid (H0.out.quiet hq); clear hq H0
  go_wp2_with fail
  refine (ext_take_nil w1 0 1).mono ?_
  rintro e w2 ⟨rfl, rfl⟩
  go_wp2_with fail
  refine (ext_free_nil w1 0 1).mono ?_
  rintro e w2 ⟨rfl, rfl⟩
  go_wp2_with fail
  refine (xown_left_nil H1.out).mono ?_
  rintro e w2 ⟨rfl, h2⟩
  have H2 := Lib.hid h2; clear h2 H1
  go_wp2_with fail
  refine (xown_holes_nil H2.out).mono ?_
  rintro e w3 ⟨u, rfl, h3⟩
  obtain ⟨ao, c, rfl⟩ := own_shapeN h3.owns
  have H3 := Lib.hid h3.only; clear h3 H2
  simp only [List.length_nil]
  go_wp2_with fail
  go_ret
  exact ⟨rfl, H3.out⟩

end Go.Proofs.Ytfclfmobmaemkaa
