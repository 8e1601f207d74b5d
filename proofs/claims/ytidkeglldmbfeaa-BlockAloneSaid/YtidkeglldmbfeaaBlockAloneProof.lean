/-
  BlockAlone answers true for every three slices of bytes, and changes nothing that was there. No conditions.
-/
import Derived.Test.YtidkeglldmbfeaaOpenCap
import Derived.Test.YtidkeglldmbfeaaBlockAlone
namespace Go.Proofs.Ytidkeglldmbfeaa
open Go Go.ChangeShapes Go.WideShapes Go.ChangeAt Go.RowKit
set_option linter.unusedVariables false
set_option linter.unusedSimpArgs false
set_option maxRecDepth 100000

set_option maxRecDepth 100000 in
theorem alone_lifted (os : Os) (started : os.Started) (H : Type) (enc : TypeId × Value → H) :
    ReturnsInHanded {} Try.checked os 7 .any (Rows.blockAloneSpec.pre6 enc Try.prog Try.f7 Rows.blockAloneRow.domain false) (Rows.blockAloneSpec.post enc Try.prog Try.f7 false true false false) := by
  refine returnsInHanded_of_change (C := Try.checked) Try.ownKnob0 started (by kernel_rfl) Try.func7
    (ChangeSpec.witness6 (enc := enc) (C := Try.checked) false ⟨#[], #[.slice none 0 0, .slice none 0 0, .slice none 0 0], []⟩ 8 (by kernel_rfl) (by kernel_rfl) (by kernel_rfl) (by kernel_rfl)) ?_
  intro W base args ds gs before hval0 hW _ _
  have hval : ∀ (j : Nat) t v, Try.f7.params[j]? = some t → args[j]? = some v → Value.okWide Try.prog W .any base t v := hval0
  have hW' := hW
  obtain ⟨p, q, hA0, hV, rfl, _, _⟩ := hW
  have hA : DataW.TrodAll enc Try.prog W 0 (fun _ => true) true Try.f7.params.toList args.toList ds p := hA0
  rw [Try.params7] at hA hval
  obtain ⟨v0, v1, v2, d0, d1, d2, p0, p1, p2, rfl, rfl, rfl, h0, h1, h2⟩ := trodAll_three hA
  obtain ⟨rfl, rfl⟩ := trodVars_none hV
  clear hA0 hval0
  simp only [List.append_nil] at hW'
  obtain ⟨xs0, hx0, hr0⟩ := open_bytesArg (hval 0 31 v0 rfl rfl) h0
  have hc0 := cap_bytesArg (hval 0 31 v0 rfl rfl) h0
  obtain ⟨xs1, hx1, hr1⟩ := open_bytesArg (hval 1 31 v1 rfl rfl) h1
  have hc1 := cap_bytesArg (hval 1 31 v1 rfl rfl) h1
  obtain ⟨xs2, hx2, hr2⟩ := open_bytesArg (hval 2 31 v2 rfl rfl) h2
  have hc2 := cap_bytesArg (hval 2 31 v2 rfl rfl) h2
  refine (alone_walk v0 xs0 v1 xs1 v2 xs2 W (hx0.fits hc0) (hx1.fits hc1) (hx2.fits hc2)).mono fun e W' ⟨he, hq⟩ => ?_
  subst he
  have hn := quiet_below hq
  refine ⟨_, rfl, _, _, _, [], p0 ++ (p1 ++ p2), [], hW', trodAll_mk1 (shut_bool Try.underlying4 _), trodAll_mk3 ?_ ?_ ?_, rfl, hn.frame _, fun h => by cases h⟩
  · exact Below.trod Try.laidOut0 (by kernel_rfl) (of_decide_eq_true (by kernel_rfl)) h0 hn (fun x hx => hW'.lt x (by simp [hx]))
  · exact Below.trod Try.laidOut0 (by kernel_rfl) (of_decide_eq_true (by kernel_rfl)) h1 hn (fun x hx => hW'.lt x (by simp [hx]))
  · exact Below.trod Try.laidOut0 (by kernel_rfl) (of_decide_eq_true (by kernel_rfl)) h2 hn (fun x hx => hW'.lt x (by simp [hx]))

theorem alone_holds : Rows.BlockAloneSaid :=
  OpenClaim.holds_of_wide 7 Try.f7 rfl rfl rfl rfl rfl rfl rfl ⟨rfl, rfl, rfl, rfl, rfl⟩ rfl rfl rfl rfl rfl (by kernel_rfl) Try.func7 (by kernel_rfl)
    (of_decide_eq_true (by kernel_rfl)) (by unfold Func.isWrapper; first | (rw [if_pos (by decide +kernel)]; kernel_rfl) | (rw [if_neg (by decide +kernel)]; exact ⟨rfl, rfl⟩))
    (fun os started H enc _ => alone_lifted os started H enc)

end Go.Proofs.Ytidkeglldmbfeaa
