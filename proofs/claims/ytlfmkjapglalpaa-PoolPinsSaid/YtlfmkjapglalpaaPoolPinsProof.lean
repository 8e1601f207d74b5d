/-
  PoolPins answers true for every number and every two slices of numbers, and changes nothing that was there. No conditions.
-/
import Derived.Test.YtlfmkjapglalpaaPoolPins
import Derived.Test.YtlfmkjapglalpaaOpen
import Derived.Test.YtlfmkjapglalpaaCopyInts
namespace Go.Proofs.Ytlfmkjapglalpaa
open Go Go.ChangeShapes Go.WideShapes Go.ChangeAt Go.RowKit
set_option linter.unusedVariables false
set_option linter.unusedSimpArgs false
set_option maxRecDepth 100000

set_option maxRecDepth 100000 in
theorem pins_lifted (os : Os) (started : os.Started) (H : Type) (enc : TypeId × Value → H) :
    ReturnsInHanded {} Try.checked os 5 .any (Rows.poolPinsSpec.pre6 enc Try.prog Try.f5 Rows.poolPinsRow.domain false) (Rows.poolPinsSpec.post enc Try.prog Try.f5 false true false false) := by
  refine returnsInHanded_of_change_sized (C := Try.checked) Try.ownKnob0 started (by kernel_rfl) Try.func5
    (ChangeSpec.witness6 (enc := enc) (C := Try.checked) false ⟨#[], #[.int .i64 0, .slice none 0 0, .slice none 0 0], []⟩ 8 (by kernel_rfl) (by kernel_rfl) (by kernel_rfl) (by kernel_rfl)) ?_
  intro W base args ds gs before hval0 hW _ hsz0 _
  have hsz : (DataW.weightsEach Try.prog (Try.f5.params.toList ++ Rows.poolPinsSpec.plain.varTypes Try.prog) (ds ++ gs)).all (· ≤ reachBytes) = true := hsz0
  clear hsz0
  have hval : ∀ (j : Nat) t v, Try.f5.params[j]? = some t → args[j]? = some v → Value.okWide Try.prog W .any base t v := hval0
  have hW' := hW
  obtain ⟨p, q, hA0, hV, rfl, _, _⟩ := hW
  have hA : DataW.TrodAll enc Try.prog W 0 (fun _ => true) true Try.f5.params.toList args.toList ds p := hA0
  rw [Try.params5] at hA hval hsz
  obtain ⟨v0, v1, v2, d0, d1, d2, p0, p1, p2, rfl, rfl, rfl, h0, h1, h2⟩ := trodAll_three hA
  obtain ⟨rfl, rfl⟩ := trodVars_none hV
  clear hA0 hval0
  simp only [List.append_nil] at hW'
  obtain ⟨z0, rfl, rfl, rfl, wz0⟩ := open_int Try.underlying3 (hval 0 3 v0 rfl rfl) h0
  obtain ⟨ks1, ao1, c1, rfl, hx1, hr1, hk1⟩ := open_intsArg (hval 1 58 v1 rfl rfl) h1
  obtain ⟨ks2, ao2, c2, rfl, hx2, hr2, hk2⟩ := open_intsArg (hval 2 58 v2 rfl rfl) h2
  have hl1 : ks1.length * Try.prog.bytesOf 3 ≤ 140737488351232 := by
    rcases hr1 with rfl | ⟨elems, spare, rfl, hle⟩
    · simp
    · have := sized_slice hsz (j := 1) (t := 58) (e := 3) rfl rfl Try.underlying58
      rw [Try.bytesInt] at this ⊢
      simp only [reachBytes] at this
      omega
  rw [Try.bytesInt] at hl1
  have hl2 : ks2.length * Try.prog.bytesOf 3 ≤ 140737488351232 := by
    rcases hr2 with rfl | ⟨elems, spare, rfl, hle⟩
    · simp
    · have := sized_slice hsz (j := 2) (t := 58) (e := 3) rfl rfl Try.underlying58
      rw [Try.bytesInt] at this ⊢
      simp only [reachBytes] at this
      omega
  rw [Try.bytesInt] at hl2
  refine (pins_walk z0 ao1 c1 ks1 ao2 c2 ks2 W hx1 hk1 hl1 (nil_room h1) hx2 hk2 hl2 (nil_room h2)).mono fun e W' ⟨he, hq⟩ => ?_
  subst he
  have hn := quiet_below hq
  refine ⟨_, rfl, _, _, _, [], [] ++ (p1 ++ p2), [], hW', trodAll_mk1 (shut_bool Try.underlying4 _), trodAll_mk3 (shut_int Try.underlying3 wz0) ?_ ?_, rfl, hn.frame _, fun h => by cases h⟩
  · exact Below.trod Try.laidOut0 (by kernel_rfl) (of_decide_eq_true (by kernel_rfl)) h1 hn (fun x hx => hW'.lt x (by simp [hx]))
  · exact Below.trod Try.laidOut0 (by kernel_rfl) (of_decide_eq_true (by kernel_rfl)) h2 hn (fun x hx => hW'.lt x (by simp [hx]))

theorem pins_holds : Rows.PoolPinsSaid :=
  OpenClaim.holds_of_wide 5 Try.f5 rfl rfl rfl rfl rfl rfl rfl ⟨rfl, rfl, rfl, rfl, rfl⟩ rfl rfl rfl rfl rfl (by kernel_rfl) Try.func5 (by kernel_rfl)
    (of_decide_eq_true (by kernel_rfl)) (by unfold Func.isWrapper; first | (rw [if_pos (by decide +kernel)]; kernel_rfl) | (rw [if_neg (by decide +kernel)]; exact ⟨rfl, rfl⟩))
    (fun os started H enc _ => pins_lifted os started H enc)

end Go.Proofs.Ytlfmkjapglalpaa
