/-
  BlockTorn answers true for every two slices of bytes, every number and every slice of numbers, and changes nothing that was there. No conditions.
-/
import Derived.Test.YtidkeglldmbfeaaOpenCap
import Derived.Test.YtidkeglldmbfeaaBlockTorn2
namespace Go.Proofs.Ytidkeglldmbfeaa
open Go Go.ChangeShapes Go.WideShapes Go.ChangeAt Go.RowKit
set_option linter.unusedVariables false
set_option linter.unusedSimpArgs false
set_option maxRecDepth 100000

set_option maxRecDepth 100000 in
theorem torn_lifted (os : Os) (started : os.Started) (H : Type) (enc : TypeId × Value → H) :
    ReturnsInHanded {} Try.checked os 6 .any (Rows.blockTornSpec.pre6 enc Try.prog Try.f6 Rows.blockTornRow.domain false) (Rows.blockTornSpec.post enc Try.prog Try.f6 false true false false) := by
  refine returnsInHanded_of_change_sized (C := Try.checked) Try.ownKnob0 started (by kernel_rfl) Try.func6
    (ChangeSpec.witness6 (enc := enc) (C := Try.checked) false ⟨#[], #[.slice none 0 0, .slice none 0 0, .int .u64 0, .slice none 0 0], []⟩ 8 (by kernel_rfl) (by kernel_rfl) (by kernel_rfl) (by kernel_rfl)) ?_
  intro W base args ds gs before hval0 hW _ hsz0 _
  have hsz : (DataW.weightsEach Try.prog (Try.f6.params.toList ++ Rows.blockTornSpec.plain.varTypes Try.prog) (ds ++ gs)).all (· ≤ reachBytes) = true := hsz0
  clear hsz0
  have hval : ∀ (j : Nat) t v, Try.f6.params[j]? = some t → args[j]? = some v → Value.okWide Try.prog W .any base t v := hval0
  have hW' := hW
  obtain ⟨p, q, hA0, hV, rfl, _, _⟩ := hW
  have hA : DataW.TrodAll enc Try.prog W 0 (fun _ => true) true Try.f6.params.toList args.toList ds p := hA0
  rw [Try.params6] at hA hval hsz
  obtain ⟨v0, v1, v2, v3, d0, d1, d2, d3, p0, p1, p2, p3, rfl, rfl, rfl, h0, h1, h2, h3⟩ := trodAll_four hA
  obtain ⟨rfl, rfl⟩ := trodVars_none hV
  clear hA0 hval0
  simp only [List.append_nil] at hW'
  obtain ⟨xs0, hx0, hr0⟩ := open_bytesArg (hval 0 31 v0 rfl rfl) h0
  have hc0 := cap_bytesArg (hval 0 31 v0 rfl rfl) h0
  obtain ⟨xs1, hx1, hr1⟩ := open_bytesArg (hval 1 31 v1 rfl rfl) h1
  have hc1 := cap_bytesArg (hval 1 31 v1 rfl rfl) h1
  obtain ⟨z2, rfl, rfl, rfl, wz2⟩ := open_int Try.underlying51 (hval 2 51 v2 rfl rfl) h2
  have hz2 : 0 ≤ z2 ∧ z2 ≤ 18446744073709551615 := by simpa [Lit.wf, IntKind.min, IntKind.max, IntKind.signed, IntKind.bits] using wz2
  obtain ⟨x2, rfl⟩ : ∃ x : Nat, z2 = (x : Int) := ⟨z2.toNat, by omega⟩
  obtain ⟨ks3, ao3, c3, rfl, hx3, hr3, hk3⟩ := open_intsArg (hval 3 39 v3 rfl rfl) h3
  have hl3 : ks3.length * Try.prog.bytesOf 3 ≤ 140737488351232 := by
    rcases hr3 with rfl | ⟨elems, spare, rfl, hle⟩
    · simp
    · have := sized_slice hsz (j := 3) (t := 39) (e := 3) rfl rfl Try.underlying39
      rw [Try.bytesInt] at this ⊢
      simp only [reachBytes] at this
      omega
  rw [Try.bytesInt] at hl3
  refine (torn_walk v0 xs0 v1 xs1 x2 ao3 c3 ks3 W (hx0.fits hc0) (hx1.fits hc1) (by omega) hx3 hk3 hl3 (nil_room h3)).mono fun e W' ⟨he, hq⟩ => ?_
  subst he
  have hn := quiet_below hq
  refine ⟨_, rfl, _, _, _, [], p0 ++ (p1 ++ ([] ++ p3)), [], hW', trodAll_mk1 (shut_bool Try.underlying4 _), trodAll_mk4 ?_ ?_ (shut_int Try.underlying51 wz2) ?_, rfl, hn.frame _, fun h => by cases h⟩
  · exact Below.trod Try.laidOut0 (by kernel_rfl) (of_decide_eq_true (by kernel_rfl)) h0 hn (fun x hx => hW'.lt x (by simp [hx]))
  · exact Below.trod Try.laidOut0 (by kernel_rfl) (of_decide_eq_true (by kernel_rfl)) h1 hn (fun x hx => hW'.lt x (by simp [hx]))
  · exact Below.trod Try.laidOut0 (by kernel_rfl) (of_decide_eq_true (by kernel_rfl)) h3 hn (fun x hx => hW'.lt x (by simp [hx]))

theorem torn_holds : Rows.BlockTornSaid :=
  OpenClaim.holds_of_wide 6 Try.f6 rfl rfl rfl rfl rfl rfl rfl ⟨rfl, rfl, rfl, rfl, rfl⟩ rfl rfl rfl rfl rfl (by kernel_rfl) Try.func6 (by kernel_rfl)
    (of_decide_eq_true (by kernel_rfl)) (by unfold Func.isWrapper; first | (rw [if_pos (by decide +kernel)]; kernel_rfl) | (rw [if_neg (by decide +kernel)]; exact ⟨rfl, rfl⟩))
    (fun os started H enc _ => torn_lifted os started H enc)

end Go.Proofs.Ytidkeglldmbfeaa
