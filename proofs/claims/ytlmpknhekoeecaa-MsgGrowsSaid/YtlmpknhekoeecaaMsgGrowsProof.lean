/-
  MsgGrows returns true for every entry, offset, text and numbers: a Grow does the same ahead of a Commit and behind it, and nothing the second time; Adds may be turned and joined.
-/
import Derived.Test.YtlmpknhekoeecaaMsgGrows
import Derived.Test.YtlmpknhekoeecaaMsgArg
import Derived.ChangeMaps5
namespace Go.Proofs.Ytlmpknhekoeecaa
open Go Go.ChangeShapes Go.WideShapes Go.ChangeAt Go.ChangeMaps Go.RowKit
set_option linter.unusedVariables false
set_option linter.unusedSimpArgs false
set_option maxRecDepth 100000

set_option maxRecDepth 100000 in
theorem mgrows_lifted (os : Os) (started : os.Started) (H : Type) (enc : TypeId × Value → H) :
    ReturnsInHanded {} Try.checked os 4 .any (Rows.msgGrowsSpec.pre6 enc Try.prog Try.f4 Rows.msgGrowsRow.domain false) (Rows.msgGrowsSpec.post enc Try.prog Try.f4 false true false false) := by
  refine returnsInHanded_of_change_sized (C := Try.checked) mown0 started (by kernel_rfl) Try.func4
    (ChangeSpec.witness6 (enc := enc) (C := Try.checked) false ⟨#[], #[env ⟨ByteArray.empty, false, ByteArray.empty, 0, false, ByteArray.empty⟩, .int .i64 0, .string ByteArray.empty, .int .u64 0, .int .u64 0], []⟩ 8 (by kernel_rfl) (by kernel_rfl) (by kernel_rfl) (by kernel_rfl)) ?_
  intro W base args ds gs before hval0 hW _ hsz0 _
  have hsz : (DataW.weightsEach Try.prog (Try.f4.params.toList ++ Rows.msgGrowsSpec.plain.varTypes Try.prog) (ds ++ gs)).all (· ≤ reachBytes) = true := hsz0
  clear hsz0
  have hval : ∀ (j : Nat) t v, Try.f4.params[j]? = some t → args[j]? = some v → Value.okWide Try.prog W .any base t v := hval0
  have hW' := hW
  obtain ⟨p, q, hA0, hV, rfl, _, _⟩ := hW
  have hA : DataW.TrodAll enc Try.prog W 0 (fun _ => true) true Try.f4.params.toList args.toList ds p := hA0
  rw [Try.params4] at hA hval hsz
  obtain ⟨v0, v1, v2, v3, v4, d0, d1, d2, d3, d4, p0, p1, p2, p3, p4, rfl, rfl, rfl, h0, h1, h2, h3, h4⟩ := trodAll_mfive hA
  obtain ⟨rfl, rfl⟩ := trodVars_none hV
  clear hA0 hval0
  simp only [List.append_nil] at hW'
  obtain ⟨e0, rfl, he0⟩ := open_en (hval 0 26 v0 rfl rfl) h0 (szd_arg hsz (j := 0) rfl rfl)
  obtain ⟨z1, rfl, rfl, rfl, wz1⟩ := open_int Try.underlying3 (hval 1 3 v1 rfl rfl) h1
  obtain ⟨s2, rfl, rfl, rfl, hs2⟩ := open_string Try.underlying9 (hval 2 9 v2 rfl rfl) h2
  have hz2 : s2.size ≤ 140737488355328 := by
    have h : s2.size ≤ 140737488351232 := by simpa [reachBytes] using sized_string hsz (j := 2) rfl rfl
    omega
  obtain ⟨z3, rfl, rfl, rfl, wz3⟩ := open_int Try.underlying22 (hval 3 22 v3 rfl rfl) h3
  obtain ⟨z4, rfl, rfl, rfl, wz4⟩ := open_int Try.underlying22 (hval 4 22 v4 rfl rfl) h4
  refine (mgrows_walk e0 z1 s2 z3 z4 W he0 hz2 (wf64 wz3) (wf64 wz4)).mono fun e W' ⟨he, hn⟩ => ?_
  subst he
  refine ⟨_, rfl, _, _, _, [], p0 ++ ([] ++ ([] ++ ([] ++ []))), [], hW', trodAll_mk1 (shut_bool Try.underlying4 _), trodAll_mk5m ?_ (shut_int Try.underlying3 wz1) (shut_string Try.underlying9 hs2) (shut_int Try.underlying22 wz3) (shut_int Try.underlying22 wz4), rfl, hn.frame _, fun h => by cases h⟩
  · exact Below.trod mlaid0 (by kernel_rfl) (of_decide_eq_true (by kernel_rfl)) h0 hn (fun x hx => hW'.lt x (by simp [hx]))

theorem mgrows_holds : Rows.MsgGrowsSaid :=
  OpenClaim.holds_of_wide 4 Try.f4 rfl rfl rfl rfl rfl rfl rfl ⟨rfl, rfl, rfl, rfl, rfl⟩ rfl rfl rfl rfl rfl (by kernel_rfl) Try.func4 (by kernel_rfl)
    (of_decide_eq_true (by kernel_rfl)) (by unfold Func.isWrapper; first | (rw [if_pos (by decide +kernel)]; kernel_rfl) | (rw [if_neg (by decide +kernel)]; exact ⟨rfl, rfl⟩))
    (fun os started H enc _ => mgrows_lifted os started H enc)

end Go.Proofs.Ytlmpknhekoeecaa
