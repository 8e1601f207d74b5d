/-
  MsgFolds returns true for every entry, list of messages and number: messages folded in two parts are folded as one list; those of other keys play no part.
-/
import Derived.Test.YtlmpknhekoeecaaMsgFolds
import Derived.Test.YtlmpknhekoeecaaMsgArg2
import Derived.ChangeMaps5
namespace Go.Proofs.Ytlmpknhekoeecaa
open Go Go.ChangeShapes Go.WideShapes Go.ChangeAt Go.ChangeMaps Go.RowKit
set_option linter.unusedVariables false
set_option linter.unusedSimpArgs false
set_option maxRecDepth 100000

theorem ms_shp {W : World} {ao : Option Addr} {l : List Ms} {c : Nat} (h : MsArg W ao l c) : Shp ao l.length c := by
  cases ao with
  | none => exact .inl ⟨rfl, (h.z rfl).1, (h.z rfl).2⟩
  | some a => exact .inr ⟨a, rfl, h.le⟩

set_option maxRecDepth 100000 in
theorem mfolds_lifted (os : Os) (started : os.Started) (H : Type) (enc : TypeId × Value → H) :
    ReturnsInHanded {} Try.checked os 5 .any (Rows.msgFoldsSpec.pre6 enc Try.prog Try.f5 Rows.msgFoldsRow.domain false) (Rows.msgFoldsSpec.post enc Try.prog Try.f5 false true false false) := by
  refine returnsInHanded_of_change_sized (C := Try.checked) mown0 started (by kernel_rfl) Try.func5
    (ChangeSpec.witness6 (enc := enc) (C := Try.checked) false ⟨#[], #[env ⟨ByteArray.empty, false, ByteArray.empty, 0, false, ByteArray.empty⟩, .slice none 0 0, .int .i64 0], []⟩ 8 (by kernel_rfl) (by kernel_rfl) (by kernel_rfl) (by kernel_rfl)) ?_
  intro W base args ds gs before hval0 hW _ hsz0 _
  have hsz : (DataW.weightsEach Try.prog (Try.f5.params.toList ++ Rows.msgFoldsSpec.plain.varTypes Try.prog) (ds ++ gs)).all (· ≤ reachBytes) = true := hsz0
  clear hsz0
  have hval : ∀ (j : Nat) t v, Try.f5.params[j]? = some t → args[j]? = some v → Value.okWide Try.prog W .any base t v := hval0
  have hW' := hW
  obtain ⟨p, q, hA0, hV, rfl, _, _⟩ := hW
  have hA : DataW.TrodAll enc Try.prog W 0 (fun _ => true) true Try.f5.params.toList args.toList ds p := hA0
  rw [Try.params5] at hA hval hsz
  obtain ⟨v0, v1, v2, d0, d1, d2, p0, p1, p2, rfl, rfl, rfl, h0, h1, h2⟩ := trodAll_three hA
  obtain ⟨rfl, rfl⟩ := trodVars_none hV
  clear hA0 hval0
  simp only [List.append_nil] at hW'
  obtain ⟨e0, rfl, he0⟩ := open_en (hval 0 26 v0 rfl rfl) h0 (szd_arg hsz (j := 0) rfl rfl)
  obtain ⟨l1, ao1, c1, rfl, hx1⟩ := open_msgs (hval 1 23 v1 rfl rfl) h1 (szd_arg hsz (j := 1) rfl rfl)
  obtain ⟨z2, rfl, rfl, rfl, wz2⟩ := open_int Try.underlying3 (hval 2 3 v2 rfl rfl) h2
  refine (mfolds_walk e0 ao1 c1 l1 z2 W he0 hx1.s hx1.b (ms_shp hx1)).mono fun e W' ⟨he, hn⟩ => ?_
  subst he
  refine ⟨_, rfl, _, _, _, [], p0 ++ (p1 ++ []), [], hW', trodAll_mk1 (shut_bool Try.underlying4 _), trodAll_mk3 ?_ ?_ (shut_int Try.underlying3 wz2), rfl, hn.frame _, fun h => by cases h⟩
  · exact Below.trod mlaid0 (by kernel_rfl) (of_decide_eq_true (by kernel_rfl)) h0 hn (fun x hx => hW'.lt x (by simp [hx]))
  · exact Below.trod mlaid0 (by kernel_rfl) (of_decide_eq_true (by kernel_rfl)) h1 hn (fun x hx => hW'.lt x (by simp [hx]))

theorem mfolds_holds : Rows.MsgFoldsSaid :=
  OpenClaim.holds_of_wide 5 Try.f5 rfl rfl rfl rfl rfl rfl rfl ⟨rfl, rfl, rfl, rfl, rfl⟩ rfl rfl rfl rfl rfl (by kernel_rfl) Try.func5 (by kernel_rfl)
    (of_decide_eq_true (by kernel_rfl)) (by unfold Func.isWrapper; first | (rw [if_pos (by decide +kernel)]; kernel_rfl) | (rw [if_neg (by decide +kernel)]; exact ⟨rfl, rfl⟩))
    (fun os started H enc _ => mfolds_lifted os started H enc)

end Go.Proofs.Ytlmpknhekoeecaa
