/-
  KeyAll returns true for every list of values, every list of ups and downs, every list of kinds and every text, where these hold together at most 1048576 values and letters: the key of any list, and the list of any key, are the document's.
-/
import Derived.Test.YtlmpknhekoeecaaDoorKeyAll
import Derived.Test.YtlmpknhekoeecaaDoorRowJ6
import Derived.Test.YtlmpknhekoeecaaDoorCards
import Derived.Test.YtlmpknhekoeecaaDoorTie
import Derived.Lay
import Derived.LaidLaws
import Derived.Carry
import Derived.ProofKit
import Derived.Stop.Joined
import Derived.ChangeMaps5
import Derived.Deep.DeepHandedRow
namespace Go.Proofs.YtlmpknhekoeecaaDoor
open Go Go.ChangeShapes Go.WideShapes Go.ChangeAt Go.ChangeMaps Go.RowKit
set_option linter.unusedVariables false
set_option linter.unusedSimpArgs false
set_option maxRecDepth 100000

set_option maxRecDepth 100000 in
theorem kall_reads (os : Os) {H : Type} (enc : TypeId × Value → H) : ∃ x, DataW.whole enc Tryd.prog ((World.laidAll Tryd.prog os laidK).forCall (fun _ _ => 0) ⟨#[], #[.slice none 0 0, .slice none 0 0, .slice none 0 0, .string ByteArray.empty], []⟩).memory Tryd.f3.params.toList Rows.keyAllSpec.vars false (#[.slice none 0 0, .slice none 0 0, .slice none 0 0, .string ByteArray.empty] : Array Value).toList 8 = some x ∧ Rows.uptoSmall H (x.1 ++ x.2.1) = true := by
  have h : (match DataW.whole enc Tryd.prog ((World.laidAll Tryd.prog os laidK).forCall (fun _ _ => 0) ⟨#[], #[.slice none 0 0, .slice none 0 0, .slice none 0 0, .string ByteArray.empty], []⟩).memory Tryd.f3.params.toList Rows.keyAllSpec.vars false (#[.slice none 0 0, .slice none 0 0, .slice none 0 0, .string ByteArray.empty] : Array Value).toList 8 with | some x => Rows.uptoSmall H (x.1 ++ x.2.1) | none => false) = true := by kernel_rfl
  revert h
  cases DataW.whole enc Tryd.prog ((World.laidAll Tryd.prog os laidK).forCall (fun _ _ => 0) ⟨#[], #[.slice none 0 0, .slice none 0 0, .slice none 0 0, .string ByteArray.empty], []⟩).memory Tryd.f3.params.toList Rows.keyAllSpec.vars false (#[.slice none 0 0, .slice none 0 0, .slice none 0 0, .string ByteArray.empty] : Array Value).toList 8 with
  | none => intro h; cases h
  | some x => intro h; exact ⟨x, rfl, h⟩

set_option maxRecDepth 100000 in
theorem kall_lifted (os : Os) (started : os.Started) (H : Type) (enc : TypeId × Value → H) (F : Stop.Interp) :
    ReturnsInHanded {} Tryd.checked os 3 .any ((Rows.OpenSpec.upto Rows.keyAllSpec).preRow enc Tryd.prog Tryd.f3 Rows.keyAllUptoRow.domain false Rows.keyAllUptoRow.laid) (((Rows.OpenSpec.upto Rows.keyAllSpec).at F).post enc Tryd.prog Tryd.f3 false true false false) := by
  obtain ⟨x, hx, hk⟩ := kall_reads os enc
  have hok : Input.okWideB Tryd.checked.prog ((World.laidAll Tryd.prog os laidK).forCall (fun _ _ => 0) ⟨#[], #[.slice none 0 0, .slice none 0 0, .slice none 0 0, .string ByteArray.empty], []⟩) 3 ⟨#[], #[.slice none 0 0, .slice none 0 0, .slice none 0 0, .string ByteArray.empty], []⟩ = true := by kernel_rfl
  refine returnsInHanded_of_row (C := Tryd.checked) (s := Rows.OpenSpec.upto Rows.keyAllSpec) own0 started (by kernel_rfl) Tryd.func3
    ⟨World.laidAll Tryd.prog os laidK, fun _ _ => 0, ⟨#[], #[.slice none 0 0, .slice none 0 0, .slice none 0 0, .string ByteArray.empty], []⟩, World.laidAll_os _ _ _, World.shaped_of_ZipB (by kernel_rfl) (by kernel_rfl), (Input.okWide_of_okWideB (base := 0) hok).1, (Input.okWide_of_okWideB hok).2,
      OpenSpec.preRow_of_cond 8 hx rfl (fun k hk2 => by cases hk2; exact hk) (by kernel_rfl) (by show laidMetH Tryd.prog laidK _; rw [MakeChecks.laidMetH_plain _ _ _ (by kernel_rfl)]; exact laidMet_laidAll _ (by kernel_rfl) (by kernel_rfl)), by
        simp only [Assume.holds]
        exact ⟨by simp, by simp, fun _ => Modest.zero, by simp, by simp⟩⟩ ?_
  intro W base args ds gs before hval0 hW _ hcond hsz0 hL0 _ _
  show Calls Tryd.prog 3 args W fun e W' => ∃ v, e = .returned v ∧ Rows.keyAllSpec.post enc Tryd.prog Tryd.f3 false true false false W args v W'
  have hL : laidMetH Tryd.prog laidK W := hL0
  have hbulk := hcond _ rfl
  have hval : ∀ (j : Nat) t v, Tryd.f3.params[j]? = some t → args[j]? = some v → Value.okWide Tryd.prog W .any base t v := hval0
  have hW' := hW
  obtain ⟨p, q, hA0, hV, rfl, _, _⟩ := hW
  have hA : DataW.TrodAll enc Tryd.prog W 0 (fun _ => true) true Tryd.f3.params.toList args.toList ds p := hA0
  have hsz := hsz0
  clear hsz0
  rw [Tryd.params3] at hA hval hsz
  obtain ⟨v0, v1, v2, v3, d0, d1, d2, d3, p0, p1, p2, p3, rfl, rfl, rfl, h0, h1, h2, h3⟩ := trodAll_four hA
  obtain ⟨rfl, rfl⟩ := trodVars_none hV
  clear hA0 hval0
  simp only [List.append_nil] at hW' hbulk
  rw [MakeChecks.laidMetH_plain _ _ _ (by kernel_rfl)] at hL
  have hT := utab_of hL
  obtain ⟨l0, ao0, c0, rfl, hx0, hr0⟩ := open_vals (hval 0 22 v0 rfl rfl) h0
  have hl0 : l0.length ≤ 1048576 := by
    rcases hr0 with rfl | ⟨elems, spare, rfl, hle⟩
    · simp
    · have := bulk_slice (a := elems) (b := spare) (by simp) hbulk
      omega
  obtain ⟨l1, ao1, c1, rfl, hx1, hr1⟩ := open_bools (hval 1 23 v1 rfl rfl) h1
  have hl1 : l1.length ≤ 1048576 := by
    rcases hr1 with rfl | ⟨elems, spare, rfl, hle⟩
    · simp
    · have := bulk_slice (a := elems) (b := spare) (by simp) hbulk
      omega
  obtain ⟨l2, ao2, c2, rfl, hx2, hr2, hk2⟩ := open_intsArg (hval 2 24 v2 rfl rfl) h2
  have hl2 : l2.length ≤ 1048576 := by
    rcases hr2 with rfl | ⟨elems, spare, rfl, hle⟩
    · simp
    · have := bulk_slice (a := elems) (b := spare) (by simp) hbulk
      omega
  have h3' := h3
  obtain ⟨s3, rfl, rfl, rfl, hs3⟩ := open_string Tryd.underlying9 (hval 3 9 v3 rfl rfl) h3
  refine (kall_walk W hx0 hl0 hx1 hl1 hx2 hl2 hk2 hT).mono fun e W' ⟨he, hn⟩ => ?_
  subst he
  refine ⟨_, rfl, _, _, _, [], p0 ++ (p1 ++ (p2 ++ [])), [], hW', trodAll_mk1 (shut_bool Tryd.underlying4 _), trodAll_mk4 ?_ ?_ ?_ ?_, rfl, hn.frame _, fun h => by cases h⟩
  · exact Below.trod laid0 (by kernel_rfl) (of_decide_eq_true (by kernel_rfl)) h0 hn (fun x hx => hW'.lt x (by first | (simp [hx]; done) | (simp at hx; done)))
  · exact Below.trod laid0 (by kernel_rfl) (of_decide_eq_true (by kernel_rfl)) h1 hn (fun x hx => hW'.lt x (by first | (simp [hx]; done) | (simp at hx; done)))
  · exact Below.trod laid0 (by kernel_rfl) (of_decide_eq_true (by kernel_rfl)) h2 hn (fun x hx => hW'.lt x (by first | (simp [hx]; done) | (simp at hx; done)))
  · exact Below.trod laid0 (by kernel_rfl) (of_decide_eq_true (by kernel_rfl)) h3' hn (fun x hx => hW'.lt x (by first | (simp [hx]; done) | (simp at hx; done)))

theorem kall_said : Rows.KeyAllUptoSaid :=
  OpenClaim.holds_of_cond 3 Tryd.f3 rfl rfl rfl rfl rfl rfl rfl ⟨rfl, rfl, rfl, rfl, rfl⟩ rfl rfl rfl rfl rfl (by kernel_rfl) Tryd.func3 (by kernel_rfl)
    (of_decide_eq_true (by kernel_rfl)) (by unfold Func.isWrapper; first | (rw [if_pos (by decide +kernel)]; kernel_rfl) | (rw [if_neg (by decide +kernel)]; exact ⟨rfl, rfl⟩))
    (fun os started H enc _ F => by rw [OpenClaim.pre_eq_preRow]; exact kall_lifted os started H enc F)

theorem kall_plain (lk : Bool) (hlk : lk = Tryd.pinned.checked.prog.looks []) (f : FuncId) (fn : Func) (hf : Tryd.pinned.checked.prog.funcNamed "granary/granarylaw07.KeyAll" = some f) (hfn : Tryd.pinned.checked.prog.funcs[f]? = some fn) :
    lk = Tryd.pinned.checked.prog.looks [] ∧ ∀ (j : Nat) t, fn.params[j]? = some t → Tryd.pinned.checked.prog.wantsStandIn t = false := by
  obtain rfl : f = 3 := Option.some.inj ((show Tryd.prog.funcNamed "granary/granarylaw07.KeyAll" = some 3 by kernel_rfl).symm.trans hf) |>.symm
  obtain rfl : fn = Tryd.f3 := (Option.some.inj (Tryd.func3.symm.trans hfn)).symm
  refine ⟨hlk, fun j t ht => ?_⟩
  rw [Tryd.params3] at ht
  have hm : t ∈ [22, 23, 24, 9] := by have := Array.mem_of_getElem? ht; simp at this; simp; first | omega | (rcases this with h | h | h | h <;> simp [h]; done) | (rcases this with h | h | h <;> simp [h]; done) | (rcases this with h | h <;> simp [h]; done) | (simp [this]; done)
  have hall : ([22, 23, 24, 9].all fun u => !Tryd.prog.wantsStandIn u) = true := by kernel_rfl
  exact (show Tryd.prog.wantsStandIn t = false by simpa using List.all_eq_true.1 hall t hm)

theorem kall_holds : Rows.KeyAllUptoCardSaid :=
  Claim7.holds_tied_plain_at .later [] _ _ _ _ kall_said (fun _ h => by cases h) (by kernel_rfl) (fun _ h => by cases h) keyAllUpto_row_tie rfl ⟨rfl, rfl⟩ (by kernel_rfl) rfl (kall_plain _ (by kernel_rfl)) (by kernel_rfl)

end Go.Proofs.YtlmpknhekoeecaaDoor
