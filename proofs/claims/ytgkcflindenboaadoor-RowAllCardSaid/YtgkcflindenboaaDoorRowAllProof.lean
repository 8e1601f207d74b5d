/-
  RowAll returns true for every list of columns, every list of values, every text and every number: what may be a row, its bytes, the row of any bytes and where a number stands are the document's answers. Conditions: none but the card's.
-/
import Derived.Test.YtgkcflindenboaaDoorRowAll
import Derived.Test.YtgkcflindenboaaDoorRowJ6
import Derived.Test.YtgkcflindenboaaDoorCards
import Derived.Test.YtgkcflindenboaaDoorTie
import Derived.Lay
import Derived.LaidLaws
import Derived.Carry
import Derived.ProofKit
import Derived.Stop.Joined
import Derived.ChangeMaps5
namespace Go.Proofs.YtgkcflindenboaaDoor
open Go Go.ChangeShapes Go.WideShapes Go.ChangeAt Go.ChangeMaps Go.RowKit
set_option linter.unusedVariables false
set_option linter.unusedSimpArgs false
set_option maxRecDepth 100000

set_option maxRecDepth 100000 in
theorem rall_lifted (os : Os) (started : os.Started) (H : Type) (enc : TypeId × Value → H) :
    ReturnsInHanded {} Tryd.checked os 4 .any (fun w args => (Rows.rowAllSpec.pre enc Tryd.prog Tryd.f4 [] false w args ∧ laidMetH Tryd.prog laidK w) ∧ sizedMet enc Tryd.prog Tryd.f4 (OpenSpec.ofChange Rows.rowAllSpec) false w args) (Rows.rowAllSpec.post enc Tryd.prog Tryd.f4 false true false false) := by
  refine returnsInHanded_of_change_and (C := Tryd.checked) (X := fun w _ => laidMetH Tryd.prog laidK w) (fun _ _ _ hh h => h.of_heap hh) own0 started (by kernel_rfl) Tryd.func4
    (ChangeSpec.witness_shaped (enc := enc) (C := Tryd.checked) (os := os) (X := fun w _ => laidMetH Tryd.prog laidK w) false (World.laidAll Tryd.prog os laidK) #[.slice none 0 0, .slice none 0 0, .string ByteArray.empty, .int .i64 0] 8 (World.laidAll_os _ _ _)
      (World.shaped_of_ZipB (by kernel_rfl) (by kernel_rfl)) (by kernel_rfl) (by kernel_rfl) (by kernel_rfl)
      (by rw [MakeChecks.laidMetH_plain _ _ _ (by kernel_rfl)]; exact laidMet_laidAll _ (by kernel_rfl) (by kernel_rfl))) ?_
  intro W base args ds gs before hval0 hW _ hsz0 hL _
  have hval : ∀ (j : Nat) t v, Tryd.f4.params[j]? = some t → args[j]? = some v → Value.okWide Tryd.prog W .any base t v := hval0
  have hW' := hW
  obtain ⟨p, q, hA0, hV, rfl, _, _⟩ := hW
  have hA : DataW.TrodAll enc Tryd.prog W 0 (fun _ => true) true Tryd.f4.params.toList args.toList ds p := hA0
  have hsz := hsz0
  clear hsz0
  rw [Tryd.params4] at hA hval hsz
  obtain ⟨v0, v1, v2, v3, d0, d1, d2, d3, p0, p1, p2, p3, rfl, rfl, rfl, h0, h1, h2, h3⟩ := trodAll_four hA
  obtain ⟨rfl, rfl⟩ := trodVars_none hV
  clear hA0 hval0
  simp only [List.append_nil] at hW'
  rw [MakeChecks.laidMetH_plain _ _ _ (by kernel_rfl)] at hL
  have hT := utab_of hL
  obtain ⟨l0, ao0, c0, rfl, hx0, hr0⟩ := open_cols (hval 0 33 v0 rfl rfl) h0
  have hl0 : l0.length ≤ 140737488355328 := by
    rcases hr0 with rfl | ⟨elems, spare, rfl, hle⟩
    · simp
    · have := sized_slice hsz (j := 0) (t := 33) rfl rfl Tryd.underlying33
      rw [show Tryd.checked.prog.bytesOf 67 = _ from Tryd.bytesCol] at this
      simp only [reachBytes] at this
      omega
  obtain ⟨l1, ao1, c1, rfl, hx1, hr1⟩ := open_vals (hval 1 22 v1 rfl rfl) h1
  have hl1 : l1.length ≤ 140737488355328 := by
    rcases hr1 with rfl | ⟨elems, spare, rfl, hle⟩
    · simp
    · have := sized_slice hsz (j := 1) (t := 22) rfl rfl Tryd.underlying22
      rw [show Tryd.checked.prog.bytesOf 42 = _ from Tryd.bytesVal] at this
      simp only [reachBytes] at this
      omega
  have h2' := h2
  obtain ⟨s2, rfl, rfl, rfl, hs2⟩ := open_string Tryd.underlying9 (hval 2 9 v2 rfl rfl) h2
  have hz2 : s2.size ≤ 140737488351232 := by simpa [reachBytes] using sized_string hsz (j := 2) rfl rfl
  have h3' := h3
  obtain ⟨z3, rfl, rfl, rfl, wz3⟩ := open_int Tryd.underlying3 (hval 3 3 v3 rfl rfl) h3
  refine (rall_walk W hx0 hl0 (shape_of Tryd.underlying33 h0) hx1 hl1 hz2  hT).mono fun e W' ⟨he, hn⟩ => ?_
  subst he
  refine ⟨_, rfl, _, _, _, [], p0 ++ (p1 ++ ([] ++ [])), [], hW', trodAll_mk1 (shut_bool Tryd.underlying4 _), trodAll_mk4 ?_ ?_ ?_ ?_, rfl, hn.frame _, fun h => by cases h⟩
  · exact Below.trod laid0 (by kernel_rfl) (of_decide_eq_true (by kernel_rfl)) h0 hn (fun x hx => hW'.lt x (by first | (simp [hx]; done) | (simp at hx; done)))
  · exact Below.trod laid0 (by kernel_rfl) (of_decide_eq_true (by kernel_rfl)) h1 hn (fun x hx => hW'.lt x (by first | (simp [hx]; done) | (simp at hx; done)))
  · exact Below.trod laid0 (by kernel_rfl) (of_decide_eq_true (by kernel_rfl)) h2' hn (fun x hx => hW'.lt x (by first | (simp [hx]; done) | (simp at hx; done)))
  · exact Below.trod laid0 (by kernel_rfl) (of_decide_eq_true (by kernel_rfl)) h3' hn (fun x hx => hW'.lt x (by first | (simp [hx]; done) | (simp at hx; done)))

theorem rall_said : Rows.RowAllSaid :=
  OpenClaim.holds_of_wide 4 Tryd.f4 rfl rfl rfl rfl rfl rfl rfl ⟨rfl, rfl, rfl, rfl, rfl⟩ rfl rfl rfl rfl rfl (by kernel_rfl) Tryd.func4 (by kernel_rfl)
    (of_decide_eq_true (by kernel_rfl)) (by unfold Func.isWrapper; first | (rw [if_pos (by decide +kernel)]; kernel_rfl) | (rw [if_neg (by decide +kernel)]; exact ⟨rfl, rfl⟩))
    (fun os started H enc _ => rall_lifted os started H enc)

theorem rall_plain (lk : Bool) (hlk : lk = Tryd.pinned.checked.prog.looks []) (f : FuncId) (fn : Func) (hf : Tryd.pinned.checked.prog.funcNamed "granary/granarylaw08.RowAll" = some f) (hfn : Tryd.pinned.checked.prog.funcs[f]? = some fn) :
    lk = Tryd.pinned.checked.prog.looks [] ∧ ∀ (j : Nat) t, fn.params[j]? = some t → Tryd.pinned.checked.prog.wantsStandIn t = false := by
  obtain rfl : f = 4 := Option.some.inj ((show Tryd.prog.funcNamed "granary/granarylaw08.RowAll" = some 4 by kernel_rfl).symm.trans hf) |>.symm
  obtain rfl : fn = Tryd.f4 := (Option.some.inj (Tryd.func4.symm.trans hfn)).symm
  refine ⟨hlk, fun j t ht => ?_⟩
  rw [Tryd.params4] at ht
  have hm : t ∈ [33, 22, 3, 9] := by have := Array.mem_of_getElem? ht; simp at this; simp; first | omega | (rcases this with h | h | h | h <;> simp [h]; done) | (rcases this with h | h | h <;> simp [h]; done) | (rcases this with h | h <;> simp [h]; done) | (simp [this]; done)
  have hall : ([33, 22, 3, 9].all fun u => !Tryd.prog.wantsStandIn u) = true := by kernel_rfl
  exact (show Tryd.prog.wantsStandIn t = false by simpa using List.all_eq_true.1 hall t hm)

theorem rall_holds : Rows.RowAllCardSaid :=
  Claim7.holds_tied_plain_at .later [] _ _ _ _ rall_said (fun _ h => by cases h) (by kernel_rfl) (fun _ h => by cases h) rowAll_row_tie rfl ⟨rfl, rfl⟩ (by kernel_rfl) rfl (rall_plain _ (by kernel_rfl)) (by kernel_rfl)

end Go.Proofs.YtgkcflindenboaaDoor
