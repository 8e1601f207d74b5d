/-
  The reference's pool: Drop.
-/
import Derived.Test.YtjmelhmjcbliaaaPoR3
import Derived.Test.YtjmelhmjcbliaaaPoPi
namespace Go.Proofs.Ytjmelhmjcbliaaa
open Go Go.RowKit
set_option linter.unusedVariables false
set_option linter.unusedSimpArgs false
set_option maxRecDepth 100000

set_option maxHeartbeats 4000000 in
theorem rpdrop_any {w0 w : World} {p bb : Nat} {R : List Rb} {st : Po} {J : Res} [Stab J] (h : Own w0 w (Sep (RpR p bb R st) J)) (id : Int) (hl : R.length ≤ 1000000000) (hh : st.hand = 0 ∨ st.hand < st.L.length) :
    Calls Try.prog 18 #[ptr p, .int .u64 id] w (fun e w' => e = .returned (.tuple #[]) ∧ ∃ R', Own w0 w' (Sep (RpR p bb R' (st.drop id)) J)) := by
  have hat := rpat_any h id hl
  have HAT := Lib.hid hat
  obtain ⟨ix, hix⟩ : ∃ x, ixI st id = x := ⟨_, rfl⟩
  rw [hix] at HAT
  cases hx : st.ix id with
  | some i =>
    have hi : ix = (i : Int) := by rw [← hix]; unfold ixI; rw [hx]
    subst hi
    have hil : i < R.length := by
      obtain ⟨ro, rc, hk, _⟩ := h.openRp
      rw [rb_len hk]
      exact (Po.ix_pl hx).1
    have h0 : (0 : Int) ≤ (i : Int) := by omega
    have HC := Lib.hid (drop_some hx)
    have HOU := Lib.hid (rpout_any h i hil hl hh)
    clear h hat hl hix hx hil hh
    go_enter Try.func18, Try.ntmps18
    go_wp2_with (go_at_call 37; refine HAT.out.mono ?_; rintro e w2 ⟨rfl, rfl⟩)
    refine HOU.out.mono ?_
    rintro e w2 ⟨rfl, ho⟩
    have HO := Lib.hid ho
    clear HOU ho HAT
    go_wp2_with fail
    (first | go_end0 | refine ⟨rfl, _, results_none rfl _ _ _, ?_⟩)
    rw [HC.out]
    exact ⟨rfl, _, HO.out⟩
  | none =>
    have hi : ix = -1 := by rw [← hix]; unfold ixI; rw [hx]
    subst hi
    have HC := Lib.hid (drop_none hx)
    have HS := Lib.hid h
    clear h hat hl hix hx hh
    go_enter Try.func18, Try.ntmps18
    go_wp2_with (go_at_call 37; refine HAT.out.mono ?_; rintro e w2 ⟨rfl, rfl⟩)
    (first | go_end0 | refine ⟨rfl, _, results_none rfl _ _ _, ?_⟩)
    rw [HC.out]
    exact ⟨rfl, R, HS.out⟩

end Go.Proofs.Ytjmelhmjcbliaaa
