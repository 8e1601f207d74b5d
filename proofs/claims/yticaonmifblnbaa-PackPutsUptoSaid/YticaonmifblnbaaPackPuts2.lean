/-
  Contract of the statements' Bytes: two slices with the same bytes.
-/
import Derived.Test.YticaonmifblnbaaPackPuts1
import Derived.Test.YticaonmifblnbaaPackRaw
import Derived.Test.YticaonmifblnbaaPackTakes
namespace Go.Proofs.Yticaonmifblnbaa
open Go Go.RowKit Go.Lib
set_option linter.unusedVariables false

set_option maxHeartbeats 400000 in
theorem rawBytes (a b : Value) (xs : List UInt8) (w : World) (ha : SlC w a xs) (hb : SlC w b xs) :
    Calls Try.prog 10 #[a, b] w fun e w' => e = .returned (.bool true) ∧ w = w' := by
  have hca := run_strC ha
  have hcb := run_strC hb
  obtain ⟨ao, ac, rfl⟩ := ha.shape
  obtain ⟨bo, bc, rfl⟩ := hb.shape
  clear ha hb
  go_enter Try.func10, Try.ntmps10
  go_wp2
  go_ret
  exact ⟨rfl, rfl⟩

/-- The rows of two slices that are written over and appended to in turn: each is the call's own, and they lie apart. -/
structure Rows2 (w0 w : World) (va : Value) (na : Nat) (vb : Value) (nb : Nat) : Prop where
  a : ∃ xs, w.ownsRow w0.heap.size 5 1 va na (u8s xs)
  b : ∃ xs, w.ownsRow w0.heap.size 5 1 vb nb (u8s xs)
  ne : ∀ g, va.ownBlock = some g → vb.ownBlock ≠ some g
  only : Only (fun _ => False) w0 w

/-- What two calls of puts leave: two rows apart. -/
theorem rows2_of {w0 w1 w2 : World} {ao bo : Option Addr} {na nb ca cb : Nat} {xs ys : List UInt8} (h0 : Only (fun _ => False) w0 w1) (h1 : w1.ownsRow w0.heap.size 5 1 (.slice ao na ca) na (u8s xs))
    (h2 : w2.ownsRow w1.heap.size 5 1 (.slice bo nb cb) nb (u8s ys)) (h3 : Only (fun _ => False) w1 w2) : Rows2 w0 w2 (.slice ao na ca) na (.slice bo nb cb) nb := by
  refine ⟨⟨xs, own_keep h1 h3⟩, ⟨ys, h2.1, ?_⟩, fun g hg e => ?_, h0.trans h3 (fun _ _ h => h)⟩
  · rcases h2.2 with h | ⟨g, cap, cur, e1, hge, rest⟩
    · exact .inl h
    · exact .inr ⟨g, cap, cur, e1, Nat.le_trans h0.size hge, rest⟩
  · have a1 := (h1.lt g hg).2
    have a2 := (h2.lt g e).1
    omega

end Go.Proofs.Yticaonmifblnbaa
