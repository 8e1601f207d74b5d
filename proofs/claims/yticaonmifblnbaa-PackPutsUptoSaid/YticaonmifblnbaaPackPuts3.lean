/-
  The walk of the statements' PackPuts.
-/
import Derived.Test.YticaonmifblnbaaPackPuts2
import Derived.Test.YticaonmifblnbaaApart
namespace Go.Proofs.Yticaonmifblnbaa
open Go Go.RowKit Go.Lib
set_option linter.unusedVariables false

theorem ownB_of {w : World} {b : Nat} {v : Value} {xs : List UInt8} (h : w.ownsRow b 5 1 v xs.length (u8s xs)) : OwnB v xs w (fun k => v.ownBlock = some k) := by
  refine ⟨⟨h.1, ?_⟩, fun _ => Iff.rfl⟩
  rcases h.2 with h0 | ⟨g, cap, cur, e, hb, rest⟩
  · exact .inl h0
  · exact .inr ⟨g, cap, cur, e, Nat.zero_le _, rest⟩

set_option maxRecDepth 100000 in
set_option maxHeartbeats 4000000 in
theorem puts_walk (ao : Option Addr) (c : Nat) (ps : List Pt) (w : World) (hp : SlP w ao ps) (ht : tot ps ≤ 1048576) :
    Calls Try.prog 3 #[.slice ao ps.length c] w fun e w' => e = .returned (.bool true) ∧ Only (fun _ => False) w w' := by
  have hpl := allP_length ps
  have hx : (allP ps).length ≤ 1000000000 := by omega
  have HX := Lib.hid hx
  have HT := Lib.hid ht
  have HP := Lib.hid hp; clear hp ht hx hpl
  go_enter Try.func3, Try.ntmps3
  go_wp2_with fail
  refine (awake_any w).mono ?_
  rintro e w0 ⟨rfl, hq⟩
  have HQ := Lib.hid hq; clear hq
  go_wp2_with fail
  refine (puts_any ao c ps w0 (HP.out.keep HQ.out) HT.out).mono ?_
  rintro e w1 ⟨a1, c1, vb1, rfl, hown, hb, ho⟩
  have HA := Lib.hid hown
  have HB := Lib.hid hb.toC
  have HO := Lib.hid ho
  obtain ⟨b1, bc1, rfl⟩ := hb.toC.shape
  clear hown hb ho
  go_wp2_with fail
  refine (puts_any ao c ps w1 (HP.out.keep (HQ.out.trans HO.out (fun _ _ h => h))) HT.out).mono ?_
  rintro e w2 ⟨a2, c2, vb2, rfl, hown, hb, ho⟩
  have HA2 := Lib.hid hown
  have HO2 := Lib.hid ho
  clear hown hb ho
  go_wp2_with fail
  have hs1 := (own_toB HA.out).toC.keep HO2.out
  have hs2 := (own_toB HA2.out).toC
  have HB2 := Lib.hid (HB.out.keep HO2.out)
  refine (rawBytes _ _ _ _ hs1 HB2.out).mono ?_
  rintro e w3 ⟨rfl, rfl⟩
  go_wp2_with fail
  refine (rawBytes _ _ _ _ hs2 HB2.out).mono ?_
  rintro e w3 ⟨rfl, rfl⟩
  clear hs1 hs2
  go_wp2_with fail
  have hO := ((((Own.start w).quiet HQ.out).fresh HO.out (ownB_of HA.out) (fun k hk => (HA.out.lt k hk).1)).fresh HO2.out (ownB_of HA2.out) (fun k hk => (HA2.out.lt k hk).1)).swap
  have hO2 := (hO.alloc (.cells #[.slice a1 (allP ps).length c1, .slice a2 (allP ps).length c2] 24)).swap.rot
  refine (apart_two _ _ _ _ _ _ _ hO2 HX.out HX.out).mono ?_
  rintro e w3 ⟨rfl, hq⟩
  have HE := Lib.hid hq
  clear hq hO hO2
  go_wp2_with fail
  go_ret
  exact ⟨rfl, HE.out⟩

end Go.Proofs.Yticaonmifblnbaa
