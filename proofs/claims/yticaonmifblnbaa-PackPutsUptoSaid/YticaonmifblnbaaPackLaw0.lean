/-
  The statements' awake: it answers true, and changes nothing that was there.
-/
import Derived.Test.YticaonmifblnbaaPackIn5
import Derived.Test.YticaonmifblnbaaPackOut3
namespace Go.Proofs.Yticaonmifblnbaa
open Go Go.RowKit Go.Lib
set_option linter.unusedVariables false

theorem OutV.new (w : World) : OutV (w.alloc (.cells #[.slice none 0 0] 42)) w.heap.size (.slice none 0 0) [] :=
  ⟨heap_alloc_new w _, World.ownsRow_nil _ _ _ _⟩

theorem Only.none {a b c : World} {S : Nat → Prop} (h : Only (fun _ => False) a b) (k : Only S b c) (hS : ∀ k, S k → a.heap.size ≤ k) : Only (fun _ => False) a c :=
  h.trans k (fun i hi hs => by have := hS i hs; omega)
theorem OutS.ge {B p : Nat} {v : Value} (hp : B ≤ p) (hv : v.ownBlock = .none ∨ ∃ g, v.ownBlock = some g ∧ B ≤ g) : ∀ k, OutS p v k → B ≤ k := by
  intro k h
  rcases h with rfl | h
  · exact hp
  · rcases hv with hv | ⟨g, hg, hB⟩
    · rw [hv] at h; cases h
    · rw [hg] at h; simp at h; omega
theorem row_ge {B : Nat} {w : World} {v v' : Value} (hB : B ≤ w.heap.size) (hv : v.ownBlock = .none ∨ ∃ g, v.ownBlock = some g ∧ B ≤ g) (h : v'.ownBlock = v.ownBlock ∨ ∃ g, v'.ownBlock = some g ∧ w.heap.size ≤ g) :
    v'.ownBlock = .none ∨ ∃ g, v'.ownBlock = some g ∧ B ≤ g := by
  rcases h with h | ⟨g, hg, hge⟩
  · rw [h]; exact hv
  · exact .inr ⟨g, hg, by omega⟩

theorem OutV.keep {S : Nat → Prop} {w w' : World} {p : Nat} {v : Value} {xs : List UInt8} (h : OutV w p v xs) (ho : Only S w w') (hp : ¬ S p) (hv : ∀ g, v.ownBlock = some g → ¬ S g) : OutV w' p v xs := by
  refine ⟨ho.keep h.at' hp, h.own.1, ?_⟩
  rcases h.own.2 with h0 | ⟨g, cap, cur, rfl, hb, hg, rest⟩
  · exact .inl h0
  · exact .inr ⟨g, cap, cur, rfl, hb, ho.keep hg (hv g rfl), rest⟩
theorem InV.keep {S : Nat → Prop} {w w' : World} {p : Nat} {v : Value} {xs : List UInt8} {bad : Bool} (h : InV w p v xs bad) (ho : Only S w w') (hp : ¬ S p)
    (hS : ∀ k cur, w.heap[k]? = some (.cells cur 5 (0, 0)) → ¬ S k) : InV w' p v xs bad :=
  ⟨ho.keep h.at' hp, h.sl.keep ho hS⟩
theorem SlB.lit (w : World) (xs : List UInt8) (cur : Array Value) (hm : xs.length ≤ maxLen) (h : cur = (u8s xs).toArray) :
    SlB (w.alloc (.cells cur 5)) (.slice (some ⟨w.heap.size, 0, none⟩) xs.length xs.length) xs :=
  .inr ⟨w.heap.size, 0, xs.length, cur, rfl, Nat.le_refl _, hm, heap_alloc_new w _, fun j hj => by subst h; simpa using u8s_at hj⟩

set_option maxHeartbeats 1000000 in
theorem awake_any (w : World) :
    Calls Try.prog 8 #[] w fun e w' => e = .returned (.bool true) ∧ Quiet w w' := by
  have e0 : ([] : List UInt8) ++ beB 2 258 = [1, 2] := by decide
  have e1 : ([1, 2] : List UInt8) ++ flagB true = [1, 2, 1] := by decide
  have e2 : ([1, 2, 1] : List UInt8) ++ txtB [97, 98] = [1, 2, 1, 0, 2, 97, 98] := by decide
  have E0 := Lib.hid e0; clear e0
  have E1 := Lib.hid e1; clear e1
  have E2 := Lib.hid e2; clear e2
  have HV0 := Lib.hid (OutV.new w)
  have HO0 := Lib.hid ((Only.refl (fun _ => False) w).alloc (.cells #[.slice none 0 0] 42))
  go_enter Try.func8, Try.ntmps8
  go_wp2_with fail
  refine (outU16 w.heap.size 258 _ _ _ HV0.out (by omega) (by simp)).mono ?_
  rintro e w1 ⟨rfl, v1, hV1, hb1, ho1⟩
  rw [E0.out] at hV1
  have HB1 := Lib.hid (row_ge (B := w.heap.size) HO0.out.size (.inl rfl) hb1); clear hb1
  have HO1 := Lib.hid (HO0.out.none ho1 (OutS.ge (Nat.le_refl _) (.inl rfl))); clear ho1 HO0
  have HV1 := Lib.hid hV1; clear hV1
  clear HV0
  go_wp2_with fail
  refine (outFlag w.heap.size true _ _ _ HV1.out (by simp)).mono ?_
  rintro e w2 ⟨rfl, v2, hV2, hb2, ho2⟩
  rw [E1.out] at hV2
  have HB2 := Lib.hid (row_ge HO1.out.size HB1.out hb2); clear hb2
  have HO2 := Lib.hid (HO1.out.none ho2 (OutS.ge (Nat.le_refl _) HB1.out)); clear ho2 HO1
  have HV2 := Lib.hid hV2; clear hV2
  clear HV1 HB1
  go_wp2_with fail
  refine (outText w.heap.size ⟨#[97, 98]⟩ _ _ _ HV2.out (by decide) (by decide)).mono ?_
  rintro e w3 ⟨rfl, v3, hV3, hb3, ho3⟩
  rw [E2.out] at hV3
  have HO3 := Lib.hid (HO2.out.none ho3 (OutS.ge (Nat.le_refl _) HB2.out)); clear ho3 HO2
  have HV3 := Lib.hid hV3; clear hV3 hb3
  clear HV2 HB2
  go_wp2_with fail
  refine (to_any _ [1, 2, 1, 0, 2, 97, 98] _ (SlB.lit w3 [1, 2, 1, 0, 2, 97, 98] _ (by decide) rfl).toC (by decide)).mono ?_
  rintro e w4 ⟨q, u4, rfl, hI4, hq4, ho4⟩
  have HQ4 := Lib.hid (((Only.refl (fun _ => False) w3).alloc _).trans ho4 (fun _ _ h => h)); clear ho4
  have HV4 := Lib.hid (HV3.out.keep HQ4.out (fun h => h) (fun _ _ h => h))
  have HI4 := Lib.hid hI4; clear hI4
  have HG := Lib.hid (show w.heap.size ≤ q by have := HO3.out.size; simp at hq4; omega); clear hq4
  have HO4 := Lib.hid (HO3.out.none HQ4.out (fun _ h => h.elim))
  clear HV3 HO3 HQ4
  go_wp2_with fail
  refine (outBytes w.heap.size _ _ _ HV4.out (by decide)).mono ?_
  rintro e w5 ⟨r, rfl, hr, ho5⟩
  have hcv := run_str (own_toB hr)
  have HI5 := Lib.hid (HI4.out.keep ho5 (fun h => h) (fun _ _ _ h => h))
  have HO5 := Lib.hid (HO4.out.none ho5 (fun _ h => h.elim))
  clear hr ho5 HO4 HI4 HV4
  go_wp2_with fail
  have E3 : Hid (numB (nextR 2 [1, 2, 1, 0, 2, 97, 98] false) = 258) := Lib.hid (by decide)
  have E4 : Hid (nextL 2 [1, 2, 1, 0, 2, 97, 98] false = [1, 0, 2, 97, 98]) := Lib.hid (by decide)
  have E5 : Hid ((!can 2 [1, 2, 1, 0, 2, 97, 98] false) = false) := Lib.hid (by decide)
  refine (inU16 q _ _ _ _ HI5.out).mono ?_
  rintro e w6 ⟨u6, rfl, hI6, ho6⟩
  rw [E4.out, E5.out] at hI6
  have HI6 := Lib.hid hI6; clear hI6
  have HO6 := Lib.hid (HO5.out.none ho6 (fun k e => e ▸ HG.out)); clear ho6
  rw [E3.out]
  clear HI5 HO5 E3 E4 E5
  have E3 : Hid (flagR [1, 0, 2, 97, 98] false = true) := Lib.hid (by decide)
  have E4 : Hid (flagL [1, 0, 2, 97, 98] false = [0, 2, 97, 98]) := Lib.hid (by decide)
  have E5 : Hid ((!flagOk [1, 0, 2, 97, 98] false) = false) := Lib.hid (by decide)
  go_wp2_with fail
  refine (inFlag q _ _ _ _ HI6.out).mono ?_
  rintro e w7 ⟨u7, rfl, hI7, ho7⟩
  rw [E4.out, E5.out] at hI7
  have HI7 := Lib.hid hI7; clear hI7
  have HO7 := Lib.hid (HO6.out.none ho7 (fun k e => e ▸ HG.out)); clear ho7
  rw [E3.out]
  clear HI6 HO6 E3 E4 E5
  have E3 : Hid (txtR [0, 2, 97, 98] false = [97, 98]) := Lib.hid (by decide)
  have E4 : Hid (txtL [0, 2, 97, 98] false = []) := Lib.hid (by decide)
  have E5 : Hid ((!txtOk [0, 2, 97, 98] false) = false) := Lib.hid (by decide)
  go_wp2_with fail
  refine (inText q _ _ _ _ HI7.out).mono ?_
  rintro e w8 ⟨u8, rfl, hI8, ho8⟩
  rw [E4.out, E5.out] at hI8
  have HI8 := Lib.hid hI8; clear hI8
  have HO8 := Lib.hid (HO7.out.none ho8 (fun k e => e ▸ HG.out)); clear ho8
  rw [E3.out]
  clear HI7 HO7 E3 E4 E5
  go_wp2_with fail
  refine (inDone q _ _ _ _ HI8.out).mono ?_
  rintro e w9 ⟨rfl, rfl⟩
  go_wp2
  go_ret
  exact ⟨rfl, HO8.out⟩

end Go.Proofs.Yticaonmifblnbaa
