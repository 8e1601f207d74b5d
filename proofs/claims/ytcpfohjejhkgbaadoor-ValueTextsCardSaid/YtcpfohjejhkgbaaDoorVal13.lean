/-
  The laws' first question: a program that does nothing is told.
-/
import Derived.Test.YtcpfohjejhkgbaaDoorVal12
import Derived.Test.YtcpfohjejhkgbaaDoorVal7
import Derived.Laws.StructEq
namespace Go.Proofs.YtcpfohjejhkgbaaDoor
open Go Go.RowKit
set_option linter.unusedVariables false
set_option linter.unusedSimpArgs false
set_option maxRecDepth 100000

theorem u64_of {n : Int} (h0 : 0 ≤ n) (h1 : n < 1000) : U64 n := ⟨h0, by omega⟩
theorem aw_parse (w : World) (hT : Tabs w) : Calls Tryd.prog 6 #[.string ⟨#[53, 117]⟩] w fun e w' => e = .returned (.tuple #[vlv 2 5 ⟨#[]⟩, .int .i64 0]) ∧ Below w.heap.size w w' := by
  refine (parse_any ⟨#[53, 117]⟩ w hT).mono ?_
  rintro e w' ⟨K, N, S, er, rfl, hN, hp, hb⟩
  rw [show (ByteArray.mk #[53, 117]).toList = [53, 117] from ByteArray.toList_mk [53, 117]] at hp
  have ht : vtext ⟨2, 5, []⟩ = [53, 117] := by
    show dig 5 ++ [117] = _
    rw [dig_lo (by decide)]; rfl
  rw [vparse_text (v := ⟨2, 5, []⟩) rfl (by unfold M64; decide) ht] at hp
  simp only [Prod.mk.injEq, Vl.mk.injEq] at hp
  obtain ⟨⟨rfl, h5, hS⟩, rfl⟩ := hp
  have h0 := hN.lo
  obtain rfl : N = 5 := by omega
  obtain rfl : S = ⟨#[]⟩ := ba_eq (by rw [ba_nil]; exact hS)
  exact ⟨rfl, hb⟩
theorem aw_text (w : World) (hT : Tabs w) : Calls Tryd.prog 5 #[vlv 5 0 ⟨#[97, 32, 98]⟩] w fun e w' => e = .returned (.string ⟨#[34, 97, 92, 50, 48, 98, 34]⟩) ∧ Below w.heap.size w w' := by
  refine (text_any (u64_of (by decide) (by decide)) w hT).mono ?_
  rintro e w' ⟨rfl, hb⟩
  refine ⟨?_, hb⟩
  have : vtext (vl 5 0 ⟨#[97, 32, 98]⟩) = [34, 97, 92, 50, 48, 98, 34] := by
    show vtext ⟨5, 0, (ByteArray.mk #[97, 32, 98]).toList⟩ = _
    rw [show (ByteArray.mk #[97, 32, 98]).toList = [97, 32, 98] from ByteArray.toList_mk [97, 32, 98]]
    rfl
  rw [this]
theorem aw_cmp (w : World) : Calls Tryd.prog 10 #[vlv 1 1 ⟨#[]⟩, vlv 0 0 ⟨#[]⟩] w fun e w' => e = .returned (.int .i64 1) ∧ Below w.heap.size w w' := by
  refine (cmp_any (u64_of (by decide) (by decide)) (u64_of (by decide) (by decide)) w).mono ?_
  rintro e w' ⟨rfl, hb⟩
  exact ⟨rfl, hb⟩
theorem aw_name (w : World) : Calls Tryd.prog 11 #[.string ⟨#[97, 95, 49]⟩] w fun e w' => e = .returned (.bool true) ∧ w = w' := by
  refine (name_any _ w).mono ?_
  rintro e w' ⟨rfl, rfl⟩
  rw [show (ByteArray.mk #[97, 95, 49]).toList = [97, 95, 49] from ByteArray.toList_mk [97, 95, 49]]
  exact ⟨rfl, rfl⟩
theorem aw_fits (w : World) (hT : Tabs w) : Calls Tryd.prog 12 #[colv ⟨#[]⟩ 1 0 false 0 0 ⟨#[]⟩, vlv 2 5 ⟨#[]⟩] w fun e w' => e = .returned (.int .i64 8) ∧ Below w.heap.size w w' := by
  refine (fits_any (u64_of (by decide) (by decide)) w hT).mono ?_
  rintro e w' ⟨rfl, hb⟩
  refine ⟨?_, hb⟩
  show Ending.returned (Value.int .i64 (fitsE 1 0 false ⟨2, 5, (ByteArray.mk #[]).toList⟩)) = _
  rw [ba_nil]
  rfl

theorem keep0 {w w1 : World} {a : Addr} {v : Value} (h : w.cell? a = some v) (hb : Below w.heap.size w w1) : w1.cell? a = some v := by
  rw [hb.cell (cell_lt h)]; exact h

set_option maxHeartbeats 2000000 in
theorem awake_any (w : World) (hT : Tabs w) : Calls Tryd.prog 4 #[] w fun e w' => e = .returned (.bool true) ∧ Below w.heap.size w w' := by
  have HT := Lib.hid hT
  clear hT
  go_enter Tryd.func4, Tryd.ntmps4
  go_wp2_with fail
  refine (aw_parse _ HT.out).mono ?_
  rintro e w1 ⟨rfl, hb1⟩
  have HT1 := Lib.hid (HT.out.keep hb1)
  have H1 := Lib.hid hb1
  clear hb1
  go_wp2_with fail
  refine (aw_text _ (HT1.out.keep ((Below.refl _ _).alloc (Nat.le_refl _) _))).mono ?_
  rintro e w2 ⟨rfl, hb2⟩
  obtain ⟨d0, d1, d2⟩ := val_cells hb2
  have HT2 := Lib.hid ((HT1.out.keep ((Below.refl _ _).alloc (Nat.le_refl _) _)).keep hb2)
  have H2 := Lib.hid (H1.out.trans (((Below.refl _ w1).alloc (Nat.le_refl _) _).trans (hb2.mono (by simp)) |>.mono H1.out.size))
  clear hb2
  go_wp2_with fail
  refine (aw_cmp _).mono ?_
  rintro e w3 ⟨rfl, hb3⟩
  have e0 := keep0 d0 hb3
  have e1 := keep0 d1 hb3
  have e2 := keep0 d2 hb3
  have HT3 := Lib.hid (HT2.out.keep hb3)
  have H3 := Lib.hid (H2.out.trans (hb3.mono H2.out.size))
  clear hb3 d0 d1 d2
  go_wp2_with fail
  refine (aw_name _).mono ?_
  rintro e w4 ⟨rfl, rfl⟩
  go_wp2_with fail
  refine (aw_fits _ HT3.out).mono ?_
  rintro e w4 ⟨rfl, hb4⟩
  have H4 := Lib.hid (H3.out.trans (hb4.mono H3.out.size))
  clear hb4
  go_wp2
  go_ret
  exact ⟨rfl, H4.out⟩

end Go.Proofs.YtcpfohjejhkgbaaDoor
