/-
  Package pack's In as a part of memory: Flag and Text.
-/
import Derived.Test.YtookbmpaoljelaaInR
namespace Go.Proofs.Ytookbmpaoljelaa
open Go Go.RowKit
set_option linter.unusedVariables false
set_option linter.unusedSimpArgs false
set_option maxRecDepth 100000

theorem SameB.trans {a b c : Value} (h : SameB a b) (k : SameB b c) : SameB a c := fun i hi => h i (k i hi)
def FlagPostB (w : World) (p : Nat) (v : Value) (xs : List UInt8) (bad : Bool) (e : Ending) (w' : World) : Prop :=
  ∃ v', e = .returned (.bool (flagR xs bad)) ∧ InV w' p v' (flagL xs bad) (!flagOk xs bad) ∧ Only (fun k => k = p) w w' ∧ SameB v v'
def TextPostB (w : World) (p : Nat) (v : Value) (xs : List UInt8) (bad : Bool) (e : Ending) (w' : World) : Prop :=
  ∃ v', e = .returned (.string ⟨(txtR xs bad).toArray⟩) ∧ InV w' p v' (txtL xs bad) (!txtOk xs bad) ∧ Only (fun k => k = p) w w' ∧ SameB v v'

set_option maxHeartbeats 400000 in
theorem inU16_blk (p : Nat) (v : Value) (xs : List UInt8) (bad : Bool) (w : World) (hI : InV w p v xs bad) :
    Calls Try.prog 91 #[.pointer (some ⟨p, 0, none⟩)] w (UPostB .u16 w p 2 v xs bad) := by
  go_enter Try.func91, Try.ntmps91
  go_wp2_with fail
  refine (number_blk p 2 v xs bad w hI (by omega)).mono ?_
  rintro e w1 ⟨v', rfl, hI', ho, hsb⟩
  have HI' := Lib.hid hI'; clear hI'
  have HO := Lib.hid ho; clear ho
  have HSB := Lib.hid hsb; clear hsb
  have HN := Lib.hid (numN_lt 2 xs bad)
  go_wp2
  go_ret
  refine ⟨v', ?_, HI'.out, HO.out, HSB.out⟩
  have := HN.out
  simp [IntKind.wrap_u16]
  omega

set_option maxHeartbeats 400000 in
theorem flag_empty_b (p : Nat) (v : Value) (bad : Bool) (w : World) (hI : InV w p v [] bad) :
    Calls Try.prog 59 #[.pointer (some ⟨p, 0, none⟩)] w (FlagPostB w p v [] bad) := by
  obtain ⟨ao, cap, rfl, _⟩ := hI.sl.shape
  have hc0 := hI.cell0
  simp only [List.length_nil] at hc0
  have HI := Lib.hid hI; clear hI
  go_enter Try.func59, Try.ntmps59
  go_wp2_with fail
  refine (left_any p ao 0 cap w hc0).mono ?_
  rintro e w' ⟨rfl, rfl⟩
  go_wp2_with fail
  refine (inU8_blk p _ [] bad w HI.out).mono ?_
  rintro e w1 ⟨v', rfl, hI', ho, hsb⟩
  have HSB := Lib.hid hsb; clear hsb
  have HI' := Lib.hid hI'; clear hI'
  have HO := Lib.hid ho; clear ho
  have hn : numB (nextR 1 [] bad) = 0 := by simp [nextR, numB]
  have hcan : can 1 [] bad = false := by simp [can]
  go_wp2
  go_ret
  have h1 := HI'.out
  refine ⟨v', ?_, ?_, HO.out, HSB.out⟩
  · simp [flagR, flagOk, hcan]
  · simpa [flagL, flagOk, hcan, nextL] using h1

set_option maxHeartbeats 400000 in
theorem flag_big_b (p : Nat) (v : Value) (b : UInt8) (xs : List UInt8) (bad : Bool) (w : World) (hI : InV w p v (b :: xs) bad) (hb : 1 < b.toNat) :
    Calls Try.prog 59 #[.pointer (some ⟨p, 0, none⟩)] w (FlagPostB w p v (b :: xs) bad) := by
  obtain ⟨ao, cap, rfl, _⟩ := hI.sl.shape
  have hc0 := hI.cell0
  have hf := hI.free 1
  have hc1 := hI.cell1
  obtain ⟨g, off, rfl, hcell⟩ := hI.sl.cells (k := 0) (by simp)
  simp only [List.getD_cons_zero, Nat.add_zero] at hcell
  have hpos : 0 < (b :: xs).length := by simp
  obtain ⟨l, hl⟩ : ∃ l, l = (b :: xs).length := ⟨_, rfl⟩
  rw [← hl] at hc0 hpos
  have HL := Lib.hid hl
  have hpos' : (0 : Int) < (l : Int) := by omega
  have hd : decide ((0 : Int) < (l : Int)) = true := by simpa using hpos
  have HI := Lib.hid hI; clear hI
  clear hl
  go_enter Try.func59, Try.ntmps59
  go_wp2_with fail
  refine (left_any p _ l cap w hc0).mono ?_
  rintro e w' ⟨rfl, rfl⟩
  go_wp2_with fail
  refine (inU8_blk p _ (b :: xs) true _ (HI.out.set1 true)).mono ?_
  rintro e w1 ⟨v', rfl, hI', ho, hsb⟩
  have HSB := Lib.hid hsb; clear hsb
  have HI' := Lib.hid hI'; clear hI'
  have HO := Lib.hid ho; clear ho
  have hn : numB (nextR 1 (b :: xs) true) = 0 := by simp [nextR, can, numB]
  go_wp2
  go_ret
  have h1 := HI'.out
  have hok : flagOk (b :: xs) bad = false := by simp [flagOk]; intro _; omega
  refine ⟨v', ?_, ?_, (Only.cell w p 1 _).trans HO.out (fun _ _ h => h), HSB.out⟩
  · simp [flagR, hok]
  · simpa [flagL, hok, nextL, can] using h1

set_option maxHeartbeats 400000 in
theorem flag_small_b (p : Nat) (v : Value) (b : UInt8) (xs : List UInt8) (bad : Bool) (w : World) (hI : InV w p v (b :: xs) bad) (hb : b.toNat ≤ 1) :
    Calls Try.prog 59 #[.pointer (some ⟨p, 0, none⟩)] w (FlagPostB w p v (b :: xs) bad) := by
  obtain ⟨ao, cap, rfl, _⟩ := hI.sl.shape
  have hc0 := hI.cell0
  obtain ⟨g, off, rfl, hcell⟩ := hI.sl.cells (k := 0) (by simp)
  simp only [List.getD_cons_zero, Nat.add_zero] at hcell
  have hpos : 0 < (b :: xs).length := by simp
  obtain ⟨l, hl⟩ : ∃ l, l = (b :: xs).length := ⟨_, rfl⟩
  rw [← hl] at hc0 hpos
  have HL := Lib.hid hl
  have hpos' : (0 : Int) < (l : Int) := by omega
  have hd : decide ((0 : Int) < (l : Int)) = true := by simpa using hpos
  have hb' : ¬ (1 : Int) < (b.toNat : Int) := by omega
  have HI := Lib.hid hI; clear hI
  clear hl
  go_enter Try.func59, Try.ntmps59
  go_wp2_with fail
  refine (left_any p _ l cap w hc0).mono ?_
  rintro e w' ⟨rfl, rfl⟩
  go_wp2_with fail
  refine (inU8_blk p _ (b :: xs) bad _ HI.out).mono ?_
  rintro e w1 ⟨v', rfl, hI', ho, hsb⟩
  have HSB := Lib.hid hsb; clear hsb
  have HI' := Lib.hid hI'; clear hI'
  have HO := Lib.hid ho; clear ho
  go_wp2
  go_ret
  have h1 := HI'.out
  have hok : flagOk (b :: xs) bad = can 1 (b :: xs) bad := by simp [flagOk]; intro _; omega
  refine ⟨v', ?_, ?_, HO.out, HSB.out⟩
  · simp only [flagR, hok]
    cases bad
    · simp [can, nextR, numB]
      rw [Bool.eq_iff_iff]; simp; omega
    · simp [can, nextR, numB]
  · simpa [flagL, hok, nextL] using h1

theorem inFlag_blk (p : Nat) (v : Value) (xs : List UInt8) (bad : Bool) (w : World) (hI : InV w p v xs bad) :
    Calls Try.prog 59 #[.pointer (some ⟨p, 0, none⟩)] w (FlagPostB w p v xs bad) := by
  cases xs with
  | nil => exact flag_empty_b p v bad w hI
  | cons b xs =>
    by_cases hb : b.toNat ≤ 1
    · exact flag_small_b p v b xs bad w hI hb
    · exact flag_big_b p v b xs bad w hI (by omega)
set_option maxHeartbeats 400000 in
theorem text_bad_b (p : Nat) (v : Value) (xs : List UInt8) (w : World) (hI : InV w p v xs true) :
    Calls Try.prog 66 #[.pointer (some ⟨p, 0, none⟩)] w (TextPostB w p v xs true) := by
  have hc1 := hI.cell1
  have HI := Lib.hid hI; clear hI
  go_enter Try.func66, Try.ntmps66
  go_wp2_with fail
  refine (bad_any p true w hc1).mono ?_
  rintro e w' ⟨rfl, rfl⟩
  go_wp2
  go_ret
  exact ⟨v, by simp [txtR, txtOk, can], by simpa [txtL, txtOk, can] using HI.out, Only.refl _ _, fun k h => h⟩
set_option maxHeartbeats 400000 in
theorem text_good_b (p : Nat) (v : Value) (xs : List UInt8) (w : World) (hI : InV w p v xs false) :
    Calls Try.prog 66 #[.pointer (some ⟨p, 0, none⟩)] w (TextPostB w p v xs false) := by
  obtain ⟨ao, cap, rfl, _⟩ := hI.sl.shape
  have hc1 := hI.cell1
  have hc0 := hI.cell0
  have HI := Lib.hid hI; clear hI
  go_enter Try.func66, Try.ntmps66
  go_wp2_with fail
  refine (bad_any p false w hc1).mono ?_
  rintro e w' ⟨rfl, rfl⟩
  go_wp2_with fail
  refine (inU16_blk p _ xs false w HI.out).mono ?_
  rintro e w1 ⟨v1, rfl, hI1, ho1, hs1⟩
  have HS1 := Lib.hid hs1; clear hs1
  have HI1 := Lib.hid hI1; clear hI1
  have HO1 := Lib.hid ho1; clear ho1
  clear hc0 hc1
  obtain ⟨n, hn⟩ : ∃ n, n = numB (nextR 2 xs false) := ⟨_, rfl⟩
  have hlt : n < 65536 := by rw [hn]; exact numN_lt 2 xs false
  rw [← hn]
  have HN := Lib.hid hn; clear hn
  go_wp2_with fail
  refine (next_blk p n v1 _ _ w1 HI1.out).mono ?_
  rintro e w2 ⟨r, v2, rfl, hr, hI2, ho2, hs2⟩
  have HS2 := Lib.hid hs2; clear hs2
  obtain ⟨zs, hz⟩ : ∃ zs, zs = nextR n (nextL 2 xs false) (!can 2 xs false) := ⟨_, rfl⟩
  obtain ⟨b2, hb2⟩ : ∃ b2, b2 = !can n (nextL 2 xs false) (!can 2 xs false) := ⟨_, rfl⟩
  rw [← hz] at hr
  rw [← hb2] at hI2
  have hcv := run_str hr
  have hc1 := hI2.cell1
  have hc0 := hI2.cell0
  have hf := hI2.free 0
  have HI2 := Lib.hid hI2; clear hI2
  have HO2 := Lib.hid ho2; clear ho2
  have HZ := Lib.hid hz; clear hz
  have HB := Lib.hid hb2; clear hb2
  have HR := Lib.hid hr; clear hr
  cases b2 with
  | false =>
    go_wp2
    go_ret
    have hok := text_ok xs false (by rw [← HN.out]; exact HB.out)
    have hres := text_res xs hok
    rw [← HN.out] at hres
    refine ⟨v2, ?_, ?_, HO1.out.trans HO2.out (fun _ _ h => h), HS1.out.trans HS2.out⟩
    · rw [hres.1, ← HZ.out]; rfl
    · rw [hres.2, hok]; exact HI2.out
  | true =>
    go_wp2
    go_ret
    have hok := text_ok xs true (by rw [← HN.out]; exact HB.out)
    refine ⟨.slice ao xs.length cap, ?_, ?_, (HO1.out.trans HO2.out (fun _ _ h => h)).trans (Only.cell _ _ _ _) (fun _ _ h => h), fun k h => h⟩
    · have : zs = [] := by
        have h1 := HZ.out
        have h2 := HB.out
        simp only [nextR] at h1
        rw [if_neg (by simp at h2; simp [h2])] at h1
        exact h1
      rw [this]
      simp [txtR, hok]
    · simpa [txtL, hok] using HI.out.back HI2.out (HO1.out.trans HO2.out (fun _ _ h => h))

theorem inText_blk (p : Nat) (v : Value) (xs : List UInt8) (bad : Bool) (w : World) (hI : InV w p v xs bad) :
    Calls Try.prog 66 #[.pointer (some ⟨p, 0, none⟩)] w (TextPostB w p v xs bad) := by
  cases bad with
  | true => exact text_bad_b p v xs w hI
  | false => exact text_good_b p v xs w hI

theorem own_inFlag {w0 w : World} {p : Nat} {xs : List UInt8} {bad : Bool} {J : Res} [Stab J] (h : Own w0 w (Sep (InR p xs bad) J)) :
    Calls Try.prog 59 #[.pointer (some ⟨p, 0, none⟩)] w fun e w' => e = .returned (.bool (flagR xs bad)) ∧ Own w0 w' (Sep (InR p (flagL xs bad) (!flagOk xs bad)) J) := by
  refine (Own.call (val := fun _ : Unit => .bool (flagR xs bad)) (Q := fun _ => InR p (flagL xs bad) (!flagOk xs bad)) h ?_).mono ?_
  · rintro F B ⟨v, hI, hF⟩ hJ hd h0
    refine (inFlag_blk p v xs bad w hI).mono ?_
    rintro e w' ⟨v', rfl, hI', ho, hs⟩
    refine ⟨(), fun k => k = p ∨ blkV v' = some k, rfl, ⟨v', hI', fun k => Iff.rfl⟩, fun k hk => .inl ((hF k).2 (hk.imp id (hs k))), ho.mono fun k _ e => (hF k).2 (.inl e)⟩
  · rintro e w' ⟨_, rfl, hq⟩
    exact ⟨rfl, hq⟩
theorem own_inText {w0 w : World} {p : Nat} {xs : List UInt8} {bad : Bool} {J : Res} [Stab J] (h : Own w0 w (Sep (InR p xs bad) J)) :
    Calls Try.prog 66 #[.pointer (some ⟨p, 0, none⟩)] w fun e w' => e = .returned (.string ⟨(txtR xs bad).toArray⟩) ∧ Own w0 w' (Sep (InR p (txtL xs bad) (!txtOk xs bad)) J) := by
  refine (Own.call (val := fun _ : Unit => .string ⟨(txtR xs bad).toArray⟩) (Q := fun _ => InR p (txtL xs bad) (!txtOk xs bad)) h ?_).mono ?_
  · rintro F B ⟨v, hI, hF⟩ hJ hd h0
    refine (inText_blk p v xs bad w hI).mono ?_
    rintro e w' ⟨v', rfl, hI', ho, hs⟩
    refine ⟨(), fun k => k = p ∨ blkV v' = some k, rfl, ⟨v', hI', fun k => Iff.rfl⟩, fun k hk => .inl ((hF k).2 (hk.imp id (hs k))), ho.mono fun k _ e => (hF k).2 (.inl e)⟩
  · rintro e w' ⟨_, rfl, hq⟩
    exact ⟨rfl, hq⟩

end Go.Proofs.Ytookbmpaoljelaa
