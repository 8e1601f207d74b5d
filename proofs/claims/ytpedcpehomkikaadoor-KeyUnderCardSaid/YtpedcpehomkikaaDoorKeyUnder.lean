/-
  KeyUnder: its walk.
-/
import Derived.Test.YtpedcpehomkikaaDoorKeySp3
namespace Go.Proofs.YtpedcpehomkikaaDoor
open Go Go.RowKit
set_option linter.unusedVariables false
set_option linter.unusedSimpArgs false
set_option maxRecDepth 100000

set_option maxHeartbeats 16000000 in
theorem kunder_walk {s t k : ByteArray} (hs : s.size ≤ 140737488351232) (ht : t.size ≤ 140737488351232) (w : World) (hT : UTab w) :
    Calls Tryd.prog 8 #[.string s, .string t, .string k] w fun e w' => e = .returned (.bool true) ∧ Below w.heap.size w w' := by
  have HT := Lib.hid hT
  have HC1 := Lib.hid (fun W => under_any s W (by omega))
  have HC2 := Lib.hid (fun W => under_any t W (by omega))
  have HST : Hid ((s ++ t).toList = s.toList ++ t.toList) := Lib.hid (ba_append s t)
  have hsz : (s ++ t).size = s.size + t.size := by rw [← ba_size, HST.out, List.length_append, ba_size, ba_size]
  have HC3 := Lib.hid (fun W => under_any (s ++ t) W (by omega))
  have HAF := Lib.hid (fun W => after_any s W (by omega))
  have hcat : ¬ 9223372036854775807 < s.size + t.size := by omega
  clear hT hs ht
  obtain ⟨c, hc⟩ : ∃ c, s ++ t = c := ⟨_, rfl⟩
  have HCE := Lib.hid hc
  rw [hc] at HC3 HST
  clear hsz
  obtain ⟨O1, hO1⟩ : ∃ x, opL s.toList = x := ⟨_, rfl⟩
  obtain ⟨O2, hO2⟩ : ∃ x, opL t.toList = x := ⟨_, rfl⟩
  obtain ⟨O3, hO3⟩ : ∃ x, opL c.toList = x := ⟨_, rfl⟩
  have HO1 := Lib.hid hO1
  have HO2 := Lib.hid hO2
  have HO3 := Lib.hid hO3
  rw [hO1] at HC1 HAF
  rw [hO2] at HC2
  rw [hO3] at HC3
  clear hO1 hO2 hO3
  go_enter Tryd.func8, Tryd.ntmps8
  go_wp2_with fail
  refine (kawake_any _ HT.out).mono ?_
  rintro e w1 ⟨rfl, hb1⟩
  have H1 := Lib.hid hb1
  clear hb1 HT
  go_wp2_with fail
  refine (HC1.out _).mono ?_
  rintro e w2 ⟨h1, rfl, hh1, hb2⟩
  have H2 := Lib.hid (H1.out.trans (hb2.mono H1.out.size))
  have HH1 := Lib.hid hh1
  clear hb2 hh1
  go_wp2_with fail
  refine (HC2.out _).mono ?_
  rintro e w3 ⟨h2, rfl, hh2, hb3⟩
  have HA3 := Lib.hid (keep_heap (heap_alloc_new w2 (.cells #[.string s, .string h1, .bool O1] 39)) hb3)
  have H3 := Lib.hid ((H2.out.alloc H2.out.size _).trans (hb3.mono (H2.out.alloc H2.out.size _).size))
  have HH2 := Lib.hid hh2
  generalize w2.heap.size = p at *
  clear hb3 hh2
  go_wp2_with fail
  refine (HC3.out _).mono ?_
  rintro e w4 ⟨h3, rfl, hh3, hb4⟩
  have HB4 := Lib.hid (keep_heap (heap_alloc_new w3 (.cells #[.string t, .string h2, .bool O2] 39)) hb4)
  have HA4 := Lib.hid (keep_heap ((Below.heap_alloc w3 (.cells #[.string t, .string h2, .bool O2] 39) _ (lt_of_some HA3.out)).trans HA3.out) hb4)
  have H4 := Lib.hid ((H3.out.alloc H3.out.size _).trans (hb4.mono (H3.out.alloc H3.out.size _).size))
  have HH3 := Lib.hid hh3
  generalize w3.heap.size = q at *
  clear hb4 hh3 HA3
  have HU5 : Hid (Sp3 w (w4.alloc (.cells #[.string c, .string h3, .bool O3] 39)) p s h1 O1 q t h2 O2 w4.heap.size c h3 O3) :=
    Lib.hid ⟨(Below.heap_alloc w4 _ _ (lt_of_some HA4.out)).trans HA4.out, (Below.heap_alloc w4 _ _ (lt_of_some HB4.out)).trans HB4.out, heap_alloc_new w4 _, H4.out.alloc H4.out.size _⟩
  go_upto_region 6 with fail
  generalize w4.alloc (.cells #[.string c, .string h3, .bool O3] 39) = w5 at *
  generalize w4.heap.size = r at *
  clear HA4 HB4 H1 H2 H3 H4
  -- what is known of the answers
  obtain ⟨MAB, hMAB⟩ : ∃ x, meetL s.toList h1.toList O1 t.toList h2.toList O2 = x := ⟨_, rfl⟩
  obtain ⟨X, hX⟩ : ∃ x, inL c.toList h3.toList O3 k.toList = x := ⟨_, rfl⟩
  obtain ⟨Y, hY⟩ : ∃ x, inL s.toList h1.toList O1 k.toList = x := ⟨_, rfl⟩
  obtain ⟨Z, hZ⟩ : ∃ x, inL t.toList h2.toList O2 k.toList = x := ⟨_, rfl⟩
  have hMAC : meetL s.toList h1.toList O1 c.toList h3.toList O3 = true := by
    rw [HH1.out, HH3.out, ← HO1.out, ← HO3.out]
    exact under_meet c.toList (by rw [HST.out]; exact pre_l _ _) (List.prefix_refl _)
  have hMAA : meetL s.toList h1.toList O1 s.toList h1.toList O1 = true := by
    rw [HH1.out, ← HO1.out]
    exact under_meet s.toList (List.prefix_refl _) (List.prefix_refl _)
  have HCAB := Lib.hid (fun W => meet_any s h1 t h2 O1 O2 W)
  have HCAC := Lib.hid (fun W => meet_any s h1 c h3 O1 O3 W)
  have HCAA := Lib.hid (fun W => meet_any s h1 s h1 O1 O1 W)
  have HCCK := Lib.hid (fun W => in_any c h3 k O3 W)
  have HCAK := Lib.hid (fun W => in_any s h1 k O1 W)
  have HCBK := Lib.hid (fun W => in_any t h2 k O2 W)
  have HCAS := Lib.hid (fun W => in_any s h1 c O1 W)
  have hAS : inL s.toList h1.toList O1 c.toList = true := by
    rw [HH1.out, ← HO1.out]
    exact (under_iff _ _).2 (by rw [HST.out]; exact pre_l _ _)
  rw [hMAB] at HCAB
  rw [hMAC] at HCAC
  rw [hMAA] at HCAA
  rw [hX] at HCCK
  rw [hY] at HCAK
  rw [hZ] at HCBK
  rw [hAS] at HCAS
  have HXY : Hid (X = true → Y = true) := Lib.hid (fun h => by
    rw [← hX, HH3.out, ← HO3.out, under_iff, HST.out] at h
    rw [← hY, HH1.out, ← HO1.out, under_iff]
    exact (pre_l _ _).trans h)
  have HYZ : Hid (Y = true → Z = true → MAB = true) := Lib.hid (fun h g => by
    rw [← hMAB]
    exact meet_of (hY.trans h) (hZ.trans g))
  have HAP : Hid (s.size = t.size → s ≠ t → MAB = false) := Lib.hid (fun h g => by
    rw [← hMAB, HH1.out, HH2.out, ← HO1.out, ← HO2.out]
    exact under_apart (by rw [ba_size, ba_size, h]) (fun e => g (ba_eq e)))
  have HOUT : Hid (∀ x : ByteArray, x.toList = hiL s.toList → O1 = false → inL s.toList h1.toList O1 x.toList = false ∧ Op.bytesLess x.toList s.toList = false ∧ (x.toList == s.toList) = false) := Lib.hid (fun x hx ho => by
    have he : afterL s.toList = some x.toList := by
      have h := HO1.out
      rw [ho] at h
      unfold opL at h
      cases ha : afterL s.toList with
      | none => rw [ha] at h; cases h
      | some y => rw [hx]; unfold hiL; rw [ha]; rfl
    have hg := after_gt he
    refine ⟨?_, ?_, ?_⟩
    · rw [HH1.out, ← HO1.out]
      exact after_out he
    · rw [less_bcmp, hg]; rfl
    · rw [eq_bcmp, hg]; rfl)
  clear hMAB hX hY hZ hMAC hMAA hAS
  obtain ⟨x0, x1, x2, x3, x4, x5, x6, x7, x8⟩ := HU5.out.cells
  by_cases hl : (s.size : Int) = (t.size : Int)
  · have hlb : ((s.size : Int) == (t.size : Int)) = true := by simpa using hl
    by_cases he : s = t
    · have heb : (s.toList == t.toList) = true := by rw [he]; simp
      clear hl
      have HE := Lib.hid he
      clear he
      go_wp2_with fail
      refine (HCAC.out _).mono ?_
      rintro e w6 ⟨rfl, hb⟩
      have HU6 := Lib.hid (HU5.out.keep hb)
      obtain ⟨x0, x1, x2, x3, x4, x5, x6, x7, x8⟩ := HU6.out.cells
      clear hb HU5
      go_wp2_with fail
      refine (HCAA.out _).mono ?_
      rintro e w7 ⟨rfl, hb⟩
      have HU7 := Lib.hid (HU6.out.keep hb)
      obtain ⟨x0, x1, x2, x3, x4, x5, x6, x7, x8⟩ := HU7.out.cells
      clear hb HU6
      go_wp2_with fail
      refine (HCCK.out _).mono ?_
      rintro e w8 ⟨rfl, hb⟩
      have HU8 := Lib.hid (HU7.out.keep hb)
      obtain ⟨x0, x1, x2, x3, x4, x5, x6, x7, x8⟩ := HU8.out.cells
      clear hb HU7
      cases X with
      | true =>
        obtain rfl : Y = true := HXY.out rfl
        go_wp2_with fail
        refine (HCAK.out _).mono ?_
        rintro e w9 ⟨rfl, hb⟩
        have HU9 := Lib.hid (HU8.out.keep hb)
        obtain ⟨x0, x1, x2, x3, x4, x5, x6, x7, x8⟩ := HU9.out.cells
        clear hb HU8
        go_wp2_with fail
        refine (HCAK.out _).mono ?_
        rintro e w10 ⟨rfl, hb⟩
        have HU10 := Lib.hid (HU9.out.keep hb)
        obtain ⟨x0, x1, x2, x3, x4, x5, x6, x7, x8⟩ := HU10.out.cells
        clear hb HU9
        go_wp2_with fail
        refine (HCBK.out _).mono ?_
        rintro e w11 ⟨rfl, hb⟩
        have HU11 := Lib.hid (HU10.out.keep hb)
        obtain ⟨x0, x1, x2, x3, x4, x5, x6, x7, x8⟩ := HU11.out.cells
        clear hb HU10
        cases Z with
        | true =>
          obtain rfl : MAB = true := by simpa using HYZ.out
          go_wp2_with fail
          refine (HCAB.out _).mono ?_
          rintro e w12 ⟨rfl, hb⟩
          have HU12 := Lib.hid (HU11.out.keep hb)
          obtain ⟨x0, x1, x2, x3, x4, x5, x6, x7, x8⟩ := HU12.out.cells
          clear hb HU11
          go_wp2_with fail
          refine (HAF.out _).mono ?_
          rintro e w13 ⟨x, rfl, hx, hb⟩
          have HU13 := Lib.hid (HU12.out.keep hb)
          clear x0 x1 x2 x3 x4 x5 x6 x7 x8
          obtain ⟨x0, x1, x2, x3, x4, x5, x6, x7, x8⟩ := HU13.out.cells
          have HX := Lib.hid hx
          clear hb HU12 hx
          cases O1 with
          | true =>
            go_wp2_with fail
            go_ret
            exact ⟨rfl, HU13.out.below⟩
          | false =>
            obtain ⟨i1, i2, i3⟩ := HOUT.out x HX.out rfl
            have HCAX := Lib.hid (fun W => in_any s h1 x false W)
            rw [i1] at HCAX
            clear i1
            go_wp2_with fail
            refine (HCAX.out _).mono ?_
            rintro e w14 ⟨rfl, hb⟩
            have HU14 := Lib.hid (HU13.out.keep hb)
            obtain ⟨x0, x1, x2, x3, x4, x5, x6, x7, x8⟩ := HU14.out.cells
            clear hb HU13
            have hc2 := HCE.out
            go_wp2_with fail
            refine (HCAS.out _).mono ?_
            rintro e w15 ⟨rfl, hb⟩
            have HU15 := Lib.hid (HU14.out.keep hb)
            obtain ⟨x0, x1, x2, x3, x4, x5, x6, x7, x8⟩ := HU15.out.cells
            clear hb HU14
            go_wp2_with fail
            go_ret
            exact ⟨rfl, HU15.out.below⟩
        | false =>
          go_wp2_with fail
          refine (HAF.out _).mono ?_
          rintro e w12 ⟨x, rfl, hx, hb⟩
          have HU12 := Lib.hid (HU11.out.keep hb)
          clear x0 x1 x2 x3 x4 x5 x6 x7 x8
          obtain ⟨x0, x1, x2, x3, x4, x5, x6, x7, x8⟩ := HU12.out.cells
          have HX := Lib.hid hx
          clear hb HU11 hx
          cases O1 with
          | true =>
            go_wp2_with fail
            go_ret
            exact ⟨rfl, HU12.out.below⟩
          | false =>
            obtain ⟨i1, i2, i3⟩ := HOUT.out x HX.out rfl
            have HCAX := Lib.hid (fun W => in_any s h1 x false W)
            rw [i1] at HCAX
            clear i1
            go_wp2_with fail
            refine (HCAX.out _).mono ?_
            rintro e w13 ⟨rfl, hb⟩
            have HU13 := Lib.hid (HU12.out.keep hb)
            obtain ⟨x0, x1, x2, x3, x4, x5, x6, x7, x8⟩ := HU13.out.cells
            clear hb HU12
            have hc2 := HCE.out
            go_wp2_with fail
            refine (HCAS.out _).mono ?_
            rintro e w14 ⟨rfl, hb⟩
            have HU14 := Lib.hid (HU13.out.keep hb)
            obtain ⟨x0, x1, x2, x3, x4, x5, x6, x7, x8⟩ := HU14.out.cells
            clear hb HU13
            go_wp2_with fail
            go_ret
            exact ⟨rfl, HU14.out.below⟩
      | false =>
        go_wp2_with fail
        refine (HCAK.out _).mono ?_
        rintro e w9 ⟨rfl, hb⟩
        have HU9 := Lib.hid (HU8.out.keep hb)
        obtain ⟨x0, x1, x2, x3, x4, x5, x6, x7, x8⟩ := HU9.out.cells
        clear hb HU8
        cases Y with
        | true =>
          go_wp2_with fail
          refine (HCBK.out _).mono ?_
          rintro e w10 ⟨rfl, hb⟩
          have HU10 := Lib.hid (HU9.out.keep hb)
          obtain ⟨x0, x1, x2, x3, x4, x5, x6, x7, x8⟩ := HU10.out.cells
          clear hb HU9
          cases Z with
          | true =>
            obtain rfl : MAB = true := by simpa using HYZ.out
            go_wp2_with fail
            refine (HCAB.out _).mono ?_
            rintro e w11 ⟨rfl, hb⟩
            have HU11 := Lib.hid (HU10.out.keep hb)
            obtain ⟨x0, x1, x2, x3, x4, x5, x6, x7, x8⟩ := HU11.out.cells
            clear hb HU10
            go_wp2_with fail
            refine (HAF.out _).mono ?_
            rintro e w12 ⟨x, rfl, hx, hb⟩
            have HU12 := Lib.hid (HU11.out.keep hb)
            clear x0 x1 x2 x3 x4 x5 x6 x7 x8
            obtain ⟨x0, x1, x2, x3, x4, x5, x6, x7, x8⟩ := HU12.out.cells
            have HX := Lib.hid hx
            clear hb HU11 hx
            cases O1 with
            | true =>
              go_wp2_with fail
              go_ret
              exact ⟨rfl, HU12.out.below⟩
            | false =>
              obtain ⟨i1, i2, i3⟩ := HOUT.out x HX.out rfl
              have HCAX := Lib.hid (fun W => in_any s h1 x false W)
              rw [i1] at HCAX
              clear i1
              go_wp2_with fail
              refine (HCAX.out _).mono ?_
              rintro e w13 ⟨rfl, hb⟩
              have HU13 := Lib.hid (HU12.out.keep hb)
              obtain ⟨x0, x1, x2, x3, x4, x5, x6, x7, x8⟩ := HU13.out.cells
              clear hb HU12
              have hc2 := HCE.out
              go_wp2_with fail
              refine (HCAS.out _).mono ?_
              rintro e w14 ⟨rfl, hb⟩
              have HU14 := Lib.hid (HU13.out.keep hb)
              obtain ⟨x0, x1, x2, x3, x4, x5, x6, x7, x8⟩ := HU14.out.cells
              clear hb HU13
              go_wp2_with fail
              go_ret
              exact ⟨rfl, HU14.out.below⟩
          | false =>
            go_wp2_with fail
            refine (HAF.out _).mono ?_
            rintro e w11 ⟨x, rfl, hx, hb⟩
            have HU11 := Lib.hid (HU10.out.keep hb)
            clear x0 x1 x2 x3 x4 x5 x6 x7 x8
            obtain ⟨x0, x1, x2, x3, x4, x5, x6, x7, x8⟩ := HU11.out.cells
            have HX := Lib.hid hx
            clear hb HU10 hx
            cases O1 with
            | true =>
              go_wp2_with fail
              go_ret
              exact ⟨rfl, HU11.out.below⟩
            | false =>
              obtain ⟨i1, i2, i3⟩ := HOUT.out x HX.out rfl
              have HCAX := Lib.hid (fun W => in_any s h1 x false W)
              rw [i1] at HCAX
              clear i1
              go_wp2_with fail
              refine (HCAX.out _).mono ?_
              rintro e w12 ⟨rfl, hb⟩
              have HU12 := Lib.hid (HU11.out.keep hb)
              obtain ⟨x0, x1, x2, x3, x4, x5, x6, x7, x8⟩ := HU12.out.cells
              clear hb HU11
              have hc2 := HCE.out
              go_wp2_with fail
              refine (HCAS.out _).mono ?_
              rintro e w13 ⟨rfl, hb⟩
              have HU13 := Lib.hid (HU12.out.keep hb)
              obtain ⟨x0, x1, x2, x3, x4, x5, x6, x7, x8⟩ := HU13.out.cells
              clear hb HU12
              go_wp2_with fail
              go_ret
              exact ⟨rfl, HU13.out.below⟩
        | false =>
          go_wp2_with fail
          refine (HAF.out _).mono ?_
          rintro e w10 ⟨x, rfl, hx, hb⟩
          have HU10 := Lib.hid (HU9.out.keep hb)
          clear x0 x1 x2 x3 x4 x5 x6 x7 x8
          obtain ⟨x0, x1, x2, x3, x4, x5, x6, x7, x8⟩ := HU10.out.cells
          have HX := Lib.hid hx
          clear hb HU9 hx
          cases O1 with
          | true =>
            go_wp2_with fail
            go_ret
            exact ⟨rfl, HU10.out.below⟩
          | false =>
            obtain ⟨i1, i2, i3⟩ := HOUT.out x HX.out rfl
            have HCAX := Lib.hid (fun W => in_any s h1 x false W)
            rw [i1] at HCAX
            clear i1
            go_wp2_with fail
            refine (HCAX.out _).mono ?_
            rintro e w11 ⟨rfl, hb⟩
            have HU11 := Lib.hid (HU10.out.keep hb)
            obtain ⟨x0, x1, x2, x3, x4, x5, x6, x7, x8⟩ := HU11.out.cells
            clear hb HU10
            have hc2 := HCE.out
            go_wp2_with fail
            refine (HCAS.out _).mono ?_
            rintro e w12 ⟨rfl, hb⟩
            have HU12 := Lib.hid (HU11.out.keep hb)
            obtain ⟨x0, x1, x2, x3, x4, x5, x6, x7, x8⟩ := HU12.out.cells
            clear hb HU11
            go_wp2_with fail
            go_ret
            exact ⟨rfl, HU12.out.below⟩
    · have heb : (s.toList == t.toList) = false := by simpa using fun e => he (ba_eq e)
      obtain rfl : MAB = false := HAP.out (by omega) he
      clear hl he
      go_wp2_with fail
      refine (HCAB.out _).mono ?_
      rintro e w6 ⟨rfl, hb⟩
      have HU6 := Lib.hid (HU5.out.keep hb)
      obtain ⟨x0, x1, x2, x3, x4, x5, x6, x7, x8⟩ := HU6.out.cells
      clear hb HU5
      go_wp2_with fail
      refine (HCAC.out _).mono ?_
      rintro e w7 ⟨rfl, hb⟩
      have HU7 := Lib.hid (HU6.out.keep hb)
      obtain ⟨x0, x1, x2, x3, x4, x5, x6, x7, x8⟩ := HU7.out.cells
      clear hb HU6
      go_wp2_with fail
      refine (HCAA.out _).mono ?_
      rintro e w8 ⟨rfl, hb⟩
      have HU8 := Lib.hid (HU7.out.keep hb)
      obtain ⟨x0, x1, x2, x3, x4, x5, x6, x7, x8⟩ := HU8.out.cells
      clear hb HU7
      go_wp2_with fail
      refine (HCCK.out _).mono ?_
      rintro e w9 ⟨rfl, hb⟩
      have HU9 := Lib.hid (HU8.out.keep hb)
      obtain ⟨x0, x1, x2, x3, x4, x5, x6, x7, x8⟩ := HU9.out.cells
      clear hb HU8
      cases X with
      | true =>
        obtain rfl : Y = true := HXY.out rfl
        go_wp2_with fail
        refine (HCAK.out _).mono ?_
        rintro e w10 ⟨rfl, hb⟩
        have HU10 := Lib.hid (HU9.out.keep hb)
        obtain ⟨x0, x1, x2, x3, x4, x5, x6, x7, x8⟩ := HU10.out.cells
        clear hb HU9
        go_wp2_with fail
        refine (HCAK.out _).mono ?_
        rintro e w11 ⟨rfl, hb⟩
        have HU11 := Lib.hid (HU10.out.keep hb)
        obtain ⟨x0, x1, x2, x3, x4, x5, x6, x7, x8⟩ := HU11.out.cells
        clear hb HU10
        go_wp2_with fail
        refine (HCBK.out _).mono ?_
        rintro e w12 ⟨rfl, hb⟩
        have HU12 := Lib.hid (HU11.out.keep hb)
        obtain ⟨x0, x1, x2, x3, x4, x5, x6, x7, x8⟩ := HU12.out.cells
        clear hb HU11
        cases Z with
        | true => exact absurd HYZ.out (by simp)
        | false =>
          go_wp2_with fail
          refine (HAF.out _).mono ?_
          rintro e w13 ⟨x, rfl, hx, hb⟩
          have HU13 := Lib.hid (HU12.out.keep hb)
          clear x0 x1 x2 x3 x4 x5 x6 x7 x8
          obtain ⟨x0, x1, x2, x3, x4, x5, x6, x7, x8⟩ := HU13.out.cells
          have HX := Lib.hid hx
          clear hb HU12 hx
          cases O1 with
          | true =>
            go_wp2_with fail
            go_ret
            exact ⟨rfl, HU13.out.below⟩
          | false =>
            obtain ⟨i1, i2, i3⟩ := HOUT.out x HX.out rfl
            have HCAX := Lib.hid (fun W => in_any s h1 x false W)
            rw [i1] at HCAX
            clear i1
            go_wp2_with fail
            refine (HCAX.out _).mono ?_
            rintro e w14 ⟨rfl, hb⟩
            have HU14 := Lib.hid (HU13.out.keep hb)
            obtain ⟨x0, x1, x2, x3, x4, x5, x6, x7, x8⟩ := HU14.out.cells
            clear hb HU13
            have hc2 := HCE.out
            go_wp2_with fail
            refine (HCAS.out _).mono ?_
            rintro e w15 ⟨rfl, hb⟩
            have HU15 := Lib.hid (HU14.out.keep hb)
            obtain ⟨x0, x1, x2, x3, x4, x5, x6, x7, x8⟩ := HU15.out.cells
            clear hb HU14
            go_wp2_with fail
            go_ret
            exact ⟨rfl, HU15.out.below⟩
      | false =>
        go_wp2_with fail
        refine (HCAK.out _).mono ?_
        rintro e w10 ⟨rfl, hb⟩
        have HU10 := Lib.hid (HU9.out.keep hb)
        obtain ⟨x0, x1, x2, x3, x4, x5, x6, x7, x8⟩ := HU10.out.cells
        clear hb HU9
        cases Y with
        | true =>
          go_wp2_with fail
          refine (HCBK.out _).mono ?_
          rintro e w11 ⟨rfl, hb⟩
          have HU11 := Lib.hid (HU10.out.keep hb)
          obtain ⟨x0, x1, x2, x3, x4, x5, x6, x7, x8⟩ := HU11.out.cells
          clear hb HU10
          cases Z with
          | true => exact absurd HYZ.out (by simp)
          | false =>
            go_wp2_with fail
            refine (HAF.out _).mono ?_
            rintro e w12 ⟨x, rfl, hx, hb⟩
            have HU12 := Lib.hid (HU11.out.keep hb)
            clear x0 x1 x2 x3 x4 x5 x6 x7 x8
            obtain ⟨x0, x1, x2, x3, x4, x5, x6, x7, x8⟩ := HU12.out.cells
            have HX := Lib.hid hx
            clear hb HU11 hx
            cases O1 with
            | true =>
              go_wp2_with fail
              go_ret
              exact ⟨rfl, HU12.out.below⟩
            | false =>
              obtain ⟨i1, i2, i3⟩ := HOUT.out x HX.out rfl
              have HCAX := Lib.hid (fun W => in_any s h1 x false W)
              rw [i1] at HCAX
              clear i1
              go_wp2_with fail
              refine (HCAX.out _).mono ?_
              rintro e w13 ⟨rfl, hb⟩
              have HU13 := Lib.hid (HU12.out.keep hb)
              obtain ⟨x0, x1, x2, x3, x4, x5, x6, x7, x8⟩ := HU13.out.cells
              clear hb HU12
              have hc2 := HCE.out
              go_wp2_with fail
              refine (HCAS.out _).mono ?_
              rintro e w14 ⟨rfl, hb⟩
              have HU14 := Lib.hid (HU13.out.keep hb)
              obtain ⟨x0, x1, x2, x3, x4, x5, x6, x7, x8⟩ := HU14.out.cells
              clear hb HU13
              go_wp2_with fail
              go_ret
              exact ⟨rfl, HU14.out.below⟩
        | false =>
          go_wp2_with fail
          refine (HAF.out _).mono ?_
          rintro e w11 ⟨x, rfl, hx, hb⟩
          have HU11 := Lib.hid (HU10.out.keep hb)
          clear x0 x1 x2 x3 x4 x5 x6 x7 x8
          obtain ⟨x0, x1, x2, x3, x4, x5, x6, x7, x8⟩ := HU11.out.cells
          have HX := Lib.hid hx
          clear hb HU10 hx
          cases O1 with
          | true =>
            go_wp2_with fail
            go_ret
            exact ⟨rfl, HU11.out.below⟩
          | false =>
            obtain ⟨i1, i2, i3⟩ := HOUT.out x HX.out rfl
            have HCAX := Lib.hid (fun W => in_any s h1 x false W)
            rw [i1] at HCAX
            clear i1
            go_wp2_with fail
            refine (HCAX.out _).mono ?_
            rintro e w12 ⟨rfl, hb⟩
            have HU12 := Lib.hid (HU11.out.keep hb)
            obtain ⟨x0, x1, x2, x3, x4, x5, x6, x7, x8⟩ := HU12.out.cells
            clear hb HU11
            have hc2 := HCE.out
            go_wp2_with fail
            refine (HCAS.out _).mono ?_
            rintro e w13 ⟨rfl, hb⟩
            have HU13 := Lib.hid (HU12.out.keep hb)
            obtain ⟨x0, x1, x2, x3, x4, x5, x6, x7, x8⟩ := HU13.out.cells
            clear hb HU12
            go_wp2_with fail
            go_ret
            exact ⟨rfl, HU13.out.below⟩
  · have hlb : ((s.size : Int) == (t.size : Int)) = false := by simpa using hl
    clear hl
    go_wp2_with fail
    refine (HCAC.out _).mono ?_
    rintro e w6 ⟨rfl, hb⟩
    have HU6 := Lib.hid (HU5.out.keep hb)
    obtain ⟨x0, x1, x2, x3, x4, x5, x6, x7, x8⟩ := HU6.out.cells
    clear hb HU5
    go_wp2_with fail
    refine (HCAA.out _).mono ?_
    rintro e w7 ⟨rfl, hb⟩
    have HU7 := Lib.hid (HU6.out.keep hb)
    obtain ⟨x0, x1, x2, x3, x4, x5, x6, x7, x8⟩ := HU7.out.cells
    clear hb HU6
    go_wp2_with fail
    refine (HCCK.out _).mono ?_
    rintro e w8 ⟨rfl, hb⟩
    have HU8 := Lib.hid (HU7.out.keep hb)
    obtain ⟨x0, x1, x2, x3, x4, x5, x6, x7, x8⟩ := HU8.out.cells
    clear hb HU7
    cases X with
    | true =>
      obtain rfl : Y = true := HXY.out rfl
      go_wp2_with fail
      refine (HCAK.out _).mono ?_
      rintro e w9 ⟨rfl, hb⟩
      have HU9 := Lib.hid (HU8.out.keep hb)
      obtain ⟨x0, x1, x2, x3, x4, x5, x6, x7, x8⟩ := HU9.out.cells
      clear hb HU8
      go_wp2_with fail
      refine (HCAK.out _).mono ?_
      rintro e w10 ⟨rfl, hb⟩
      have HU10 := Lib.hid (HU9.out.keep hb)
      obtain ⟨x0, x1, x2, x3, x4, x5, x6, x7, x8⟩ := HU10.out.cells
      clear hb HU9
      go_wp2_with fail
      refine (HCBK.out _).mono ?_
      rintro e w11 ⟨rfl, hb⟩
      have HU11 := Lib.hid (HU10.out.keep hb)
      obtain ⟨x0, x1, x2, x3, x4, x5, x6, x7, x8⟩ := HU11.out.cells
      clear hb HU10
      cases Z with
      | true =>
        obtain rfl : MAB = true := by simpa using HYZ.out
        go_wp2_with fail
        refine (HCAB.out _).mono ?_
        rintro e w12 ⟨rfl, hb⟩
        have HU12 := Lib.hid (HU11.out.keep hb)
        obtain ⟨x0, x1, x2, x3, x4, x5, x6, x7, x8⟩ := HU12.out.cells
        clear hb HU11
        go_wp2_with fail
        refine (HAF.out _).mono ?_
        rintro e w13 ⟨x, rfl, hx, hb⟩
        have HU13 := Lib.hid (HU12.out.keep hb)
        clear x0 x1 x2 x3 x4 x5 x6 x7 x8
        obtain ⟨x0, x1, x2, x3, x4, x5, x6, x7, x8⟩ := HU13.out.cells
        have HX := Lib.hid hx
        clear hb HU12 hx
        cases O1 with
        | true =>
          go_wp2_with fail
          go_ret
          exact ⟨rfl, HU13.out.below⟩
        | false =>
          obtain ⟨i1, i2, i3⟩ := HOUT.out x HX.out rfl
          have HCAX := Lib.hid (fun W => in_any s h1 x false W)
          rw [i1] at HCAX
          clear i1
          go_wp2_with fail
          refine (HCAX.out _).mono ?_
          rintro e w14 ⟨rfl, hb⟩
          have HU14 := Lib.hid (HU13.out.keep hb)
          obtain ⟨x0, x1, x2, x3, x4, x5, x6, x7, x8⟩ := HU14.out.cells
          clear hb HU13
          have hc2 := HCE.out
          go_wp2_with fail
          refine (HCAS.out _).mono ?_
          rintro e w15 ⟨rfl, hb⟩
          have HU15 := Lib.hid (HU14.out.keep hb)
          obtain ⟨x0, x1, x2, x3, x4, x5, x6, x7, x8⟩ := HU15.out.cells
          clear hb HU14
          go_wp2_with fail
          go_ret
          exact ⟨rfl, HU15.out.below⟩
      | false =>
        go_wp2_with fail
        refine (HAF.out _).mono ?_
        rintro e w12 ⟨x, rfl, hx, hb⟩
        have HU12 := Lib.hid (HU11.out.keep hb)
        clear x0 x1 x2 x3 x4 x5 x6 x7 x8
        obtain ⟨x0, x1, x2, x3, x4, x5, x6, x7, x8⟩ := HU12.out.cells
        have HX := Lib.hid hx
        clear hb HU11 hx
        cases O1 with
        | true =>
          go_wp2_with fail
          go_ret
          exact ⟨rfl, HU12.out.below⟩
        | false =>
          obtain ⟨i1, i2, i3⟩ := HOUT.out x HX.out rfl
          have HCAX := Lib.hid (fun W => in_any s h1 x false W)
          rw [i1] at HCAX
          clear i1
          go_wp2_with fail
          refine (HCAX.out _).mono ?_
          rintro e w13 ⟨rfl, hb⟩
          have HU13 := Lib.hid (HU12.out.keep hb)
          obtain ⟨x0, x1, x2, x3, x4, x5, x6, x7, x8⟩ := HU13.out.cells
          clear hb HU12
          have hc2 := HCE.out
          go_wp2_with fail
          refine (HCAS.out _).mono ?_
          rintro e w14 ⟨rfl, hb⟩
          have HU14 := Lib.hid (HU13.out.keep hb)
          obtain ⟨x0, x1, x2, x3, x4, x5, x6, x7, x8⟩ := HU14.out.cells
          clear hb HU13
          go_wp2_with fail
          go_ret
          exact ⟨rfl, HU14.out.below⟩
    | false =>
      go_wp2_with fail
      refine (HCAK.out _).mono ?_
      rintro e w9 ⟨rfl, hb⟩
      have HU9 := Lib.hid (HU8.out.keep hb)
      obtain ⟨x0, x1, x2, x3, x4, x5, x6, x7, x8⟩ := HU9.out.cells
      clear hb HU8
      cases Y with
      | true =>
        go_wp2_with fail
        refine (HCBK.out _).mono ?_
        rintro e w10 ⟨rfl, hb⟩
        have HU10 := Lib.hid (HU9.out.keep hb)
        obtain ⟨x0, x1, x2, x3, x4, x5, x6, x7, x8⟩ := HU10.out.cells
        clear hb HU9
        cases Z with
        | true =>
          obtain rfl : MAB = true := by simpa using HYZ.out
          go_wp2_with fail
          refine (HCAB.out _).mono ?_
          rintro e w11 ⟨rfl, hb⟩
          have HU11 := Lib.hid (HU10.out.keep hb)
          obtain ⟨x0, x1, x2, x3, x4, x5, x6, x7, x8⟩ := HU11.out.cells
          clear hb HU10
          go_wp2_with fail
          refine (HAF.out _).mono ?_
          rintro e w12 ⟨x, rfl, hx, hb⟩
          have HU12 := Lib.hid (HU11.out.keep hb)
          clear x0 x1 x2 x3 x4 x5 x6 x7 x8
          obtain ⟨x0, x1, x2, x3, x4, x5, x6, x7, x8⟩ := HU12.out.cells
          have HX := Lib.hid hx
          clear hb HU11 hx
          cases O1 with
          | true =>
            go_wp2_with fail
            go_ret
            exact ⟨rfl, HU12.out.below⟩
          | false =>
            obtain ⟨i1, i2, i3⟩ := HOUT.out x HX.out rfl
            have HCAX := Lib.hid (fun W => in_any s h1 x false W)
            rw [i1] at HCAX
            clear i1
            go_wp2_with fail
            refine (HCAX.out _).mono ?_
            rintro e w13 ⟨rfl, hb⟩
            have HU13 := Lib.hid (HU12.out.keep hb)
            obtain ⟨x0, x1, x2, x3, x4, x5, x6, x7, x8⟩ := HU13.out.cells
            clear hb HU12
            have hc2 := HCE.out
            go_wp2_with fail
            refine (HCAS.out _).mono ?_
            rintro e w14 ⟨rfl, hb⟩
            have HU14 := Lib.hid (HU13.out.keep hb)
            obtain ⟨x0, x1, x2, x3, x4, x5, x6, x7, x8⟩ := HU14.out.cells
            clear hb HU13
            go_wp2_with fail
            go_ret
            exact ⟨rfl, HU14.out.below⟩
        | false =>
          go_wp2_with fail
          refine (HAF.out _).mono ?_
          rintro e w11 ⟨x, rfl, hx, hb⟩
          have HU11 := Lib.hid (HU10.out.keep hb)
          clear x0 x1 x2 x3 x4 x5 x6 x7 x8
          obtain ⟨x0, x1, x2, x3, x4, x5, x6, x7, x8⟩ := HU11.out.cells
          have HX := Lib.hid hx
          clear hb HU10 hx
          cases O1 with
          | true =>
            go_wp2_with fail
            go_ret
            exact ⟨rfl, HU11.out.below⟩
          | false =>
            obtain ⟨i1, i2, i3⟩ := HOUT.out x HX.out rfl
            have HCAX := Lib.hid (fun W => in_any s h1 x false W)
            rw [i1] at HCAX
            clear i1
            go_wp2_with fail
            refine (HCAX.out _).mono ?_
            rintro e w12 ⟨rfl, hb⟩
            have HU12 := Lib.hid (HU11.out.keep hb)
            obtain ⟨x0, x1, x2, x3, x4, x5, x6, x7, x8⟩ := HU12.out.cells
            clear hb HU11
            have hc2 := HCE.out
            go_wp2_with fail
            refine (HCAS.out _).mono ?_
            rintro e w13 ⟨rfl, hb⟩
            have HU13 := Lib.hid (HU12.out.keep hb)
            obtain ⟨x0, x1, x2, x3, x4, x5, x6, x7, x8⟩ := HU13.out.cells
            clear hb HU12
            go_wp2_with fail
            go_ret
            exact ⟨rfl, HU13.out.below⟩
      | false =>
        go_wp2_with fail
        refine (HAF.out _).mono ?_
        rintro e w10 ⟨x, rfl, hx, hb⟩
        have HU10 := Lib.hid (HU9.out.keep hb)
        clear x0 x1 x2 x3 x4 x5 x6 x7 x8
        obtain ⟨x0, x1, x2, x3, x4, x5, x6, x7, x8⟩ := HU10.out.cells
        have HX := Lib.hid hx
        clear hb HU9 hx
        cases O1 with
        | true =>
          go_wp2_with fail
          go_ret
          exact ⟨rfl, HU10.out.below⟩
        | false =>
          obtain ⟨i1, i2, i3⟩ := HOUT.out x HX.out rfl
          have HCAX := Lib.hid (fun W => in_any s h1 x false W)
          rw [i1] at HCAX
          clear i1
          go_wp2_with fail
          refine (HCAX.out _).mono ?_
          rintro e w11 ⟨rfl, hb⟩
          have HU11 := Lib.hid (HU10.out.keep hb)
          obtain ⟨x0, x1, x2, x3, x4, x5, x6, x7, x8⟩ := HU11.out.cells
          clear hb HU10
          have hc2 := HCE.out
          go_wp2_with fail
          refine (HCAS.out _).mono ?_
          rintro e w12 ⟨rfl, hb⟩
          have HU12 := Lib.hid (HU11.out.keep hb)
          obtain ⟨x0, x1, x2, x3, x4, x5, x6, x7, x8⟩ := HU12.out.cells
          clear hb HU11
          go_wp2_with fail
          go_ret
          exact ⟨rfl, HU12.out.below⟩

end Go.Proofs.YtpedcpehomkikaaDoor
