/-
  KeySpans: its walk.
-/
import Derived.Test.YtpedcpehomkikaaDoorKeySp3
import Derived.Deep.RegionHeld3
import Derived.Laws.StructEq
import Derived.Test.YtpedcpehomkikaaDoorKeyR1
namespace Go.Proofs.YtpedcpehomkikaaDoor
open Go Go.RowKit
set_option linter.unusedVariables false
set_option linter.unusedSimpArgs false
set_option maxRecDepth 100000

set_option maxHeartbeats 16000000 in
theorem kspans_walk {la ha lb hb s k : ByteArray} {oa ob : Bool} (hs : s.size ≤ 140737488351232) (w : World) (hT : UTab w) :
    Calls Tryd.prog 6 #[spv la ha oa, spv lb hb ob, .string s, .string k] w fun e w' => e = .returned (.bool true) ∧ Below w.heap.size w w' := by
  have HB := Lib.hid (below_2 w (.cells #[.string la, .string ha, .bool oa] 39) (.cells #[.string lb, .string hb, .bool ob] 39))
  have HC := Lib.hid (sp_two w la ha lb hb oa ob 39)
  have HT := Lib.hid (hT.keep HB.out)
  have HAF := Lib.hid (fun W => after_any s W (by omega))
  have HRA := Lib.hid (fun W => rafter_any s W (by omega))
  have HUN := Lib.hid (fun W => under_any s W (by omega))
  have HRU := Lib.hid (fun W => runder_any s W (by omega))
  clear hT hs
  obtain ⟨O, hO⟩ : ∃ x, opL s.toList = x := ⟨_, rfl⟩
  rw [hO] at HAF HRA HUN HRU
  have HO := Lib.hid hO
  clear hO
  go_enter Tryd.func6, Tryd.ntmps6
  go_wp2_with fail
  refine (kawake_any _ HT.out).mono ?_
  rintro e w1 ⟨rfl, hb1⟩
  have HA1 := Lib.hid (keep_heap HC.out.1 hb1)
  have HB1 := Lib.hid (keep_heap HC.out.2 hb1)
  have H1 := Lib.hid (HB.out.trans (hb1.mono HB.out.size))
  clear hb1 HT HC HB
  go_wp2_with fail
  refine (HAF.out _).mono ?_
  rintro e w2 ⟨t1, rfl, ht1, hb2⟩
  have HA2 := Lib.hid (keep_heap HA1.out hb2)
  have HB2 := Lib.hid (keep_heap HB1.out hb2)
  have H2 := Lib.hid (H1.out.trans (hb2.mono H1.out.size))
  have HT1 := Lib.hid ht1
  clear hb2 ht1 HA1 HB1 H1
  go_wp2_with fail
  refine (HRA.out _).mono ?_
  rintro e w3 ⟨t2, rfl, ht2, hb3⟩
  obtain rfl : t2 = t1 := ba_eq (ht2.trans HT1.out.symm)
  have HA3 := Lib.hid (keep_heap HA2.out hb3)
  have HB3 := Lib.hid (keep_heap HB2.out hb3)
  have H3 := Lib.hid (H2.out.trans (hb3.mono H2.out.size))
  clear hb3 ht2 HA2 HB2 H2
  go_wp2_with fail
  refine (HUN.out _).mono ?_
  rintro e w4 ⟨t3, rfl, ht3, hb4⟩
  obtain rfl : t3 = t2 := ba_eq (ht3.trans HT1.out.symm)
  have HA4 := Lib.hid (keep_heap HA3.out hb4)
  have HB4 := Lib.hid (keep_heap HB3.out hb4)
  have H4 := Lib.hid (H3.out.trans (hb4.mono H3.out.size))
  clear hb4 ht3 HA3 HB3 H3
  have HU5 : Hid (Sp3 w (w4.alloc (.cells #[.string s, .string t3, .bool O] 39)) w.heap.size la ha oa (w.heap.size + 1) lb hb ob w4.heap.size s t3 O) :=
    Lib.hid ⟨(Below.heap_alloc w4 _ _ (lt_of_some HA4.out)).trans HA4.out, (Below.heap_alloc w4 _ _ (lt_of_some HB4.out)).trans HB4.out, heap_alloc_new w4 _, H4.out.alloc H4.out.size _⟩
  go_upto_region 6 with fail
  generalize w4.alloc (.cells #[.string s, .string t3, .bool O] 39) = w5 at *
  generalize w4.heap.size = r at *
  generalize w.heap.size = p at HU5 ⊢
  generalize p + 1 = q at HU5 ⊢
  clear HA4 HB4 H4 HAF HRA HUN
  -- what is known of the answers
  obtain ⟨X, hX⟩ : ∃ x, inL la.toList ha.toList oa k.toList = x := ⟨_, rfl⟩
  obtain ⟨Y, hY⟩ : ∃ x, inL lb.toList hb.toList ob k.toList = x := ⟨_, rfl⟩
  obtain ⟨M, hM⟩ : ∃ x, meetL la.toList ha.toList oa lb.toList hb.toList ob = x := ⟨_, rfl⟩
  obtain ⟨G, hG⟩ : ∃ x, inL s.toList t3.toList O k.toList = x := ⟨_, rfl⟩
  have HIA := Lib.hid (fun W => in_any la ha k oa W)
  have HRIA := Lib.hid (fun W => rin_any la ha k oa W)
  have HIB := Lib.hid (fun W => in_any lb hb k ob W)
  have HMM := Lib.hid (fun W => meet_any la ha lb hb oa ob W)
  have HRM := Lib.hid (fun W => rmeet_any la ha lb hb oa ob W)
  have HMB := Lib.hid (fun W => meet_any lb hb la ha ob oa W)
  have HUK := Lib.hid (fun W => in_any s t3 k O W)
  have HUS := Lib.hid (fun W => in_any s t3 s O W)
  have HLA := Lib.hid (fun W => in_any la ha la oa W)
  have HLB := Lib.hid (fun W => in_any lb hb lb ob W)
  have hUS : inL s.toList t3.toList O s.toList = true := by rw [HT1.out, ← HO.out]; exact (under_iff _ _).2 (List.prefix_refl _)
  have HG : Hid (G = true ↔ s.toList <+: k.toList) := Lib.hid (by rw [← hG, HT1.out, ← HO.out]; exact under_iff _ _)
  have HXY : Hid (X = true → Y = true → M = true) := Lib.hid (fun h g => by rw [← hM]; exact meet_of (hX.trans h) (hY.trans g))
  have HOWN : Hid (M = true → inL la.toList ha.toList oa la.toList = true ∧ inL lb.toList hb.toList ob lb.toList = true) := Lib.hid (fun h => meet_own (hM.trans h))
  rw [meetL_comm, hM] at HMB
  rw [hX] at HIA HRIA
  rw [hY] at HIB
  rw [hM] at HMM HRM
  rw [hG] at HUK
  rw [hUS] at HUS
  clear hX hY hM hG hUS
  have HFd := Lib.hid (HU5.out.keep ((Below.refl _ _).drew))
  clear HU5
  go_region_held3 (fun w' => w'.cell? ⟨p, 0, none⟩ = some (.string la) ∧ w'.cell? ⟨p, 1, none⟩ = some (.string ha) ∧ w'.cell? ⟨p, 2, none⟩ = some (.bool oa) ∧ w'.cell? ⟨q, 0, none⟩ = some (.string lb) ∧ w'.cell? ⟨q, 1, none⟩ = some (.string hb) ∧ w'.cell? ⟨q, 2, none⟩ = some (.bool ob) ∧ w'.cell? ⟨r, 0, none⟩ = some (.string s) ∧ w'.cell? ⟨r, 1, none⟩ = some (.string t3) ∧ w'.cell? ⟨r, 2, none⟩ = some (.bool O))
    (first
      | exact HA7.out.cells
      | exact HA6.out.cells
      | exact HA5.out.cells
      | exact HA4.out.cells
      | exact HA3.out.cells
      | exact HA2.out.cells
      | exact HA1.out.cells
      | exact HFd.out.cells)
    (first
      | (go_at_call 21; (with_reducible refine (HRU.out _).mono ?_); rintro e w11 ⟨t4, rfl, ht4, ha⟩; obtain rfl : t4 = t3 := ba_eq (ht4.trans HT1.out.symm); have HA1 := Lib.hid (HFd.out.keep ha); clear ha ht4 HFd)
      | (go_at_call 16; (with_reducible refine (HIA.out _).mono ?_); rintro e w12 ⟨rfl, ha⟩; have HA2 := Lib.hid (HA1.out.keep ha); clear ha HA1)
      | (go_at_call 22; (with_reducible refine (HRIA.out _).mono ?_); rintro e w13 ⟨rfl, ha⟩; have HA3 := Lib.hid (HA2.out.keep ha); clear ha HA2)
      | (go_at_call 23; (with_reducible refine (HMM.out _).mono ?_); rintro e w14 ⟨rfl, ha⟩; have HA4 := Lib.hid (HA3.out.keep ha); clear ha HA3)
      | (go_at_call 24; (with_reducible refine (HRM.out _).mono ?_); rintro e w15 ⟨rfl, ha⟩; have HA5 := Lib.hid (HA4.out.keep ha); clear ha HA4)
      | (go_at_call 23; (with_reducible refine (HMM.out _).mono ?_); rintro e w16 ⟨rfl, ha⟩; have HA6 := Lib.hid (HA5.out.keep ha); clear ha HA5)
      | (go_at_call 23; (with_reducible refine (HMB.out _).mono ?_); rintro e w17 ⟨rfl, ha⟩; have HA7 := Lib.hid (HA6.out.keep ha); clear ha HA6))
  obtain ⟨x0, x1, x2, x3, x4, x5, x6, x7, x8⟩ := HA7.out.cells
  obtain ⟨n, hn⟩ : ∃ n, n = s.size := ⟨_, rfl⟩
  have HN := Lib.hid hn
  by_cases hle : s.size ≤ k.size
  · have hleI : (s.size : Int) ≤ (k.size : Int) := by omega
    obtain ⟨y, hy⟩ : ∃ y, k.extract 0 s.size = y := ⟨_, rfl⟩
    have hyl : y.toList = k.toList.take s.toList.length := by rw [← hy, ba_take, ba_size]
    by_cases hp : y.toList = s.toList
    · have hpb : (y.toList == s.toList) = true := by rw [hp]; simp
      obtain rfl : G = true := HG.out.2 (List.prefix_iff_eq_take.2 (by rw [← hyl, hp]))
      clear hp hyl
      go_wp2_with fail
      refine (HUK.out _).mono ?_
      rintro e v8 ⟨rfl, hb⟩
      have HA8 := Lib.hid (HA7.out.keep hb)
      clear x0 x1 x2 x3 x4 x5 x6 x7 x8
      obtain ⟨x0, x1, x2, x3, x4, x5, x6, x7, x8⟩ := HA8.out.cells
      clear hb HA7
      go_wp2_with fail
      refine (HUS.out _).mono ?_
      rintro e v9 ⟨rfl, hb⟩
      have HA9 := Lib.hid (HA8.out.keep hb)
      clear x0 x1 x2 x3 x4 x5 x6 x7 x8
      obtain ⟨x0, x1, x2, x3, x4, x5, x6, x7, x8⟩ := HA9.out.cells
      clear hb HA8
      go_wp2_with fail
      refine (HIA.out _).mono ?_
      rintro e v10 ⟨rfl, hb⟩
      have HA10 := Lib.hid (HA9.out.keep hb)
      clear x0 x1 x2 x3 x4 x5 x6 x7 x8
      obtain ⟨x0, x1, x2, x3, x4, x5, x6, x7, x8⟩ := HA10.out.cells
      clear hb HA9
      cases X with
      | true =>
        go_wp2_with fail
        refine (HIB.out _).mono ?_
        rintro e v11 ⟨rfl, hb⟩
        have HA11 := Lib.hid (HA10.out.keep hb)
        clear x0 x1 x2 x3 x4 x5 x6 x7 x8
        obtain ⟨x0, x1, x2, x3, x4, x5, x6, x7, x8⟩ := HA11.out.cells
        clear hb HA10
        cases Y with
        | true =>
          obtain rfl : M = true := by simpa using HXY.out
          go_wp2_with fail
          refine (HMM.out _).mono ?_
          rintro e v12 ⟨rfl, hb⟩
          have HA12 := Lib.hid (HA11.out.keep hb)
          clear x0 x1 x2 x3 x4 x5 x6 x7 x8
          obtain ⟨x0, x1, x2, x3, x4, x5, x6, x7, x8⟩ := HA12.out.cells
          clear hb HA11
          go_wp2_with fail
          refine (HMM.out _).mono ?_
          rintro e v13 ⟨rfl, hb⟩
          have HA13 := Lib.hid (HA12.out.keep hb)
          clear x0 x1 x2 x3 x4 x5 x6 x7 x8
          obtain ⟨x0, x1, x2, x3, x4, x5, x6, x7, x8⟩ := HA13.out.cells
          clear hb HA12
          have hl := HOWN.out (by trivial)
          rw [hl.1] at HLA
          rw [hl.2] at HLB
          clear hl
          go_wp2_with fail
          refine (HLA.out _).mono ?_
          rintro e v14 ⟨rfl, hb⟩
          have HA14 := Lib.hid (HA13.out.keep hb)
          clear x0 x1 x2 x3 x4 x5 x6 x7 x8
          obtain ⟨x0, x1, x2, x3, x4, x5, x6, x7, x8⟩ := HA14.out.cells
          clear hb HA13
          go_wp2_with fail
          refine (HLB.out _).mono ?_
          rintro e v15 ⟨rfl, hb⟩
          have HA15 := Lib.hid (HA14.out.keep hb)
          clear x0 x1 x2 x3 x4 x5 x6 x7 x8
          obtain ⟨x0, x1, x2, x3, x4, x5, x6, x7, x8⟩ := HA15.out.cells
          clear hb HA14
          go_wp2_with fail
          go_ret
          exact ⟨rfl, HA15.out.below⟩
        | false =>
          go_wp2_with fail
          refine (HMM.out _).mono ?_
          rintro e v12 ⟨rfl, hb⟩
          have HA12 := Lib.hid (HA11.out.keep hb)
          clear x0 x1 x2 x3 x4 x5 x6 x7 x8
          obtain ⟨x0, x1, x2, x3, x4, x5, x6, x7, x8⟩ := HA12.out.cells
          clear hb HA11
          cases M with
          | true =>
            have hl := HOWN.out rfl
            rw [hl.1] at HLA
            rw [hl.2] at HLB
            clear hl
            go_wp2_with fail
            refine (HLA.out _).mono ?_
            rintro e v13 ⟨rfl, hb⟩
            have HA13 := Lib.hid (HA12.out.keep hb)
            clear x0 x1 x2 x3 x4 x5 x6 x7 x8
            obtain ⟨x0, x1, x2, x3, x4, x5, x6, x7, x8⟩ := HA13.out.cells
            clear hb HA12
            go_wp2_with fail
            refine (HLB.out _).mono ?_
            rintro e v14 ⟨rfl, hb⟩
            have HA14 := Lib.hid (HA13.out.keep hb)
            clear x0 x1 x2 x3 x4 x5 x6 x7 x8
            obtain ⟨x0, x1, x2, x3, x4, x5, x6, x7, x8⟩ := HA14.out.cells
            clear hb HA13
            go_wp2_with fail
            go_ret
            exact ⟨rfl, HA14.out.below⟩
          | false =>
            go_wp2_with fail
            go_ret
            exact ⟨rfl, HA12.out.below⟩
      | false =>
        go_wp2_with fail
        refine (HMM.out _).mono ?_
        rintro e v11 ⟨rfl, hb⟩
        have HA11 := Lib.hid (HA10.out.keep hb)
        clear x0 x1 x2 x3 x4 x5 x6 x7 x8
        obtain ⟨x0, x1, x2, x3, x4, x5, x6, x7, x8⟩ := HA11.out.cells
        clear hb HA10
        cases M with
        | true =>
          have hl := HOWN.out rfl
          rw [hl.1] at HLA
          rw [hl.2] at HLB
          clear hl
          go_wp2_with fail
          refine (HLA.out _).mono ?_
          rintro e v12 ⟨rfl, hb⟩
          have HA12 := Lib.hid (HA11.out.keep hb)
          clear x0 x1 x2 x3 x4 x5 x6 x7 x8
          obtain ⟨x0, x1, x2, x3, x4, x5, x6, x7, x8⟩ := HA12.out.cells
          clear hb HA11
          go_wp2_with fail
          refine (HLB.out _).mono ?_
          rintro e v13 ⟨rfl, hb⟩
          have HA13 := Lib.hid (HA12.out.keep hb)
          clear x0 x1 x2 x3 x4 x5 x6 x7 x8
          obtain ⟨x0, x1, x2, x3, x4, x5, x6, x7, x8⟩ := HA13.out.cells
          clear hb HA12
          go_wp2_with fail
          go_ret
          exact ⟨rfl, HA13.out.below⟩
        | false =>
          go_wp2_with fail
          go_ret
          exact ⟨rfl, HA11.out.below⟩
    · have hpb : (y.toList == s.toList) = false := by simpa using hp
      obtain rfl : G = false := Bool.eq_false_iff.2 (fun h => hp (by rw [hyl]; exact (List.prefix_iff_eq_take.1 (HG.out.1 h)).symm))
      clear hp hyl
      go_wp2_with fail
      refine (HUK.out _).mono ?_
      rintro e v8 ⟨rfl, hb⟩
      have HA8 := Lib.hid (HA7.out.keep hb)
      clear x0 x1 x2 x3 x4 x5 x6 x7 x8
      obtain ⟨x0, x1, x2, x3, x4, x5, x6, x7, x8⟩ := HA8.out.cells
      clear hb HA7
      go_wp2_with fail
      refine (HUS.out _).mono ?_
      rintro e v9 ⟨rfl, hb⟩
      have HA9 := Lib.hid (HA8.out.keep hb)
      clear x0 x1 x2 x3 x4 x5 x6 x7 x8
      obtain ⟨x0, x1, x2, x3, x4, x5, x6, x7, x8⟩ := HA9.out.cells
      clear hb HA8
      go_wp2_with fail
      refine (HIA.out _).mono ?_
      rintro e v10 ⟨rfl, hb⟩
      have HA10 := Lib.hid (HA9.out.keep hb)
      clear x0 x1 x2 x3 x4 x5 x6 x7 x8
      obtain ⟨x0, x1, x2, x3, x4, x5, x6, x7, x8⟩ := HA10.out.cells
      clear hb HA9
      cases X with
      | true =>
        go_wp2_with fail
        refine (HIB.out _).mono ?_
        rintro e v11 ⟨rfl, hb⟩
        have HA11 := Lib.hid (HA10.out.keep hb)
        clear x0 x1 x2 x3 x4 x5 x6 x7 x8
        obtain ⟨x0, x1, x2, x3, x4, x5, x6, x7, x8⟩ := HA11.out.cells
        clear hb HA10
        cases Y with
        | true =>
          obtain rfl : M = true := by simpa using HXY.out
          go_wp2_with fail
          refine (HMM.out _).mono ?_
          rintro e v12 ⟨rfl, hb⟩
          have HA12 := Lib.hid (HA11.out.keep hb)
          clear x0 x1 x2 x3 x4 x5 x6 x7 x8
          obtain ⟨x0, x1, x2, x3, x4, x5, x6, x7, x8⟩ := HA12.out.cells
          clear hb HA11
          go_wp2_with fail
          refine (HMM.out _).mono ?_
          rintro e v13 ⟨rfl, hb⟩
          have HA13 := Lib.hid (HA12.out.keep hb)
          clear x0 x1 x2 x3 x4 x5 x6 x7 x8
          obtain ⟨x0, x1, x2, x3, x4, x5, x6, x7, x8⟩ := HA13.out.cells
          clear hb HA12
          have hl := HOWN.out (by trivial)
          rw [hl.1] at HLA
          rw [hl.2] at HLB
          clear hl
          go_wp2_with fail
          refine (HLA.out _).mono ?_
          rintro e v14 ⟨rfl, hb⟩
          have HA14 := Lib.hid (HA13.out.keep hb)
          clear x0 x1 x2 x3 x4 x5 x6 x7 x8
          obtain ⟨x0, x1, x2, x3, x4, x5, x6, x7, x8⟩ := HA14.out.cells
          clear hb HA13
          go_wp2_with fail
          refine (HLB.out _).mono ?_
          rintro e v15 ⟨rfl, hb⟩
          have HA15 := Lib.hid (HA14.out.keep hb)
          clear x0 x1 x2 x3 x4 x5 x6 x7 x8
          obtain ⟨x0, x1, x2, x3, x4, x5, x6, x7, x8⟩ := HA15.out.cells
          clear hb HA14
          go_wp2_with fail
          go_ret
          exact ⟨rfl, HA15.out.below⟩
        | false =>
          go_wp2_with fail
          refine (HMM.out _).mono ?_
          rintro e v12 ⟨rfl, hb⟩
          have HA12 := Lib.hid (HA11.out.keep hb)
          clear x0 x1 x2 x3 x4 x5 x6 x7 x8
          obtain ⟨x0, x1, x2, x3, x4, x5, x6, x7, x8⟩ := HA12.out.cells
          clear hb HA11
          cases M with
          | true =>
            have hl := HOWN.out rfl
            rw [hl.1] at HLA
            rw [hl.2] at HLB
            clear hl
            go_wp2_with fail
            refine (HLA.out _).mono ?_
            rintro e v13 ⟨rfl, hb⟩
            have HA13 := Lib.hid (HA12.out.keep hb)
            clear x0 x1 x2 x3 x4 x5 x6 x7 x8
            obtain ⟨x0, x1, x2, x3, x4, x5, x6, x7, x8⟩ := HA13.out.cells
            clear hb HA12
            go_wp2_with fail
            refine (HLB.out _).mono ?_
            rintro e v14 ⟨rfl, hb⟩
            have HA14 := Lib.hid (HA13.out.keep hb)
            clear x0 x1 x2 x3 x4 x5 x6 x7 x8
            obtain ⟨x0, x1, x2, x3, x4, x5, x6, x7, x8⟩ := HA14.out.cells
            clear hb HA13
            go_wp2_with fail
            go_ret
            exact ⟨rfl, HA14.out.below⟩
          | false =>
            go_wp2_with fail
            go_ret
            exact ⟨rfl, HA12.out.below⟩
      | false =>
        go_wp2_with fail
        refine (HMM.out _).mono ?_
        rintro e v11 ⟨rfl, hb⟩
        have HA11 := Lib.hid (HA10.out.keep hb)
        clear x0 x1 x2 x3 x4 x5 x6 x7 x8
        obtain ⟨x0, x1, x2, x3, x4, x5, x6, x7, x8⟩ := HA11.out.cells
        clear hb HA10
        cases M with
        | true =>
          have hl := HOWN.out rfl
          rw [hl.1] at HLA
          rw [hl.2] at HLB
          clear hl
          go_wp2_with fail
          refine (HLA.out _).mono ?_
          rintro e v12 ⟨rfl, hb⟩
          have HA12 := Lib.hid (HA11.out.keep hb)
          clear x0 x1 x2 x3 x4 x5 x6 x7 x8
          obtain ⟨x0, x1, x2, x3, x4, x5, x6, x7, x8⟩ := HA12.out.cells
          clear hb HA11
          go_wp2_with fail
          refine (HLB.out _).mono ?_
          rintro e v13 ⟨rfl, hb⟩
          have HA13 := Lib.hid (HA12.out.keep hb)
          clear x0 x1 x2 x3 x4 x5 x6 x7 x8
          obtain ⟨x0, x1, x2, x3, x4, x5, x6, x7, x8⟩ := HA13.out.cells
          clear hb HA12
          go_wp2_with fail
          go_ret
          exact ⟨rfl, HA13.out.below⟩
        | false =>
          go_wp2_with fail
          go_ret
          exact ⟨rfl, HA11.out.below⟩
  · have hleI : ¬ (s.size : Int) ≤ (k.size : Int) := by omega
    obtain rfl : G = false := Bool.eq_false_iff.2 (fun h => hle (by have := (HG.out.1 h).length_le; rw [ba_size, ba_size] at this; exact this))
    go_wp2_with fail
    refine (HUK.out _).mono ?_
    rintro e v8 ⟨rfl, hb⟩
    have HA8 := Lib.hid (HA7.out.keep hb)
    clear x0 x1 x2 x3 x4 x5 x6 x7 x8
    obtain ⟨x0, x1, x2, x3, x4, x5, x6, x7, x8⟩ := HA8.out.cells
    clear hb HA7
    go_wp2_with fail
    refine (HUS.out _).mono ?_
    rintro e v9 ⟨rfl, hb⟩
    have HA9 := Lib.hid (HA8.out.keep hb)
    clear x0 x1 x2 x3 x4 x5 x6 x7 x8
    obtain ⟨x0, x1, x2, x3, x4, x5, x6, x7, x8⟩ := HA9.out.cells
    clear hb HA8
    go_wp2_with fail
    refine (HIA.out _).mono ?_
    rintro e v10 ⟨rfl, hb⟩
    have HA10 := Lib.hid (HA9.out.keep hb)
    clear x0 x1 x2 x3 x4 x5 x6 x7 x8
    obtain ⟨x0, x1, x2, x3, x4, x5, x6, x7, x8⟩ := HA10.out.cells
    clear hb HA9
    cases X with
    | true =>
      go_wp2_with fail
      refine (HIB.out _).mono ?_
      rintro e v11 ⟨rfl, hb⟩
      have HA11 := Lib.hid (HA10.out.keep hb)
      clear x0 x1 x2 x3 x4 x5 x6 x7 x8
      obtain ⟨x0, x1, x2, x3, x4, x5, x6, x7, x8⟩ := HA11.out.cells
      clear hb HA10
      cases Y with
      | true =>
        obtain rfl : M = true := by simpa using HXY.out
        go_wp2_with fail
        refine (HMM.out _).mono ?_
        rintro e v12 ⟨rfl, hb⟩
        have HA12 := Lib.hid (HA11.out.keep hb)
        clear x0 x1 x2 x3 x4 x5 x6 x7 x8
        obtain ⟨x0, x1, x2, x3, x4, x5, x6, x7, x8⟩ := HA12.out.cells
        clear hb HA11
        go_wp2_with fail
        refine (HMM.out _).mono ?_
        rintro e v13 ⟨rfl, hb⟩
        have HA13 := Lib.hid (HA12.out.keep hb)
        clear x0 x1 x2 x3 x4 x5 x6 x7 x8
        obtain ⟨x0, x1, x2, x3, x4, x5, x6, x7, x8⟩ := HA13.out.cells
        clear hb HA12
        have hl := HOWN.out (by trivial)
        rw [hl.1] at HLA
        rw [hl.2] at HLB
        clear hl
        go_wp2_with fail
        refine (HLA.out _).mono ?_
        rintro e v14 ⟨rfl, hb⟩
        have HA14 := Lib.hid (HA13.out.keep hb)
        clear x0 x1 x2 x3 x4 x5 x6 x7 x8
        obtain ⟨x0, x1, x2, x3, x4, x5, x6, x7, x8⟩ := HA14.out.cells
        clear hb HA13
        go_wp2_with fail
        refine (HLB.out _).mono ?_
        rintro e v15 ⟨rfl, hb⟩
        have HA15 := Lib.hid (HA14.out.keep hb)
        clear x0 x1 x2 x3 x4 x5 x6 x7 x8
        obtain ⟨x0, x1, x2, x3, x4, x5, x6, x7, x8⟩ := HA15.out.cells
        clear hb HA14
        go_wp2_with fail
        go_ret
        exact ⟨rfl, HA15.out.below⟩
      | false =>
        go_wp2_with fail
        refine (HMM.out _).mono ?_
        rintro e v12 ⟨rfl, hb⟩
        have HA12 := Lib.hid (HA11.out.keep hb)
        clear x0 x1 x2 x3 x4 x5 x6 x7 x8
        obtain ⟨x0, x1, x2, x3, x4, x5, x6, x7, x8⟩ := HA12.out.cells
        clear hb HA11
        cases M with
        | true =>
          have hl := HOWN.out rfl
          rw [hl.1] at HLA
          rw [hl.2] at HLB
          clear hl
          go_wp2_with fail
          refine (HLA.out _).mono ?_
          rintro e v13 ⟨rfl, hb⟩
          have HA13 := Lib.hid (HA12.out.keep hb)
          clear x0 x1 x2 x3 x4 x5 x6 x7 x8
          obtain ⟨x0, x1, x2, x3, x4, x5, x6, x7, x8⟩ := HA13.out.cells
          clear hb HA12
          go_wp2_with fail
          refine (HLB.out _).mono ?_
          rintro e v14 ⟨rfl, hb⟩
          have HA14 := Lib.hid (HA13.out.keep hb)
          clear x0 x1 x2 x3 x4 x5 x6 x7 x8
          obtain ⟨x0, x1, x2, x3, x4, x5, x6, x7, x8⟩ := HA14.out.cells
          clear hb HA13
          go_wp2_with fail
          go_ret
          exact ⟨rfl, HA14.out.below⟩
        | false =>
          go_wp2_with fail
          go_ret
          exact ⟨rfl, HA12.out.below⟩
    | false =>
      go_wp2_with fail
      refine (HMM.out _).mono ?_
      rintro e v11 ⟨rfl, hb⟩
      have HA11 := Lib.hid (HA10.out.keep hb)
      clear x0 x1 x2 x3 x4 x5 x6 x7 x8
      obtain ⟨x0, x1, x2, x3, x4, x5, x6, x7, x8⟩ := HA11.out.cells
      clear hb HA10
      cases M with
      | true =>
        have hl := HOWN.out rfl
        rw [hl.1] at HLA
        rw [hl.2] at HLB
        clear hl
        go_wp2_with fail
        refine (HLA.out _).mono ?_
        rintro e v12 ⟨rfl, hb⟩
        have HA12 := Lib.hid (HA11.out.keep hb)
        clear x0 x1 x2 x3 x4 x5 x6 x7 x8
        obtain ⟨x0, x1, x2, x3, x4, x5, x6, x7, x8⟩ := HA12.out.cells
        clear hb HA11
        go_wp2_with fail
        refine (HLB.out _).mono ?_
        rintro e v13 ⟨rfl, hb⟩
        have HA13 := Lib.hid (HA12.out.keep hb)
        clear x0 x1 x2 x3 x4 x5 x6 x7 x8
        obtain ⟨x0, x1, x2, x3, x4, x5, x6, x7, x8⟩ := HA13.out.cells
        clear hb HA12
        go_wp2_with fail
        go_ret
        exact ⟨rfl, HA13.out.below⟩
      | false =>
        go_wp2_with fail
        go_ret
        exact ⟨rfl, HA11.out.below⟩

end Go.Proofs.YtpedcpehomkikaaDoor
