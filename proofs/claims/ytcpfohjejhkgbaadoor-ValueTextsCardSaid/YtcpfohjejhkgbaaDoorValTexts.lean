/-
  ValueTexts: its walk.
-/
import Derived.Test.YtcpfohjejhkgbaaDoorValG2
import Derived.Test.YtcpfohjejhkgbaaDoorValG3
import Derived.Test.YtcpfohjejhkgbaaDoorValG4
import Derived.Test.YtcpfohjejhkgbaaDoorValOrder
namespace Go.Proofs.YtcpfohjejhkgbaaDoor
open Go Go.RowKit
set_option linter.unusedVariables false
set_option linter.unusedSimpArgs false
set_option maxRecDepth 100000

theorem guess_any (s : ByteArray) (hs : s.size ≤ 140737488351232) (w : World) :
    Calls Tryd.prog 19 #[.string s] w fun e w' => GuessRet s w e w' := by
  by_cases h1 : s.toList = tTrue
  · exact guess_true s h1 w
  by_cases h2 : s.toList = tFalse
  · exact guess_false s h2 w
  by_cases h3 : s.toList = tNull
  · exact guess_null s h3 w
  have hsz := ba_size s
  by_cases h0 : 0 < s.size
  · have hh : s.toList.head? = some (s[0]'h0) := by rw [head_of s h0]; rfl
    by_cases hx : (s[0]'h0) = 120
    · exact guess_x s hs h0 hx w
    · by_cases hq : (s[0]'h0) = 34 ∧ 1 < s.size
      · exact guess_q s hs hq.2 hq.1 w
      · refine guess_numb s hs h3 h1 h2 ?_ ?_ w
        · rw [hh]
          intro e
          exact hx (Option.some.inj e)
        · by_cases h34 : (s[0]'h0) = 34
          · right
            rw [hsz]
            have : ¬ 1 < s.size := fun h => hq ⟨h34, h⟩
            omega
          · left
            rw [hh]
            intro e
            exact h34 (Option.some.inj e)
  · have he : s.toList = [] := List.eq_nil_of_length_eq_zero (by omega)
    exact guess_numb s hs h3 h1 h2 (by rw [he]; simp) (by rw [he]; simp) w
theorem rparse_any (s : ByteArray) (hs : s.size ≤ 140737488351232) (w : World) :
    Calls Tryd.prog 7 #[.string s] w fun e w' => ParseRet s w e w' := rparse_of s (fun W => guess_any s hs W) w
theorem str_of' {l : List UInt8} {t : ByteArray} (h : l = t.toList) : (⟨l.toArray⟩ : ByteArray) = t := ba_eq (by rw [ba_mk1 l, h])
theorem vparse_ok {s : List UInt8} {v : Vl} (h : (v, (0 : Int)) = vparse s) : vtext v = s := by
  unfold vparse at h
  by_cases hc : s = [] ∨ vtext (guess s) ≠ s
  · rw [if_pos hc] at h
    simp at h
  · rw [if_neg hc] at h
    simp only [Prod.mk.injEq, and_true] at h
    rw [h]
    exact Decidable.byContradiction fun e => hc (.inr e)

set_option maxHeartbeats 8000000 in
theorem texts_walk {K N : Int} {S s : ByteArray} (hN : U64 N) (hs : s.size ≤ 140737488351232) (w : World) (hT : Tabs w) :
    Calls Tryd.prog 3 #[vlv K N S, .string s] w fun e w' => e = .returned (.bool true) ∧ Below w.heap.size w w' := by
  have HB := Lib.hid ((Below.refl w.heap.size w).alloc (Nat.le_refl _) (.cells #[.int .i64 K, .int .u64 N, .string S] 24))
  have HT0 := Lib.hid (hT.keep HB.out)
  have HV := Lib.hid (At3.new w K N S 24)
  have HN := Lib.hid hN
  have HS := Lib.hid hs
  obtain ⟨X, hX⟩ : ∃ X : ByteArray, (⟨(vtext (vl K N S)).toArray⟩ : ByteArray) = X := ⟨_, rfl⟩
  have HX : Hid (X.toList = vtext (vl K N S)) := Lib.hid (by rw [← hX, ba_mk1 (vtext (vl K N S))])
  have HTX : Hid (∀ W, Tabs W → Calls Tryd.prog 5 #[vlv K N S] W fun e w' => e = .returned (.string X) ∧ Below W.heap.size W w') := Lib.hid (fun W hW => by
    have h := text_any (K := K) (s := S) hN W hW
    rw [hX] at h
    exact h)
  have HRX : Hid (∀ W, Calls Tryd.prog 8 #[vlv K N S] W fun e w' => e = .returned (.string X) ∧ Below W.heap.size W w') := Lib.hid (fun W => by
    have h := rtext_any (K := K) (s := S) hN W
    rw [hX] at h
    exact h)
  obtain ⟨B, hB⟩ : ∃ B, (vl K N S).okB = B := ⟨_, rfl⟩
  have HOK := Lib.hid hB
  have HVA : Hid (∀ W, Tabs W → Calls Tryd.prog 9 #[vlv K N S] W fun e w' => e = .returned (.bool B) ∧ Below W.heap.size W w') := Lib.hid (fun W hW => by
    have h := valid_any (K := K) (s := S) hN W hW
    rw [hB] at h
    exact h)
  clear hN hs hT hX hB
  go_enter Tryd.func3, Tryd.ntmps3
  go_wp2_with fail
  refine (awake_any _ HT0.out).mono ?_
  rintro e w1 ⟨rfl, hb1⟩
  have HV1 := Lib.hid (HV.out.keep hb1)
  have HT1 := Lib.hid (HT0.out.keep hb1)
  have H1 := Lib.hid (HB.out.trans (hb1.mono HB.out.size))
  obtain ⟨p, hp⟩ : ∃ p, p = w.heap.size := ⟨_, rfl⟩
  rw [← hp] at HV1 ⊢
  have HP := Lib.hid hp
  obtain ⟨c0, c1, c2⟩ := HV1.out
  clear hb1 HT0 HV HB hp
  go_wp2_with fail
  refine (HTX.out _ HT1.out).mono ?_
  rintro e w2 ⟨rfl, hb2⟩
  have HV2 := Lib.hid (HV1.out.keep hb2)
  have HT2 := Lib.hid (HT1.out.keep hb2)
  have H2 := Lib.hid (H1.out.trans (hb2.mono H1.out.size))
  clear hb2 HT1 HV1 H1 c0 c1 c2
  go_wp2_with fail
  refine (parse_any s w2 HT2.out).mono ?_
  rintro e w3 ⟨L, M, T, er, rfl, hM, hv3, hb3⟩
  have HV3 := Lib.hid (HV2.out.keep hb3)
  have HT3 := Lib.hid (HT2.out.keep hb3)
  have H3 := Lib.hid (H2.out.trans (hb3.mono H2.out.size))
  have HM := Lib.hid hM
  have HP3 := Lib.hid hv3
  clear hb3 HT2 HV2 H2 hM hv3
  have HY := Lib.hid (At3.new w3 L M T 24)
  have HV4 := Lib.hid (HV3.out.alloc (.cells #[.int .i64 L, .int .u64 M, .string T] 24))
  have hb4 := (Below.refl w3.heap.size w3).alloc (Nat.le_refl _) (.cells #[.int .i64 L, .int .u64 M, .string T] 24)
  have HT4 := Lib.hid (HT3.out.keep hb4)
  have H4 := Lib.hid (H3.out.trans (hb4.mono H3.out.size))
  clear hb4 HT3 HV3 H3
  go_wp2_with fail
  generalize w3.alloc (.cells #[.int .i64 L, .int .u64 M, .string T] 24) = w4 at *
  generalize w3.heap.size = q at *
  refine (rparse_any s HS.out w4).mono ?_
  rintro e w5 ⟨L2, M2, T2, er2, rfl, hM2, hv5, hb5⟩
  have he := hv5.trans HP3.out.symm
  simp only [Prod.mk.injEq] at he
  obtain ⟨he1, rfl⟩ := he
  obtain ⟨rfl, rfl, rfl⟩ := vl_inj hM2 HM.out (by simpa using he1)
  have HV5 := Lib.hid (HV4.out.keep hb5)
  have HY5 := Lib.hid (HY.out.keep hb5)
  have HT5 := Lib.hid (HT4.out.keep hb5)
  have H5 := Lib.hid (H4.out.trans (hb5.mono H4.out.size))
  clear hb5 HT4 HV4 HY H4 hM2 hv5 he1
  have HR := Lib.hid (At3.new w5 L2 M2 T2 24)
  have HV6 := Lib.hid (HV5.out.alloc (.cells #[.int .i64 L2, .int .u64 M2, .string T2] 24))
  have HY6 := Lib.hid (HY5.out.alloc (.cells #[.int .i64 L2, .int .u64 M2, .string T2] 24))
  have hb6 := (Below.refl w5.heap.size w5).alloc (Nat.le_refl _) (.cells #[.int .i64 L2, .int .u64 M2, .string T2] 24)
  have HT6 := Lib.hid (HT5.out.keep hb6)
  have H6 := Lib.hid (H5.out.trans (hb6.mono H5.out.size))
  clear hb6 HT5 HV5 HY5 H5
  go_upto_region 6 with fail
  generalize w5.alloc (.cells #[.int .i64 L2, .int .u64 M2, .string T2] 24) = w6 at *
  generalize w5.heap.size = r at *
  obtain ⟨c0, c1, c2⟩ := HV6.out
  go_wp2_with fail
  refine (HRX.out w6).mono ?_
  rintro e w7 ⟨rfl, hb7⟩
  have HV7 := Lib.hid (HV6.out.keep hb7)
  have HY7 := Lib.hid (HY6.out.keep hb7)
  have HR7 := Lib.hid (HR.out.keep hb7)
  have HT7 := Lib.hid (HT6.out.keep hb7)
  have H7 := Lib.hid (H6.out.trans (hb7.mono H6.out.size))
  clear hb7 HT6 HV6 HY6 HR H6 c0 c1 c2
  obtain ⟨c0, c1, c2⟩ := HV7.out
  obtain ⟨d0, d1, d2⟩ := HY7.out
  obtain ⟨e0, e1, e2⟩ := HR7.out
  have tail : True := trivial
  by_cases h0 : er2 = 0
  · subst h0
    have HTS := Lib.hid (vparse_ok HP3.out)
    have HTM : Hid (∀ W, Tabs W → Calls Tryd.prog 5 #[vlv L2 M2 T2] W fun e w' => e = .returned (.string s) ∧ Below W.heap.size W w') := Lib.hid (fun W hW => by
      have h := text_any (K := L2) (s := T2) HM.out W hW
      rw [str_of' HTS.out] at h
      exact h)
    go_wp2_with fail
    refine (HTM.out w7 HT7.out).mono ?_
    rintro e w8 ⟨rfl, hb8⟩
    have HV8 := Lib.hid (HV7.out.keep hb8)
    have HT8 := Lib.hid (HT7.out.keep hb8)
    have H8 := Lib.hid (H7.out.trans (hb8.mono H7.out.size))
    clear hb8 HT7 HV7 HY7 HR7 H7 c0 c1 c2 d0 d1 d2 e0 e1 e2
    go_wp2_with fail
    refine (parse_any X w8 HT8.out).mono ?_
    rintro e w9 ⟨L3, M3, T3, er3, rfl, hM3, hv9, hb9⟩
    clear tail
    have HV9 := Lib.hid (HV8.out.keep hb9)
    have HT9 := Lib.hid (HT8.out.keep hb9)
    have H9 := Lib.hid (H8.out.trans (hb9.mono H8.out.size))
    have HP9 : Hid ((vl L3 M3 T3, er3) = vparse (vtext (vl K N S))) := Lib.hid (by rw [← HX.out]; exact hv9)
    have HM3 := Lib.hid hM3
    clear hb9 HT8 HV8 H8 hM3 hv9
    have HZ := Lib.hid (At3.new w9 L3 M3 T3 24)
    have HV10 := Lib.hid (HV9.out.alloc (.cells #[.int .i64 L3, .int .u64 M3, .string T3] 24))
    have hb10 := (Below.refl w9.heap.size w9).alloc (Nat.le_refl _) (.cells #[.int .i64 L3, .int .u64 M3, .string T3] 24)
    have HT10 := Lib.hid (HT9.out.keep hb10)
    have H10 := Lib.hid (H9.out.trans (hb10.mono H9.out.size))
    clear hb10 HT9 HV9 H9
    go_upto_region 11 with fail
    generalize w9.alloc (.cells #[.int .i64 L3, .int .u64 M3, .string T3] 24) = w10 at *
    generalize w9.heap.size = u at *
    obtain ⟨c0, c1, c2⟩ := HV10.out
    go_wp2_with fail
    refine (HVA.out w10 HT10.out).mono ?_
    rintro e w11 ⟨rfl, hb11⟩
    have HV11 := Lib.hid (HV10.out.keep hb11)
    have HZ11 := Lib.hid (HZ.out.keep hb11)
    have H11 := Lib.hid (H10.out.trans (hb11.mono H10.out.size))
    clear hb11 HT10 HV10 HZ H10 c0 c1 c2
    obtain ⟨c0, c1, c2⟩ := HV11.out
    obtain ⟨d0, d1, d2⟩ := HZ11.out
    cases B with
    | false =>
      have hXe : X = ⟨#[]⟩ := ba_eq (by rw [HX.out, (vtext_nil _).2 HOK.out, ba_nil])
      subst hXe
      go_wp2_with fail
      go_ret
      exact ⟨rfl, by rw [← HP.out] at *; exact H11.out⟩
    | true =>
      have hp9 := HP9.out
      rw [vparse_text HOK.out (u64_m HN.out) rfl] at hp9
      simp only [Prod.mk.injEq] at hp9
      obtain ⟨hp9, rfl⟩ := hp9
      obtain ⟨rfl, rfl, rfl⟩ := vl_inj HM3.out HN.out (by simpa using hp9)
      clear hp9
      go_wp2_with fail
      go_ret
      exact ⟨rfl, by rw [← HP.out] at *; exact H11.out⟩
  · have h0b : (er2 == 0) = false := by simpa using h0
    have HV8 := HV7
    have HT8 := HT7
    have H8 := H7
    clear h0
    go_wp2_with fail
    refine (parse_any X w7 HT8.out).mono ?_
    rintro e w9 ⟨L3, M3, T3, er3, rfl, hM3, hv9, hb9⟩
    clear tail HV7 HY7 HR7 HT7 H7 c0 c1 c2 d0 d1 d2 e0 e1 e2 h0b
    have HV9 := Lib.hid (HV8.out.keep hb9)
    have HT9 := Lib.hid (HT8.out.keep hb9)
    have H9 := Lib.hid (H8.out.trans (hb9.mono H8.out.size))
    have HP9 : Hid ((vl L3 M3 T3, er3) = vparse (vtext (vl K N S))) := Lib.hid (by rw [← HX.out]; exact hv9)
    have HM3 := Lib.hid hM3
    clear hb9 HT8 HV8 H8 hM3 hv9
    have HZ := Lib.hid (At3.new w9 L3 M3 T3 24)
    have HV10 := Lib.hid (HV9.out.alloc (.cells #[.int .i64 L3, .int .u64 M3, .string T3] 24))
    have hb10 := (Below.refl w9.heap.size w9).alloc (Nat.le_refl _) (.cells #[.int .i64 L3, .int .u64 M3, .string T3] 24)
    have HT10 := Lib.hid (HT9.out.keep hb10)
    have H10 := Lib.hid (H9.out.trans (hb10.mono H9.out.size))
    clear hb10 HT9 HV9 H9
    go_upto_region 11 with fail
    generalize w9.alloc (.cells #[.int .i64 L3, .int .u64 M3, .string T3] 24) = w10 at *
    generalize w9.heap.size = u at *
    obtain ⟨c0, c1, c2⟩ := HV10.out
    go_wp2_with fail
    refine (HVA.out w10 HT10.out).mono ?_
    rintro e w11 ⟨rfl, hb11⟩
    have HV11 := Lib.hid (HV10.out.keep hb11)
    have HZ11 := Lib.hid (HZ.out.keep hb11)
    have H11 := Lib.hid (H10.out.trans (hb11.mono H10.out.size))
    clear hb11 HT10 HV10 HZ H10 c0 c1 c2
    obtain ⟨c0, c1, c2⟩ := HV11.out
    obtain ⟨d0, d1, d2⟩ := HZ11.out
    cases B with
    | false =>
      have hXe : X = ⟨#[]⟩ := ba_eq (by rw [HX.out, (vtext_nil _).2 HOK.out, ba_nil])
      subst hXe
      go_wp2_with fail
      go_ret
      exact ⟨rfl, by rw [← HP.out] at *; exact H11.out⟩
    | true =>
      have hp9 := HP9.out
      rw [vparse_text HOK.out (u64_m HN.out) rfl] at hp9
      simp only [Prod.mk.injEq] at hp9
      obtain ⟨hp9, rfl⟩ := hp9
      obtain ⟨rfl, rfl, rfl⟩ := vl_inj HM3.out HN.out (by simpa using hp9)
      clear hp9
      go_wp2_with fail
      go_ret
      exact ⟨rfl, by rw [← HP.out] at *; exact H11.out⟩

end Go.Proofs.YtcpfohjejhkgbaaDoor
