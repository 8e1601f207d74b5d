/-
  ValueNumbers: its walk.
-/
import Derived.Test.YtjkblmkgiiciaaaDoorValOrder
namespace Go.Proofs.YtjkblmkgiiciaaaDoor
open Go Go.RowKit
set_option linter.unusedVariables false
set_option linter.unusedSimpArgs false
set_option maxRecDepth 100000

theorem vcmp_num {k a b : Int} (hk : k = 1 ∨ k = 2) (ha : U64 a) (hb : U64 b) : vcmp (vl k a ⟨#[]⟩) (vl k b ⟨#[]⟩) = zcmp (if k = 1 then sgn a.toNat else a) (if k = 1 then sgn b.toNat else b) := by
  rw [vcmp_iff _ _ (u64_m ha) (u64_m hb)]
  rw [if_neg (by simp), if_neg (by simp)]
  have h0 := ha.lo
  have h1 := hb.lo
  have e : bcmp (ByteArray.mk #[]).toList (ByteArray.mk #[]).toList = 0 := bcmp_self _
  rcases hk with rfl | rfl
  · simp only [ordN, if_true, if_pos]
    unfold zcmp
    rw [e]
  · simp only [ordN, if_neg (show ¬ (2 : Int) = 1 by decide)]
    rw [Int.toNat_of_nonneg h0, Int.toNat_of_nonneg h1]
    unfold zcmp
    rw [e]
/-- What the law reckons of the digits in front of place k. -/
def NumAt (l : List UInt8) (k : Nat) (n : Int) : Prop := n = ((numM (l.take k) : Nat) : Int)

theorem wrap64_i {n : Int} (h : -9223372036854775808 ≤ n ∧ n ≤ 9223372036854775807) : wrap64 n = n := by unfold wrap64; omega
theorem ba_front (s : ByteArray) (k : Nat) : (s.extract 0 k).toList = s.toList.take k := by
  rw [ByteArray.toList_eq, ByteArray.toList_eq]; simp [ByteArray.data_extract]
set_option maxHeartbeats 8000000 in
theorem numbers_walk {a b : Int} (ha : U64 a) (hb : U64 b) (w : World) (hT : Tabs w) :
    Calls Tryd.prog 7 #[.int .u64 a, .int .u64 b] w fun e w' => e = .returned (.bool true) ∧ Below w.heap.size w w' := by
  have HT := Lib.hid hT
  clear hT
  obtain ⟨m, hm⟩ : ∃ m, sgn a.toNat = m := ⟨_, rfl⟩
  obtain ⟨n, hn⟩ : ∃ n, sgn b.toNat = n := ⟨_, rfl⟩
  have wm : wrap64 a = m := (conv_sgn ha).trans hm
  have wn : wrap64 b = n := (conv_sgn hb).trans hn
  have HX : Hid (vcmp (vl 1 a ⟨#[]⟩) (vl 1 b ⟨#[]⟩) = zcmp m n) := Lib.hid (by rw [vcmp_num (.inl rfl) ha hb, if_pos rfl, if_pos rfl, hm, hn])
  have HY : Hid (vcmp (vl 2 a ⟨#[]⟩) (vl 2 b ⟨#[]⟩) = zcmp a b) := Lib.hid (by rw [vcmp_num (.inr rfl) ha hb, if_neg (by decide), if_neg (by decide)])
  obtain ⟨zx, hzx⟩ : ∃ zx : Int, zcmp m n = zx := ⟨_, rfl⟩
  obtain ⟨zy, hzy⟩ : ∃ zy : Int, zcmp a b = zy := ⟨_, rfl⟩
  rw [hzx] at HX
  rw [hzy] at HY
  have HZX := Lib.hid hzx
  have HZY := Lib.hid hzy
  clear hzx hzy
  have HINJ : Hid (m = n ↔ a = b) := Lib.hid (by
    rw [← hm, ← hn]
    constructor
    · intro h
      have := sgn_inj (show a.toNat < 18446744073709551616 from u64_m ha) (show b.toNat < 18446744073709551616 from u64_m hb) h
      have := ha.lo; have := hb.lo; omega
    · rintro rfl; rfl)
  have HM := Lib.hid hm
  clear hm hn
  go_enter Tryd.func7, Tryd.ntmps7
  go_wp2_with fail
  refine (awake_any _ HT.out).mono ?_
  rintro e w1 ⟨rfl, hb1⟩
  have HT1 := Lib.hid (HT.out.keep hb1)
  have H1 := Lib.hid hb1
  clear hb1
  go_wp2_with fail
  refine (cmp_any ha hb _).mono ?_
  rintro e w2 ⟨rfl, hb2⟩
  rw [HX.out]
  have HT2 := Lib.hid (HT1.out.keep hb2)
  have H2 := Lib.hid (H1.out.trans (hb2.mono H1.out.size))
  clear hb2
  go_wp2_with fail
  refine (cmp_any ha hb _).mono ?_
  rintro e w3 ⟨rfl, hb3⟩
  rw [HY.out]
  have HT3 := Lib.hid (HT2.out.keep hb3)
  have H3 := Lib.hid (H2.out.trans (hb3.mono H2.out.size))
  clear hb3
  go_upto_region 5 with fail
  go_cut [54] (fun s wx => s = .bool false ∧ Hid (wx = w3))
  case first =>
    have hwx : w3 = w3 := rfl
    by_cases heq : a = b
    · have hmn := HINJ.out.2 heq
      have hzx : zx = 0 := by rw [← HZX.out]; exact zcmp_eq hmn
      have hzy : zy = 0 := by rw [← HZY.out]; exact zcmp_eq heq
      clear HX HY HZX HZY
      subst hzx
      subst hzy
      subst heq
      subst hmn
      clear wn
      go_wp2_with fail
      go_meet
      exact ⟨rfl, rfl⟩
    · have hmn : m ≠ n := fun h => heq (HINJ.out.1 h)
      have hab : (a == b) = false := by simpa using heq
      have h1 : m < n ∨ (¬ m < n ∧ n < m) := by omega
      have h2 : a < b ∨ (¬ a < b ∧ b < a) := by omega
      clear heq hmn
      rcases h1 with h1 | ⟨h1, h1'⟩ <;> rcases h2 with h2 | ⟨h2, h2'⟩
      all_goals
        first
          | have hzx : zx = -1 := by rw [← HZX.out]; exact zcmp_lt h1
          | have hzx : zx = 1 := by rw [← HZX.out]; exact zcmp_gt h1'
        first
          | have hzy : zy = -1 := by rw [← HZY.out]; exact zcmp_lt h2
          | have hzy : zy = 1 := by rw [← HZY.out]; exact zcmp_gt h2'
        clear HX HY HZX HZY
        subst hzx
        subst hzy
        go_wp2_with fail
        go_meet
        exact ⟨rfl, rfl⟩
  case rest =>
    obtain ⟨rfl, hwx⟩ := hcut
    have hwx := hwx.out
    subst hwx
    obtain ⟨L, hL⟩ : ∃ L, dig a.toNat = L := ⟨_, rfl⟩
    have hT2 : vtext (vl 2 a ⟨#[]⟩) = L ++ [117] := by
      rw [← hL]
      exact vt2 (by show Vl.okB ⟨2, a.toNat, (ByteArray.mk #[]).toList⟩ = true; rw [ba_nil]; rfl)
    obtain ⟨y, hy⟩ : ∃ y : ByteArray, (⟨(vtext (vl 2 a ⟨#[]⟩)).toArray⟩ : ByteArray) = y := ⟨_, rfl⟩
    have hyl : y.toList = L ++ [117] := by rw [← hy, ba_mk1 (vtext (vl 2 a ⟨#[]⟩)), hT2]
    have hL1 : 1 ≤ L.length := by
      have := dig_ne a.toNat
      rw [hL] at this
      cases L with
      | nil => exact absurd rfl this
      | cons => simp
    have hys : y.size = L.length + 1 := by rw [← ba_size, hyl]; simp
    have hL20 : L.length ≤ 20 := by rw [← hL]; exact dig_len20 (by have := u64_m ha; omega)
    have HDG : Hid (∀ c ∈ L, 48 ≤ c.toNat ∧ c.toNat ≤ 57) := Lib.hid (by rw [← hL]; exact dig_all _)
    have HNUM : Hid (((numM L : Nat) : Int) = a) := Lib.hid (by rw [← hL, numM_dig _ (u64_m ha), Int.toNat_of_nonneg ha.lo])
    have HTY := Lib.hid (fun W hW => text_any (K := 2) (N := a) (s := ⟨#[]⟩) ha W hW)
    rw [hy] at HTY
    have hix : ∀ W, (Instr.index 9 (.string y) (.int .i64 ((y.size : Int) - 1))).run Tryd.prog W = .ok (.int .u8 117) W := fun W => by
      rw [run_index_string W _ _ _ _ Tryd.underlying9, dif_pos ⟨by omega, by omega⟩]
      have hk : ((y.size : Int) - 1).toNat = L.length := by omega
      have h2 := ba_get y L.length (by omega)
      rw [hyl, List.getElem?_append_right (Nat.le_refl _)] at h2
      simp only [Nat.sub_self, List.getElem?_cons_zero, Option.some.injEq] at h2
      simp only [hk]
      rw [← h2]
      rfl
    have hwr : wrap64 ((y.size : Int) - 1) = (y.size : Int) - 1 := wrap64_i (by omega)
    have hin : 0 ≤ wrap64 ((y.size : Int) - 1) ∧ wrap64 ((y.size : Int) - 1) < (y.size : Int) := by rw [hwr]; omega
    have hix' : ∀ W, (Instr.index 9 (.string y) (.int .i64 (wrap64 ((y.size : Int) - 1)))).run Tryd.prog W = .ok (.int .u8 117) W := fun W => by rw [hwr]; exact hix W
    have hge : ¬ (y.size : Int) < 2 := by omega
    have HYL := Lib.hid hyl
    clear HX HY
    have HYS := Lib.hid hys
    have HL1 := Lib.hid hL1
    have HL20 := Lib.hid hL20
    have HLE := Lib.hid hL
    clear hy hyl hT2 hL1 hys hL20 hL
    go_wp2_with fail
    refine (HTY.out _ HT3.out).mono ?_
    rintro e w4 ⟨rfl, hb4⟩
    have HT4 := Lib.hid (HT3.out.keep hb4)
    have H4 := Lib.hid (H3.out.trans (hb4.mono H3.out.size))
    clear hb4
    go_wp2_with fail
    go_loop [8, 9] (fun n8 i => ∃ (k : Nat) (v : Int), k ≤ L.length ∧ i = .int .i64 k ∧ n8 = .int .u64 v ∧ Hid (v = ((numM (L.take k) : Nat) : Int))) (fun _ i => L.length - (intOf i).toNat)
    case atStart => exact ⟨0, 0, Nat.zero_le _, rfl, rfl, Lib.hid rfl⟩
    case round =>
      obtain ⟨k, v, hk, rfl, rfl, HV⟩ := hrel
      by_cases hlt : k < L.length
      · have hky : k < y.size := by have := HYS.out; omega
        obtain ⟨z, hz⟩ : ∃ z : Int, ((y[k]'hky).toNat : Int) = z := ⟨_, rfl⟩
        obtain ⟨c, hc⟩ : ∃ c, c = y[k]'hky := ⟨_, rfl⟩
        have hcL : L[k]? = some c := by
          have h2 := ba_get y k hky
          rw [HYL.out, List.getElem?_append_left hlt] at h2
          rw [h2, hc]
        have hcd := HDG.out c (List.mem_of_getElem? hcL)
        have hzc : z = (c.toNat : Int) := by rw [hc]; exact hz.symm
        have hz0 : 48 ≤ z ∧ z ≤ 57 := by omega
        have hd0 : 0 ≤ z - 48 ∧ z - 48 ≤ 9 := by omega
        have hltI : (k : Int) < (y.size : Int) - 1 := by have := HYS.out; omega
        obtain ⟨v', hv'⟩ : ∃ v', IntKind.u64.wrap (IntKind.u64.wrap (10 * v) + (z - 48)) = v' := ⟨_, rfl⟩
        have HV' : Hid (v' = ((numM (L.take (k + 1)) : Nat) : Int)) := Lib.hid (by
          rw [List.take_add_one, hcL]
          show v' = ((numM (L.take k ++ [c]) : Nat) : Int)
          rw [numM_snoc, ← hv', HV.out, hzc]
          have hlt2 := numM_lt (L.take k)
          generalize numM (L.take k) = u at hlt2 ⊢
          unfold stepM M64 at *
          rw [IntKind.wrap_u64, IntKind.wrap_u64]
          omega)
        have HLT : Hid (k + 1 ≤ L.length) := Lib.hid hlt
        have HMS : Hid (L.length - (k + 1) < L.length - k) := Lib.hid (by omega)
        have hkw : wrap64 ((k : Int) + 1) = ((k + 1 : Nat) : Int) := by
          have := HL20.out
          rw [wrap64_i (by omega)]; omega
        clear hc hcL hcd hzc hlt hk
        go_wp2
        go_round
        case rel => exact ⟨k + 1, v', HLT.out, by rw [hkw], rfl, HV'⟩
        case measure => rw [hkw]; exact HMS.out
      · have hkk : k = L.length := by omega
        subst hkk
        have hva : v = a := by rw [HV.out, List.take_length, HNUM.out]
        subst hva
        have hltI : ¬ ((L.length : Nat) : Int) < (y.size : Int) - 1 := by have := HYS.out; omega
        clear hlt hk HV
        obtain ⟨t, ht⟩ : ∃ t : ByteArray, (⟨(vtext (vl 1 v ⟨#[]⟩)).toArray⟩ : ByteArray) = t := ⟨_, rfl⟩
        have hv64 := u64_m ha
        have hv0 := ha.lo
        have htl : t.toList = if m < 0 then 45 :: dig (M64 - v.toNat) else L := by
          rw [← ht, ba_mk1 (vtext (vl 1 v ⟨#[]⟩)), vt1 (by show Vl.okB ⟨1, v.toNat, (ByteArray.mk #[]).toList⟩ = true; rw [ba_nil]; rfl), HM.out, HLE.out]
        have HTX := Lib.hid (fun W hW => text_any (K := 1) (N := v) (s := ⟨#[]⟩) ha W hW)
        rw [ht] at HTX
        have HTL := Lib.hid htl
        clear ht htl
        by_cases hm0 : 0 ≤ m
        · have hty : y.extract 0 (wrap64 ((y.size : Int) - 1)).toNat = t := by
            apply ba_eq
            rw [HTL.out, if_neg (by omega), hwr, ba_front, HYL.out]
            have := HYS.out
            have h3 : ((y.size : Int) - 1).toNat = L.length := by omega
            rw [h3]
            simp
          have hty2 : (!t.toList == (y.extract 0 (y.size - 1)).toList) = false := by
            have h3 : (wrap64 ((y.size : Int) - 1)).toNat = y.size - 1 := by rw [hwr]; omega
            rw [h3] at hty
            rw [hty]; simp
          go_wp2_with fail
          refine (HTX.out _ HT4.out).mono ?_
          rintro e w5 ⟨rfl, hb5⟩
          have HT5 := Lib.hid (HT4.out.keep hb5)
          have H5 := Lib.hid (H4.out.trans (hb5.mono H4.out.size))
          clear hb5
          go_wp2_with fail
          go_ret
          exact ⟨rfl, H5.out⟩
        · obtain ⟨c, hc⟩ : ∃ c, IntKind.u64.wrap (-v) = c := ⟨_, rfl⟩
          have hv63 : 9223372036854775808 ≤ v := by
            have := HM.out
            unfold sgn at this
            split at this <;> omega
          have hcn : c.toNat = M64 - v.toNat := by have := ha.hi; rw [← hc, IntKind.wrap_u64]; unfold M64; omega
          have hc64 : U64 c := ⟨by rw [← hc, IntKind.wrap_u64]; omega, by rw [← hc, IntKind.wrap_u64]; omega⟩
          obtain ⟨D, hD⟩ : ∃ D, dig (M64 - v.toNat) = D := ⟨_, rfl⟩
          obtain ⟨u, hu⟩ : ∃ u : ByteArray, (⟨(vtext (vl 2 c ⟨#[]⟩)).toArray⟩ : ByteArray) = u := ⟨_, rfl⟩
          have hul : u.toList = D ++ [117] := by
            rw [← hu, ba_mk1 (vtext (vl 2 c ⟨#[]⟩)), vt2 (by show Vl.okB ⟨2, c.toNat, (ByteArray.mk #[]).toList⟩ = true; rw [ba_nil]; rfl), hcn, hD]
          have HTU := Lib.hid (fun W hW => text_any (K := 2) (N := c) (s := ⟨#[]⟩) hc64 W hW)
          rw [hu] at HTU
          have htl2 : t.toList = 45 :: D := by rw [HTL.out, if_pos (by omega), hD]
          have hts : t.size = D.length + 1 := by rw [← ba_size, htl2]; simp
          have hus : u.size = D.length + 1 := by rw [← ba_size, hul]; simp
          have hD20 : D.length ≤ 20 := by rw [← hD]; exact dig_len20 (by unfold M64; omega)
          have htw : wrap64 ((t.size : Int) - 1) = ((D.length : Nat) : Int) := by rw [wrap64_i (by omega)]; omega
          have hcut : (u.extract 0 D.length).toList = D := by rw [ba_front, hul]; simp
          have HEQ : Hid ((t.toList == ((⟨#[45]⟩ : ByteArray) ++ u.extract 0 D.length).toList) = true) := Lib.hid (by
            rw [ba_append, hcut, htl2, show (ByteArray.mk #[45]).toList = [45] from ByteArray.toList_mk [45]]; simp)
          clear hu hul hcn hD htl2
          go_wp2_with fail
          refine (HTX.out _ HT4.out).mono ?_
          rintro e w5 ⟨rfl, hb5⟩
          have HT5 := Lib.hid (HT4.out.keep hb5)
          have H5 := Lib.hid (H4.out.trans (hb5.mono H4.out.size))
          clear hb5
          go_wp2_with fail
          refine (HTU.out _ HT5.out).mono ?_
          rintro e w6 ⟨rfl, hb6⟩
          have HT6 := Lib.hid (HT5.out.keep hb6)
          have H6 := Lib.hid (H5.out.trans (hb6.mono H5.out.size))
          clear hb6
          go_wp2_with fail
          rw [HEQ.out]
          go_ret
          exact ⟨rfl, H6.out⟩

end Go.Proofs.YtjkblmkgiiciaaaDoor
