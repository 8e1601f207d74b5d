/-
  The reference's Text of Text.
-/
import Derived.Test.YtcpfohjejhkgbaaDoorValR6
namespace Go.Proofs.YtcpfohjejhkgbaaDoor
open Go Go.RowKit
set_option linter.unusedVariables false
set_option linter.unusedSimpArgs false
set_option maxRecDepth 100000

theorem three_cells {W : World} {p : Nat} {a b d : UInt8} {y0 y1 y2 : Int} (h0 : ((a.toNat : Nat) : Int) = y0) (h1 : ((b.toNat : Nat) : Int) = y1) (h2 : ((d.toNat : Nat) : Int) = y2) (c0 : W.cell? ⟨p, 0, none⟩ = some (.int .u8 y0)) (c1 : W.cell? ⟨p, 1, none⟩ = some (.int .u8 y1)) (c2 : W.cell? ⟨p, 2, none⟩ = some (.int .u8 y2)) :
    ∀ j u, (Lib.byteCells [a, b, d])[j]? = some u → W.cell? ((⟨p, 0, none⟩ : Addr).add j) = some u := by
  intro j u hj
  match j with
  | 0 => simp [Lib.byteCells] at hj; subst hj; rw [h0]; exact c0
  | 1 => simp [Lib.byteCells] at hj; subst hj; rw [h1]; exact c1
  | 2 => simp [Lib.byteCells] at hj; subst hj; rw [h2]; exact c2
  | j + 3 => simp [Lib.byteCells] at hj
set_option maxHeartbeats 2000000 in
theorem rtext5 {N : Int} {s : ByteArray} (hN : U64 N) (w : World) (ho : (vl 5 N s).okB = true) :
    Calls Tryd.prog 8 #[vlv 5 N s] w fun e w' => e = .returned (.string ⟨(vtext (vl 5 N s)).toArray⟩) ∧ Below w.heap.size w w' := by
  have HB := Lib.hid (fun o => (Below.refl w.heap.size w).alloc (Nat.le_refl _) o)
  have HOK := Lib.hid ho
  have HSZ := Lib.hid (ok_size ho)
  rw [vt5 ho]
  clear ho
  go_enter Tryd.func8, Tryd.ntmps8
  go_wp2_with fail
  refine (rvalid_any hN _).mono ?_
  rintro e w1 ⟨rfl, hb1⟩
  rw [HOK.out]
  obtain ⟨c0, c1, c2⟩ := val_cells hb1
  have H1 := Lib.hid ((HB.out _).trans (hb1.mono (by simp)))
  clear hb1 HB
  go_wp2_with fail
  have hb := (Below.refl w1.heap.size w1).alloc (Nat.le_refl _) (.cells #[.int .u8 34] 5)
  have hR : RowB w1.heap.size (.slice (some ⟨w1.heap.size, 0, none⟩) 1 1) [34] (w1.alloc (.cells #[.int .u8 34] 5)) :=
    .inl ⟨w1.heap.size, rfl, Nat.le_refl _, by simp, one_cells rfl (by go_simp)⟩
  have HR := Lib.hid hR
  have HBl := Lib.hid hb
  clear hb hR
  go_loopw [5, 6] (fun vb vi wr => ∃ k : Nat, k ≤ s.size ∧ vi = .int .i64 k ∧ Hid (RowB w1.heap.size vb (34 :: escB (s.toList.take k)) wr) ∧ Hid (Below w1.heap.size w1 wr)) (fun _ vi _ => s.size - (intOf vi).toNat)
  case atStart => exact ⟨0, Nat.zero_le _, rfl, HR, HBl⟩
  case round =>
    clear HR HBl
    obtain ⟨k, hk, rfl, HR, HBl⟩ := hrel
    replace c2 := keep0 c2 HBl.out
    clear c0 c1
    by_cases hlt : k < s.size
    · obtain ⟨c, hc⟩ : ∃ c, c = s[k] := ⟨_, rfl⟩
      obtain ⟨z, hz⟩ : ∃ z : Int, ((s[k]).toNat : Int) = z := ⟨_, rfl⟩
      have hz0 : 0 ≤ z ∧ z < 256 := by have := (s[k]).toNat_lt; omega
      have hcz : (c.toNat : Int) = z := by rw [hc]; exact hz
      have HCZ := Lib.hid hcz
      obtain ⟨e, he⟩ : ∃ e, escd c = e := ⟨_, rfl⟩
      have HW : Hid ((e = true ∧ (z < 33 ∨ (¬ z < 33 ∧ 126 < z) ∨ (¬ z < 33 ∧ ¬ 126 < z ∧ z = 34) ∨ (¬ z < 33 ∧ ¬ 126 < z ∧ z = 92))) ∨ (e = false ∧ ¬ z < 33 ∧ ¬ 126 < z ∧ z ≠ 34 ∧ z ≠ 92)) := Lib.hid (by
        cases e with
        | true => left; refine ⟨rfl, ?_⟩; unfold escd at he; simp at he; omega
        | false => right; refine ⟨rfl, ?_⟩; unfold escd at he; simp at he; omega)
      have HSTEP : Hid (34 :: escB (s.toList.take (k + 1)) = (34 :: escB (s.toList.take k)) ++ (if e = true then 92 :: hexB [c] else [c])) := Lib.hid (by
        rw [take_step s k hlt, escB_snoc, ← hc, he]; rfl)
      have HLEN : Hid ((34 :: escB (s.toList.take k)).length ≤ 1000) := Lib.hid (by
        rw [List.length_cons]; have := escB_length (s.toList.take k); have := List.length_take_le k s.toList; have := HSZ.out; omega)
      have hltI : (k : Int) < (s.size : Int) := by omega
      have HKW : Hid (wrap64 ((k : Int) + 1) = ((k + 1 : Nat) : Int)) := Lib.hid (by have := HSZ.out; rw [rwrap64 (by omega)]; omega)
      have HLE1 : Hid (k + 1 ≤ s.size) := Lib.hid hlt
      have HMS : Hid (s.size - (k + 1) < s.size - k) := Lib.hid (by omega)
      clear hcz he hc
      go_upto_region 28 with fail
      go_cut [93] (fun v wx => v = .bool e ∧ Hid (wx = wr))
      case first =>
        rcases HW.out with ⟨h1, h2 | ⟨h2, h3⟩ | ⟨h2, h3, h4⟩ | ⟨h2, h3, h4⟩⟩ | ⟨h1, h2, h3, h4, h5⟩
        · subst h1
          clear HW
          go_wp2_with fail
          go_meet
          exact ⟨rfl, Lib.hid rfl⟩
        · subst h1
          clear HW
          go_wp2_with fail
          go_meet
          exact ⟨rfl, Lib.hid rfl⟩
        · have hb : (z == 34) = true := by simpa using h4
          subst h1
          clear HW h4
          go_wp2_with fail
          go_meet
          exact ⟨rfl, Lib.hid rfl⟩
        · have hb : (z == 34) = false := by rw [h4]; rfl
          have hb2 : (z == 92) = true := by simpa using h4
          subst h1
          clear HW h4
          go_wp2_with fail
          go_meet
          exact ⟨rfl, Lib.hid rfl⟩
        · have hb : (z == 34) = false := by simpa using h4
          have hb2 : (z == 92) = false := by simpa using h5
          subst h1
          clear HW h4 h5
          go_wp2_with fail
          go_meet
          exact ⟨rfl, Lib.hid rfl⟩
      case rest =>
        obtain ⟨rfl, hwx⟩ := hcut
        rw [hwx.out]
        clear HW hwx
        cases e with
        | true =>
          rw [if_pos rfl] at HSTEP
          obtain ⟨q, hq⟩ : ∃ q : Int, z.tdiv 16 = q := ⟨_, rfl⟩
          obtain ⟨r, hr⟩ : ∃ r : Int, z.tmod 16 = r := ⟨_, rfl⟩
          have hq' : q = ((c.toNat / 16 : Nat) : Int) := by rw [← hq, Int.tdiv_eq_ediv_of_nonneg hz0.1, ← HCZ.out]; omega
          have hr' : r = ((c.toNat % 16 : Nat) : Int) := by rw [← hr, Int.tmod_eq_emod_of_nonneg hz0.1, ← HCZ.out]; omega
          obtain ⟨y1, hy1⟩ : ∃ y1 : Int, ((hexd (c.toNat / 16)).toNat : Int) = y1 := ⟨_, rfl⟩
          obtain ⟨y2, hy2⟩ : ∃ y2 : Int, ((hexd (c.toNat % 16)).toNat : Int) = y2 := ⟨_, rfl⟩
          have hi1 := fun W => dig_index q (c.toNat / 16) hq' (by have := c.toNat_lt; omega) W
          have hi2 := fun W => dig_index r (c.toNat % 16) hr' (by omega) W
          rw [hy1] at hi1
          rw [hy2] at hi2
          have hq16 : 0 ≤ q ∧ q < 16 := by have := c.toNat_lt; omega
          have hr16 : 0 ≤ r ∧ r < 16 := by omega
          have wq : IntKind.u8.wrap q = q := by rw [IntKind.wrap_u8]; omega
          have wr8 : IntKind.u8.wrap r = r := by rw [IntKind.wrap_u8]; omega
          have HCEL : Hid (∀ j u, (Lib.byteCells (92 :: hexB [c]))[j]? = some u → (wr.alloc (.cells #[.int .u8 92, .int .u8 y1, .int .u8 y2] 5)).drew.cell? ((⟨wr.heap.size, 0, none⟩ : Addr).add j) = some u) := Lib.hid (three_cells rfl hy1 hy2 (by go_simp) (by go_simp) (by go_simp))
          have HNEW := Lib.hid ((HR.out.alloc (.cells #[.int .u8 92, .int .u8 y1, .int .u8 y2] 5)).drew)
          have HSIZ : Hid (w1.heap.size ≤ (wr.alloc (.cells #[.int .u8 92, .int .u8 y1, .int .u8 y2] 5)).drew.heap.size) := Lib.hid (by have := HBl.out.size; simp; omega)
          have HBN : Hid (Below w1.heap.size w1 (wr.alloc (.cells #[.int .u8 92, .int .u8 y1, .int .u8 y2] 5)).drew) := Lib.hid ((HBl.out.alloc HBl.out.size _).drew)
          clear hq' hr' hy1 hy2
          go_upto_region 29 with fail
          go_region_law ((refine rowB_step _ rfl (.tmp 94) (.tmp 101) rfl w1.heap.size _ _ ?_ HNEW.out ⟨wr.heap.size, 0, none⟩ 3 3 _ ?_ rfl (by decide) HCEL.out ?_ HSIZ.out ?_; (go_must (simp [Act.eval])); (go_must (simp [Act.eval])); (go_must (have := HLEN.out; omega)); (go_must (intro v' w2 HR2 HB2))))
          all_goals
            have HR3 := Lib.hid (HSTEP.out ▸ HR2)
            have HB3 := Lib.hid (HBN.out.trans HB2)
            clear HR2 HB2 HNEW HCEL HSIZ HBN HSTEP HLEN c2 hi1 hi2 hq hr wq wr8
            go_wp2
            go_roundw
            case rel => exact ⟨k + 1, HLE1.out, by rw [HKW.out], HR3, HB3⟩
            case measure => rw [HKW.out]; exact HMS.out
        | false =>
          rw [if_neg (by decide)] at HSTEP
          have HCEL : Hid (∀ j u, (Lib.byteCells [c])[j]? = some u → (wr.alloc (.cells #[.int .u8 z] 5)).cell? ((⟨wr.heap.size, 0, none⟩ : Addr).add j) = some u) := Lib.hid (one_cells HCZ.out (by go_simp))
          have HNEW := Lib.hid (HR.out.alloc (.cells #[.int .u8 z] 5))
          have HSIZ : Hid (w1.heap.size ≤ (wr.alloc (.cells #[.int .u8 z] 5)).heap.size) := Lib.hid (by have := HBl.out.size; simp; omega)
          have HBN : Hid (Below w1.heap.size w1 (wr.alloc (.cells #[.int .u8 z] 5))) := Lib.hid (HBl.out.alloc HBl.out.size _)
          go_wp2_with (at_builtin; refine rowB_append rfl (.tmp 103) (.tmp 105) rfl w1.heap.size _ _ rfl HNEW.out ⟨wr.heap.size, 0, none⟩ 1 1 _ rfl rfl (by decide) HCEL.out ?c2 HSIZ.out ?c4)
          case c2 => have := HLEN.out; omega
          case c4 =>
            intro v' w2 HR2 HB2
            have HR3 : Hid (RowB w1.heap.size v' (34 :: escB (s.toList.take (k + 1))) w2) := Lib.hid (by rw [HSTEP.out]; exact HR2)
            have HB3 := Lib.hid (HBN.out.trans HB2)
            clear HR2 HB2 HNEW HCEL HSIZ HBN HSTEP HLEN c2
            go_wp2
            go_roundw
            case rel => exact ⟨k + 1, HLE1.out, by rw [HKW.out], HR3, HB3⟩
            case measure => rw [HKW.out]; exact HMS.out
    · have hge : ¬ (k : Int) < (s.size : Int) := by omega
      have HT : Hid (s.toList.take k = s.toList) := Lib.hid (List.take_of_length_le (by rw [ba_size]; omega))
      rw [HT.out] at HR
      have HLEN : Hid ((34 :: escB s.toList).length ≤ 1000) := Lib.hid (by
        rw [List.length_cons]; have := escB_length s.toList; have := ba_size s; have := HSZ.out; omega)
      have HCEL : Hid (∀ j u, (Lib.byteCells [34])[j]? = some u → (wr.alloc (.cells #[.int .u8 34] 5)).cell? ((⟨wr.heap.size, 0, none⟩ : Addr).add j) = some u) := Lib.hid (one_cells rfl (by go_simp))
      have HNEW := Lib.hid (HR.out.alloc (.cells #[.int .u8 34] 5))
      have HSIZ : Hid (w1.heap.size ≤ (wr.alloc (.cells #[.int .u8 34] 5)).heap.size) := Lib.hid (by have := HBl.out.size; simp; omega)
      have HBN : Hid (Below w1.heap.size w1 (wr.alloc (.cells #[.int .u8 34] 5))) := Lib.hid (HBl.out.alloc HBl.out.size _)
      go_wp2_with (at_builtin; refine rowB_append rfl _ _ rfl w1.heap.size _ _ rfl HNEW.out ⟨wr.heap.size, 0, none⟩ 1 1 _ rfl rfl (by decide) HCEL.out ?c2 HSIZ.out ?c4)
      case c2 => have := HLEN.out; rw [List.length_cons] at this; first | omega | (simp; omega)
      case c4 =>
        intro v' w2 HR2 HB2
        have hcv := HR2.conv (by simp)
        have H2 := Lib.hid (H1.out.trans ((HBN.out.trans HB2).mono H1.out.size))
        clear HR2 HB2 HNEW HCEL HSIZ HBN HLEN HR HBl
        go_wp2_with fail
        go_ret
        exact ⟨rfl, H2.out⟩

end Go.Proofs.YtcpfohjejhkgbaaDoor
