/-
  The reference's guess: texts that begin with a quote.
-/
import Derived.Test.YtcpfohjejhkgbaaDoorValG1
namespace Go.Proofs.YtcpfohjejhkgbaaDoor
open Go Go.RowKit
set_option linter.unusedVariables false
set_option linter.unusedSimpArgs false
set_option maxRecDepth 100000

/-- Where the loop stands. -/
def QuAt (s : ByteArray) (R : List UInt8) (k : Nat) (l : List UInt8) : Prop := l.length ≤ k ∧ l ++ unesc (s.toList.drop k) = R

set_option maxHeartbeats 8000000 in
theorem guess_q (s : ByteArray) (hs : s.size ≤ 140737488351232) (h0 : 1 < s.size) (hx : (s[0]'(by omega)) = 34) (w : World) :
    Calls Tryd.prog 19 #[.string s] w fun e w' => GuessRet s w e w' := by
  have h00 : 0 < s.size := by omega
  have hhd := head_of s h00
  rw [hx] at hhd
  have e1 : (s.toList == [116, 114, 117, 101]) = false := by rw [hhd]; rfl
  have e2 : (s.toList == [102, 97, 108, 115, 101]) = false := by rw [hhd]; rfl
  have hpos : (0 : Int) < (s.size : Int) := by omega
  have hpos1 : (1 : Int) < (s.size : Int) := by omega
  have hz : (((s[0]'h00).toNat : Nat) : Int) = 34 := by rw [hx]; rfl
  obtain ⟨R, hR⟩ : ∃ R, R = unesc (s.toList.drop 1) := ⟨_, rfl⟩
  have HRR := Lib.hid hR
  have HRD : Hid (Reads s.toList ⟨5, 0, R⟩) := Lib.hid (by
    rw [hhd, hR]
    refine reads_q fun T hT => ?_
    rw [hT, unesc_esc])
  have HB0 := Lib.hid ((Below.refl w.heap.size w).alloc (Nat.le_refl _) (.cells #[.int .i64 0, .int .u64 0, .string ⟨#[]⟩] 24))
  have HS := Lib.hid hs
  have H0 := Lib.hid h0
  clear hhd hR hx
  go_enter Tryd.func19, Tryd.ntmps19
  go_wp2_with fail
  clear e1 e2 hz hpos hpos1 h0 h00
  go_loopw [6, 7, 8] (fun vb vi _ wr => ∃ (k : Nat) (l : List UInt8), 1 ≤ k ∧ k ≤ s.size ∧ vi = .int .i64 (k : Int) ∧ Hid (QuAt s R k l) ∧ Hid (RowB (w.heap.size + 1) vb l wr) ∧ Hid (Below (w.alloc (.cells #[.int .i64 0, .int .u64 0, .string ⟨#[]⟩] 24)).heap.size (w.alloc (.cells #[.int .i64 0, .int .u64 0, .string ⟨#[]⟩] 24)) wr)) (fun _ vi _ _ => s.size - (intOf vi).toNat)
  case atStart => exact ⟨1, [], Nat.le_refl _, by have := H0.out; omega, rfl, Lib.hid ⟨by simp, by rw [HRR.out]; rfl⟩, Lib.hid (rowB_nil _ _), Lib.hid (Below.refl _ _)⟩
  case round =>
    obtain ⟨k, l, hk1, hk, rfl, HU, HR, HBl⟩ := hrel
    rename_i u6 _
    have hs47 : (s.size : Int) ≤ 140737488351232 := by have := HS.out; omega
    have hk0I : (0 : Int) ≤ (k : Int) := by omega
    by_cases hlt : k + 1 < s.size
    · have hk0 : k < s.size := by omega
      obtain ⟨c, hc⟩ : ∃ c, s[k]'hk0 = c := ⟨_, rfl⟩
      obtain ⟨z, hz⟩ : ∃ z : Int, ((s[k]'hk0).toNat : Int) = z := ⟨_, rfl⟩
      have hcz : (c.toNat : Int) = z := by rw [← hc]; exact hz
      have hdr : s.toList.drop k = c :: s.toList.drop (k + 1) := by rw [drop_get s k hk0, hc]
      have hltI : (k : Int) < (s.size : Int) - 1 := by omega
      have hkI : (k : Int) < (s.size : Int) := by omega
      have HLEN : Hid (l.length ≤ 140737488351232) := Lib.hid (by have := HU.out.1; have := HS.out; omega)
      have HAP : Hid (∀ (W : World) (b : UInt8) (y : Int), (b.toNat : Int) = y → RowB (w.heap.size + 1) u6 l W → True) := Lib.hid (fun _ _ _ _ _ => trivial)
      clear HAP
      by_cases h92 : z = 92 ∧ k + 2 < s.size
      · obtain ⟨h9, h3⟩ := h92
        have hk1' : k + 1 < s.size := by omega
        obtain ⟨a, ha⟩ : ∃ a, s[k + 1]'hk1' = a := ⟨_, rfl⟩
        obtain ⟨b, hb⟩ : ∃ b, s[k + 2]'h3 = b := ⟨_, rfl⟩
        obtain ⟨z1, hz1⟩ : ∃ z : Int, ((s[k + 1]'hk1').toNat : Int) = z := ⟨_, rfl⟩
        obtain ⟨z2, hz2⟩ : ∃ z : Int, ((s[k + 2]'h3).toNat : Int) = z := ⟨_, rfl⟩
        have HSTEP : Hid (QuAt s R (k + 3) (l ++ [un16 a b])) := Lib.hid (by
          have := HU.out
          unfold QuAt at *
          rw [hdr, drop_get s (k + 1) hk1', drop_get s (k + 2) h3, ha, hb, unesc_esc3 (by omega)] at this
          exact ⟨by simp; omega, by rw [← this.2]; simp⟩)
        obtain ⟨h1, hh1⟩ : ∃ h : Int, ((half a : Nat) : Int) = h := ⟨_, rfl⟩
        obtain ⟨h2, hh2⟩ : ∃ h : Int, ((half b : Nat) : Int) = h := ⟨_, rfl⟩
        have r1 : 0 ≤ h1 ∧ h1 ≤ 16 := by have := half_le a; omega
        have r2 : 0 ≤ h2 ∧ h2 ≤ 16 := by have := half_le b; omega
        have HC1 : Hid (∀ W, Calls Tryd.prog 44 #[.int .u8 z1] W fun e w' => e = .returned (.int .i64 h1) ∧ W = w') := Lib.hid (fun W => by
          have := rhalf_any a W
          rwa [hh1, ← ha, hz1] at this)
        have HC2 : Hid (∀ W, Calls Tryd.prog 44 #[.int .u8 z2] W fun e w' => e = .returned (.int .i64 h2) ∧ W = w') := Lib.hid (fun W => by
          have := rhalf_any b W
          rwa [hh2, ← hb, hz2] at this)
        have hu16 := un16_int a b
        rw [hh1, hh2] at hu16
        obtain ⟨y, hy⟩ : ∃ y : Int, ((un16 a b).toNat : Int) = y := ⟨_, rfl⟩
        rw [hy] at hu16
        have HY := Lib.hid hy
        have q1 : IntKind.i64.wrap (h1 * 16) = h1 * 16 := IntWalk.i64_in _ (by omega)
        have q2 : IntKind.i64.wrap (h1 * 16 + h2) = h1 * 16 + h2 := IntWalk.i64_in _ (by omega)
        have q3 : IntKind.u8.wrap (h1 * 16 + h2) = y := by rw [IntKind.wrap_u8']; exact hu16
        have q4 : IntKind.i64.wrap ((k : Int) + 1) = (k : Int) + 1 := IntWalk.i64_in _ (by omega)
        have q5 : IntKind.i64.wrap ((k : Int) + 2) = (k : Int) + 2 := IntWalk.i64_in _ (by omega)
        have hin : 0 ≤ (k : Int) + 1 ∧ (k : Int) + 1 < (s.size : Int) := by omega
        have hin2 : 0 ≤ (k : Int) + 2 ∧ (k : Int) + 2 < (s.size : Int) := by omega
        have htn : ((k : Int) + 1).toNat = k + 1 := by omega
        have htn2 : ((k : Int) + 2).toNat = k + 2 := by omega
        have HLE1 : Hid (k + 3 ≤ s.size) := Lib.hid h3
        have HMS : Hid (s.size - (k + 3) < s.size - k) := Lib.hid (by omega)
        subst h9
        clear ha hb hh1 hh2 hdr hy hu16 r1 r2 hc hcz
        go_upto_region 20 with fail
        refine wp_region_still_lit (by kernel_rfl) (by kernel_rfl) ?_
        repeat still_step
        still_call ((HC1.out _).mono (fun _ _ ⟨a, b⟩ => ⟨a, b.symm⟩))
        repeat still_step
        still_call ((HC2.out _).mono (fun _ _ ⟨a, b⟩ => ⟨a, b.symm⟩))
        repeat still_step
        refine wpStill_nil ?_
        change Exit.then _ _ _ _ wr.drew
        clear q1 q2 q3 q4 q5 hin hin2 htn htn2 HC1 HC2 hz1 hz2
        have HNEW := Lib.hid ((HR.out.drew).alloc (.cells #[.int .u8 y] 5))
        have HCEL : Hid (∀ j u, (Lib.byteCells [un16 a b])[j]? = some u → ((wr.drew).alloc (.cells #[.int .u8 y] 5)).cell? ((⟨wr.heap.size, 0, none⟩ : Addr).add j) = some u) := Lib.hid (one_cells HY.out (by go_simp))
        have HSIZ : Hid (w.heap.size + 1 ≤ ((wr.drew).alloc (.cells #[.int .u8 y] 5)).heap.size) := Lib.hid (by have := HBl.out.size; simp at this ⊢; omega)
        have HBN := Lib.hid ((HBl.out.drew).alloc (HBl.out.drew).size (.cells #[.int .u8 y] 5))
        go_wp2_with (at_builtin; refine rowB_append rfl (.tmp 101) (.tmp 103) rfl (w.heap.size + 1) _ _ rfl HNEW.out ⟨wr.heap.size, 0, none⟩ 1 1 _ rfl rfl (by decide) HCEL.out ?c2 HSIZ.out ?c4)
        case c2 => have := HLEN.out; omega
        case c4 =>
          intro v' w2 HR2 HB2
          have HR3 := Lib.hid HR2
          have HB3 := Lib.hid (HBN.out.trans (HB2.mono (by simp)))
          clear HR2 HB2 HNEW HCEL HSIZ HBN HLEN
          go_wp2
          go_roundw
          case rel => exact ⟨k + 3, l ++ [un16 a b], by omega, HLE1.out, by go_num, HSTEP, HR3, HB3⟩
          case measure => have := HMS.out; simp [intOf]; omega
      · have HSTEP : Hid (QuAt s R (k + 1) (l ++ [c])) := Lib.hid (by
          have := HU.out
          unfold QuAt at *
          rw [hdr, unesc_own (by rw [List.length_drop, ba_size]; omega) (by
            by_cases h : z = 92
            · right
              rw [List.length_drop, ba_size]
              have : ¬ k + 2 < s.size := fun h3 => h92 ⟨h, h3⟩
              omega
            · left
              intro e
              exact h (by omega))] at this
          exact ⟨by simp; omega, by rw [← this.2]; simp⟩)
        have HY := Lib.hid hcz
        have HLE1 : Hid (k + 1 ≤ s.size) := Lib.hid hk0
        have HMS : Hid (s.size - (k + 1) < s.size - k) := Lib.hid (by omega)
        have hways : (z == 92) = false ∨ ((z == 92) = true ∧ ¬ (k : Int) + 2 < (s.size : Int)) := by
          by_cases h : z = 92
          · right
            exact ⟨by simpa using h, fun h3 => h92 ⟨h, by omega⟩⟩
          · left
            simpa using h
        clear h92 hdr hc hcz
        rcases hways with hzb | ⟨hzb, h3⟩
        all_goals
          have HNEW := Lib.hid ((HR.out).alloc (.cells #[.int .u8 z] 5))
          have HCEL : Hid (∀ j u, (Lib.byteCells [c])[j]? = some u → ((wr).alloc (.cells #[.int .u8 z] 5)).cell? ((⟨wr.heap.size, 0, none⟩ : Addr).add j) = some u) := Lib.hid (one_cells HY.out (by go_simp))
          have HSIZ : Hid (w.heap.size + 1 ≤ ((wr).alloc (.cells #[.int .u8 z] 5)).heap.size) := Lib.hid (by have := HBl.out.size; simp at this ⊢; omega)
          have HBN := Lib.hid ((HBl.out).alloc (HBl.out).size (.cells #[.int .u8 z] 5))
          go_wp2_with (at_builtin; refine rowB_append rfl (.tmp 101) (.tmp 103) rfl (w.heap.size + 1) _ _ rfl HNEW.out ⟨wr.heap.size, 0, none⟩ 1 1 _ rfl rfl (by decide) HCEL.out ?c2 HSIZ.out ?c4)
          case c2 => have := HLEN.out; omega
          case c4 =>
            intro v' w2 HR2 HB2
            have HR3 := Lib.hid HR2
            have HB3 := Lib.hid (HBN.out.trans (HB2.mono (by simp)))
            clear HR2 HB2 HNEW HCEL HSIZ HBN HLEN
            go_wp2
            go_roundw
            case rel => exact ⟨k + 1, l ++ [c], by omega, HLE1.out, by go_num, HSTEP, HR3, HB3⟩
            case measure => have := HMS.out; simp [intOf]; omega
    · have hge : ¬ (k : Int) < (s.size : Int) - 1 := by omega
      have hcv := HR.out.conv'
      obtain ⟨⟨c0, c1, c2⟩, f0, f1, f2⟩ := res_cells HBl.out
      have H2 := Lib.hid (below_set3 (HB0.out.trans (HBl.out.mono HB0.out.size)))
      have HRD2 : Hid (Reads s.toList (vl 5 0 ⟨l.toArray⟩)) := Lib.hid (by
        have e := HU.out.2
        rw [unesc_few (by rw [List.length_drop, ba_size]; omega), List.append_nil] at e
        show Reads s.toList ⟨5, 0, (ByteArray.mk l.toArray).toList⟩
        rw [ba_mk1 l, e]
        exact HRD.out)
      clear HR HBl HU
      go_wp2
      refine bodyPost_ret (v := vlv 5 0 ⟨l.toArray⟩) (by simp [results, Tryd.results19, go_sem, c0, c1, c2]) rfl ?_
      exact ⟨5, 0, _, rfl, ⟨by omega, by omega⟩, HRD2.out, H2.out _ _ _⟩

end Go.Proofs.YtcpfohjejhkgbaaDoor
