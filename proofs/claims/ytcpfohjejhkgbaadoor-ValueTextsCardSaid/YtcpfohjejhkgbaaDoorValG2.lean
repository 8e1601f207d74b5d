/-
  The reference's guess: texts that begin with an x.
-/
import Derived.Test.YtcpfohjejhkgbaaDoorValG1
namespace Go.Proofs.YtcpfohjejhkgbaaDoor
open Go Go.RowKit
set_option linter.unusedVariables false
set_option linter.unusedSimpArgs false
set_option maxRecDepth 100000

set_option maxHeartbeats 4000000 in
theorem guess_x (s : ByteArray) (hs : s.size ≤ 140737488351232) (h0 : 0 < s.size) (hx : (s[0]'h0) = 120) (w : World) :
    Calls Tryd.prog 19 #[.string s] w fun e w' => GuessRet s w e w' := by
  have hhd := head_of s h0
  rw [hx] at hhd
  have e1 : (s.toList == [116, 114, 117, 101]) = false := by rw [hhd]; rfl
  have e2 : (s.toList == [102, 97, 108, 115, 101]) = false := by rw [hhd]; rfl
  have hpos : (0 : Int) < (s.size : Int) := by omega
  have hz : (((s[0]'h0).toNat : Nat) : Int) = 120 := by rw [hx]; rfl
  obtain ⟨R, hR⟩ : ∃ R, R = unhex (s.toList.drop 1) := ⟨_, rfl⟩
  have HRR := Lib.hid hR
  have HRD : Hid (Reads s.toList ⟨4, 0, R⟩) := Lib.hid (by
    rw [hhd, hR]
    refine reads_x fun T hT => ?_
    rw [hT, unhex_hex])
  have HB0 := Lib.hid ((Below.refl w.heap.size w).alloc (Nat.le_refl _) (.cells #[.int .i64 0, .int .u64 0, .string ⟨#[]⟩] 24))
  have HS := Lib.hid hs
  have H0 := Lib.hid h0
  clear hhd hR hx
  go_enter Tryd.func19, Tryd.ntmps19
  go_wp2_with fail
  clear e1 e2 hz hpos h0
  obtain ⟨W0, hW0⟩ : ∃ W0, W0 = w.alloc (.cells #[.int .i64 0, .int .u64 0, .string ⟨#[]⟩] 24) := ⟨_, rfl⟩
  go_loopw [4, 5] (fun vb vi wr => ∃ (k : Nat) (l : List UInt8), 1 ≤ k ∧ k ≤ s.size ∧ vi = .int .i64 (k : Int) ∧ Hid (l.length ≤ k ∧ l ++ unhex (s.toList.drop k) = R) ∧ Hid (RowB (w.heap.size + 1) vb l wr) ∧ Hid (Below (w.alloc (.cells #[.int .i64 0, .int .u64 0, .string ⟨#[]⟩] 24)).heap.size (w.alloc (.cells #[.int .i64 0, .int .u64 0, .string ⟨#[]⟩] 24)) wr)) (fun _ vi _ => s.size - (intOf vi).toNat)
  case atStart => exact ⟨1, [], Nat.le_refl _, H0.out, rfl, Lib.hid ⟨by simp, by rw [HRR.out]; rfl⟩, Lib.hid (rowB_nil _ _), Lib.hid (Below.refl _ _)⟩
  case round =>
    clear hW0
    obtain ⟨k, l, hk1, hk, rfl, HU, HR, HBl⟩ := hrel
    rename_i u4
    have hs47 : (s.size : Int) ≤ 140737488351232 := by have := HS.out; omega
    by_cases hlt : k + 1 < s.size
    · have hk0 : k < s.size := by omega
      obtain ⟨z1, hz1⟩ : ∃ z : Int, ((s[k]'hk0).toNat : Int) = z := ⟨_, rfl⟩
      obtain ⟨z2, hz2⟩ : ∃ z : Int, ((s[k + 1]'hlt).toNat : Int) = z := ⟨_, rfl⟩
      obtain ⟨a, ha⟩ : ∃ a, s[k]'hk0 = a := ⟨_, rfl⟩
      obtain ⟨b, hb⟩ : ∃ b, s[k + 1]'hlt = b := ⟨_, rfl⟩
      have hdr : s.toList.drop k = a :: b :: s.toList.drop (k + 2) := by rw [drop_get s k hk0, drop_get s (k + 1) hlt, ha, hb]
      have HSTEP : Hid ((l ++ [un16 a b]).length ≤ k + 2 ∧ (l ++ [un16 a b]) ++ unhex (s.toList.drop (k + 2)) = R) := Lib.hid (by
        have := HU.out
        rw [hdr, unhex] at this
        exact ⟨by simp; omega, by rw [← this.2]; simp⟩)
      obtain ⟨h1, hh1⟩ : ∃ h : Int, ((half a : Nat) : Int) = h := ⟨_, rfl⟩
      obtain ⟨h2, hh2⟩ : ∃ h : Int, ((half b : Nat) : Int) = h := ⟨_, rfl⟩
      have r1 : 0 ≤ h1 ∧ h1 ≤ 16 := by have := half_le a; omega
      have r2 : 0 ≤ h2 ∧ h2 ≤ 16 := by have := half_le b; omega
      have HC1 : Hid (∀ W, Calls Tryd.prog 44 #[.int .u8 z1] W fun e w' => e = .returned (.int .i64 h1) ∧ W = w') := Lib.hid (fun W => by
        have := rhalf_any a W
        rwa [hh1, ← ha, hz1] at this)
      have HC2 : Hid (∀ W, Calls Tryd.prog 44 #[.int .u8 z2] W fun e w' => e = .returned (.int .i64 h2) ∧ W = w') := Lib.hid (fun W => by
        have := rhalf_any b W
        rwa [hh2, ← hb, hz2] at this)
      have hu16 := un16_int a b
      rw [hh1, hh2] at hu16
      obtain ⟨y, hy⟩ : ∃ y : Int, ((un16 a b).toNat : Int) = y := ⟨_, rfl⟩
      rw [hy] at hu16
      have HY := Lib.hid hy
      have q1 : IntKind.i64.wrap (h1 * 16) = h1 * 16 := IntWalk.i64_in _ (by omega)
      have q2 : IntKind.i64.wrap (h1 * 16 + h2) = h1 * 16 + h2 := IntWalk.i64_in _ (by omega)
      have q3 : IntKind.u8.wrap (h1 * 16 + h2) = y := by rw [IntKind.wrap_u8']; exact hu16
      have q4 : IntKind.i64.wrap ((k : Int) + 1) = (k : Int) + 1 := IntWalk.i64_in _ (by omega)
      have hin : 0 ≤ (k : Int) + 1 ∧ (k : Int) + 1 < (s.size : Int) := by omega
      have hkI : (k : Int) < (s.size : Int) := by omega
      have htn : ((k : Int) + 1).toNat = k + 1 := by omega
      have HLEN : Hid (l.length ≤ 140737488351232) := Lib.hid (by have := HU.out.1; have := HS.out; omega)
      have HNEW : Hid (RowB (w.heap.size + 1) u4 l (wr.alloc (.cells #[.int .u8 y] 5)).drew) := Lib.hid ((HR.out.alloc _).drew)
      have HCEL : Hid (∀ j u, (Lib.byteCells [un16 a b])[j]? = some u → (wr.alloc (.cells #[.int .u8 y] 5)).drew.cell? ((⟨wr.heap.size, 0, none⟩ : Addr).add j) = some u) := Lib.hid (one_cells HY.out (by go_simp))
      have HSIZ : Hid (w.heap.size + 1 ≤ (wr.alloc (.cells #[.int .u8 y] 5)).drew.heap.size) := Lib.hid (by have := HBl.out.size; simp at this ⊢; omega)
      have HBN := Lib.hid ((HBl.out.alloc HBl.out.size (.cells #[.int .u8 y] 5)).drew)
      have HKW : Hid (wrap64 ((k : Int) + 2) = ((k + 2 : Nat) : Int)) := Lib.hid (by rw [rwrap64 (by omega)]; omega)
      have HLE1 : Hid (k + 2 ≤ s.size) := Lib.hid hlt
      have HMS : Hid (s.size - (k + 2) < s.size - k) := Lib.hid (by omega)
      clear ha hb hh1 hh2 hdr hy hu16 r1 r2
      go_upto_region 11 with fail
      go_region_law (first
        | (go_simp; go_at_call 44; (first | ((with_reducible refine (HC1.out _).mono ?_)) | ((with_reducible refine (HC2.out _).mono ?_))); rintro e w9 ⟨rfl, rfl⟩)
        | (refine rowB_step _ rfl (.tmp 40) (.tmp 53) rfl (w.heap.size + 1) u4 _ ?_ HNEW.out ⟨wr.heap.size, 0, none⟩ 1 1 _ ?_ rfl (by decide) HCEL.out ?_ HSIZ.out ?_; (go_must (simp [Act.eval])); (go_must (simp [Act.eval])); (go_must (have := HLEN.out; omega)); (go_must (intro v' w2 HR2 HB2))))
      all_goals
        have HR3 := Lib.hid HR2
        have HB3 := Lib.hid (HBN.out.trans (HB2.mono (by simp)))
        clear HR2 HB2 HNEW HCEL HSIZ HBN q1 q2 q3 q4 hin htn hkI HC1 HC2 HLEN
        go_wp2
        go_roundw
        case rel => exact ⟨k + 2, l ++ [un16 a b], by omega, HLE1.out, by go_num, HSTEP, HR3, HB3⟩
        case measure => simp [intOf]; omega
    · have hge : ¬ (k : Int) + 1 < (s.size : Int) := by omega
      have hk0 : (0 : Int) ≤ (k : Int) := by omega
      have hcv := HR.out.conv'
      obtain ⟨⟨c0, c1, c2⟩, f0, f1, f2⟩ := res_cells HBl.out
      have H2 := Lib.hid (below_set3 (HB0.out.trans (HBl.out.mono HB0.out.size)))
      have HRD2 : Hid (Reads s.toList (vl 4 0 ⟨l.toArray⟩)) := Lib.hid (by
        have e := HU.out.2
        rw [unhex_few (by rw [List.length_drop, ba_size]; omega), List.append_nil] at e
        show Reads s.toList ⟨4, 0, (ByteArray.mk l.toArray).toList⟩
        rw [ba_mk1 l, e]
        exact HRD.out)
      clear HR HBl HU
      go_wp2
      refine bodyPost_ret (v := vlv 4 0 ⟨l.toArray⟩) (by simp [results, Tryd.results19, go_sem, c0, c1, c2]) rfl ?_
      exact ⟨4, 0, _, rfl, ⟨by omega, by omega⟩, HRD2.out, H2.out _ _ _⟩

end Go.Proofs.YtcpfohjejhkgbaaDoor
