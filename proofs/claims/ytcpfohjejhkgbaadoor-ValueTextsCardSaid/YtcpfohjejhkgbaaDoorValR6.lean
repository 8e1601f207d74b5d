/-
  The reference's Text of Bytes.
-/
import Derived.Test.YtcpfohjejhkgbaaDoorValRow
namespace Go.Proofs.YtcpfohjejhkgbaaDoor
open Go Go.RowKit
set_option linter.unusedVariables false
set_option linter.unusedSimpArgs false
set_option maxRecDepth 100000

theorem two_cells {W : World} {p : Nat} {a b : UInt8} {y1 y2 : Int} (h1 : ((a.toNat : Nat) : Int) = y1) (h2 : ((b.toNat : Nat) : Int) = y2) (c1 : W.cell? ⟨p, 0, none⟩ = some (.int .u8 y1)) (c2 : W.cell? ⟨p, 1, none⟩ = some (.int .u8 y2)) :
    ∀ j u, (Lib.byteCells [a, b])[j]? = some u → W.cell? ((⟨p, 0, none⟩ : Addr).add j) = some u := by
  intro j u hj
  match j with
  | 0 => simp [Lib.byteCells] at hj; subst hj; rw [h1]; exact c1
  | 1 => simp [Lib.byteCells] at hj; subst hj; rw [h2]; exact c2
  | j + 2 => simp [Lib.byteCells] at hj
theorem one_cells {W : World} {p : Nat} {a : UInt8} {y : Int} (h1 : ((a.toNat : Nat) : Int) = y) (c1 : W.cell? ⟨p, 0, none⟩ = some (.int .u8 y)) :
    ∀ j u, (Lib.byteCells [a])[j]? = some u → W.cell? ((⟨p, 0, none⟩ : Addr).add j) = some u := by
  intro j u hj
  match j with
  | 0 => simp [Lib.byteCells] at hj; subst hj; rw [h1]; exact c1
  | j + 1 => simp [Lib.byteCells] at hj

theorem new_marked (W : World) (v : Value) (t : TypeId) (fz : Nat × Nat) : (W.alloc (.cells #[v] t fz)).cell? ⟨W.heap.size, 0, none⟩ = some v := by
  have : (W.alloc (.cells #[v] t fz)).heap[W.heap.size]? = some (.cells #[v] t fz) := by
    show (W.heap.push (.cells #[v] t fz))[W.heap.size]? = _
    simp
  unfold World.cell?
  rw [this]
  rfl
set_option maxHeartbeats 2000000 in
theorem rtext4 {N : Int} {s : ByteArray} (hN : U64 N) (w : World) (ho : (vl 4 N s).okB = true) :
    Calls Tryd.prog 8 #[vlv 4 N s] w fun e w' => e = .returned (.string ⟨(vtext (vl 4 N s)).toArray⟩) ∧ Below w.heap.size w w' := by
  have HB := Lib.hid (fun o => (Below.refl w.heap.size w).alloc (Nat.le_refl _) o)
  have HOK := Lib.hid ho
  have HSZ := Lib.hid (ok_size ho)
  rw [vt4 ho]
  clear ho
  have kc := fun (W : World) (C : Array Value) (n c : Nat) => Lib.run_convert_bytes_const (P := Tryd.prog) W 43 5 C n c Tryd.underlying43 Tryd.underlying5
  go_enter Tryd.func8, Tryd.ntmps8
  go_wp2_with fail
  refine (rvalid_any hN _).mono ?_
  rintro e w1 ⟨rfl, hb1⟩
  rw [HOK.out]
  obtain ⟨c0, c1, c2⟩ := val_cells hb1
  have H1 := Lib.hid ((HB.out _).trans (hb1.mono (by simp)))
  clear hb1 HB
  go_wp2_with fail
  clear kc
  have hb := (Below.refl w1.heap.size w1).alloc (Nat.le_refl _) (.cells #[.int .u8 120] 5 (1, 2))
  have hR : RowB w1.heap.size (.slice (some ⟨w1.heap.size, 0, none⟩) 1 1) [120] (w1.alloc (.cells #[.int .u8 120] 5 (1, 2))) :=
    .inl ⟨w1.heap.size, rfl, Nat.le_refl _, by simp, one_cells rfl (new_marked w1 _ _ _)⟩
  have HR := Lib.hid hR
  have HBl := Lib.hid hb
  clear hb hR
  go_loopw [3, 4] (fun vb vi wr => ∃ k : Nat, k ≤ s.size ∧ vi = .int .i64 k ∧ Hid (RowB w1.heap.size vb (120 :: hexB (s.toList.take k)) wr) ∧ Hid (Below w1.heap.size w1 wr)) (fun _ vi _ => s.size - (intOf vi).toNat)
  case atStart => exact ⟨0, Nat.zero_le _, rfl, HR, HBl⟩
  case round =>
    clear HR HBl
    obtain ⟨k, hk, rfl, HR, HBl⟩ := hrel
    rename_i u3
    replace c2 := keep0 c2 HBl.out
    clear c0 c1
    by_cases hlt : k < s.size
    · obtain ⟨c, hc⟩ : ∃ c, c = s[k] := ⟨_, rfl⟩
      obtain ⟨z, hz⟩ : ∃ z : Int, ((s[k]).toNat : Int) = z := ⟨_, rfl⟩
      obtain ⟨q, hq⟩ : ∃ q : Int, z.tdiv 16 = q := ⟨_, rfl⟩
      obtain ⟨r, hr⟩ : ∃ r : Int, z.tmod 16 = r := ⟨_, rfl⟩
      have hz0 : 0 ≤ z ∧ z < 256 := by have := (s[k]).toNat_lt; omega
      have hcz : (c.toNat : Int) = z := by rw [hc]; exact hz
      have hq' : q = ((c.toNat / 16 : Nat) : Int) := by rw [← hq, Int.tdiv_eq_ediv_of_nonneg hz0.1, ← hcz]; omega
      have hr' : r = ((c.toNat % 16 : Nat) : Int) := by rw [← hr, Int.tmod_eq_emod_of_nonneg hz0.1, ← hcz]; omega
      obtain ⟨y1, hy1⟩ : ∃ y1 : Int, ((hexd (c.toNat / 16)).toNat : Int) = y1 := ⟨_, rfl⟩
      obtain ⟨y2, hy2⟩ : ∃ y2 : Int, ((hexd (c.toNat % 16)).toNat : Int) = y2 := ⟨_, rfl⟩
      have hi1 := fun W => dig_index q (c.toNat / 16) hq' (by have := c.toNat_lt; omega) W
      have hi2 := fun W => dig_index r (c.toNat % 16) hr' (by omega) W
      rw [hy1] at hi1
      rw [hy2] at hi2
      have hq16 : 0 ≤ q ∧ q < 16 := by have := c.toNat_lt; omega
      have hr16 : 0 ≤ r ∧ r < 16 := by omega
      have wq : IntKind.u8.wrap q = q := by rw [IntKind.wrap_u8]; omega
      have wr8 : IntKind.u8.wrap r = r := by rw [IntKind.wrap_u8]; omega
      have HY1 := Lib.hid hy1
      have HY2 := Lib.hid hy2
      have HC := Lib.hid hc
      have hltI : (k : Int) < (s.size : Int) := by omega
      have HLEN : Hid ((120 :: hexB (s.toList.take k)).length ≤ 1000) := Lib.hid (by
        rw [List.length_cons, hexB_length]; have := List.length_take_le k s.toList; have := HSZ.out; omega)
      have HSTEP : Hid ((120 :: hexB (s.toList.take k)) ++ [hexd (c.toNat / 16), hexd (c.toNat % 16)] = 120 :: hexB (s.toList.take (k + 1))) := Lib.hid (by
        rw [take_step s k hlt, hexB_snoc, ← hc]; simp)
      clear hcz hq' hr' hy1 hy2 hc
      have HNEW : Hid (RowB w1.heap.size u3 (120 :: hexB (s.toList.take k)) (wr.alloc (.cells #[.int .u8 y1, .int .u8 y2] 5)).drew) := Lib.hid ((HR.out.alloc _).drew)
      have HCEL : Hid (∀ j u, (Lib.byteCells [hexd (c.toNat / 16), hexd (c.toNat % 16)])[j]? = some u → (wr.alloc (.cells #[.int .u8 y1, .int .u8 y2] 5)).drew.cell? ((⟨wr.heap.size, 0, none⟩ : Addr).add j) = some u) := Lib.hid (two_cells HY1.out HY2.out (by go_simp) (by go_simp))
      have HSIZ : Hid (w1.heap.size ≤ (wr.alloc (.cells #[.int .u8 y1, .int .u8 y2] 5)).drew.heap.size) := Lib.hid (by have := HBl.out.size; simp; omega)
      have HBN : Hid (Below w1.heap.size w1 (wr.alloc (.cells #[.int .u8 y1, .int .u8 y2] 5)).drew) := Lib.hid ((HBl.out.alloc HBl.out.size _).drew)
      have HKW : Hid (wrap64 ((k : Int) + 1) = ((k + 1 : Nat) : Int)) := Lib.hid (by have := HSZ.out; rw [rwrap64 (by omega)]; omega)
      have HLE1 : Hid (k + 1 ≤ s.size) := Lib.hid hlt
      have HMS : Hid (s.size - (k + 1) < s.size - k) := Lib.hid (by omega)
      go_upto_region 21 with fail
      go_region_law ((refine rowB_step _ rfl (.tmp 51) (.tmp 64) rfl w1.heap.size u3 _ ?_ HNEW.out ⟨wr.heap.size, 0, none⟩ 2 2 _ ?_ rfl (by decide) HCEL.out ?_ HSIZ.out ?_; (go_must (simp [Act.eval])); (go_must (simp [Act.eval])); (go_must (have := HLEN.out; omega)); (go_must (intro v' w2 HR2 HB2))))
      all_goals
        have HR3 := Lib.hid (HSTEP.out ▸ HR2)
        have HB3 := Lib.hid (HBN.out.trans HB2)
        clear HR2 HB2 HNEW HCEL HSIZ HBN HSTEP HLEN c2 hi1 hi2 hq hr wq wr8
        go_wp2
        go_roundw
        case rel => exact ⟨k + 1, HLE1.out, by rw [HKW.out], HR3, HB3⟩
        case measure => rw [HKW.out]; exact HMS.out
    · have hge : ¬ (k : Int) < (s.size : Int) := by omega
      have hcv := HR.out.conv (by simp)
      have HT : Hid (s.toList.take k = s.toList) := Lib.hid (List.take_of_length_le (by rw [ba_size]; omega))
      rw [HT.out] at hcv
      have H2 := Lib.hid (H1.out.trans (HBl.out.mono H1.out.size))
      clear HR HBl hk hlt
      go_wp2_with fail
      go_ret
      exact ⟨rfl, H2.out⟩

end Go.Proofs.YtcpfohjejhkgbaaDoor
