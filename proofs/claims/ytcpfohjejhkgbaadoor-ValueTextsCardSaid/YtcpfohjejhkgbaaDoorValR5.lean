/-
  The reference's Text: of what is no value, and of the kinds 0 to 3.
-/
import Derived.Test.YtcpfohjejhkgbaaDoorValR4
namespace Go.Proofs.YtcpfohjejhkgbaaDoor
open Go Go.RowKit
set_option linter.unusedVariables false
set_option linter.unusedSimpArgs false
set_option maxRecDepth 100000

theorem rdig_u {N : Int} (hN : U64 N) (w : World) :
    Calls Tryd.prog 21 #[.int .u64 N] w fun e w' => e = .returned (.string ⟨(dig N.toNat).toArray⟩) ∧ Below w.heap.size w w' := by
  have h := rdig_any N.toNat N.toNat (Nat.le_refl _) (u64_m hN) w
  rw [Int.toNat_of_nonneg hN.lo] at h
  exact h
/-- What the reference's Text answers. -/
def RTextRet (K N : Int) (s : ByteArray) (w : World) (e : Ending) (w' : World) : Prop :=
  e = .returned (.string ⟨(vtext (vl K N s)).toArray⟩) ∧ Below w.heap.size w w'

set_option maxHeartbeats 2000000 in
theorem rtext_low {K N : Int} {s : ByteArray} (hN : U64 N) (w : World) (hK : (vl K N s).okB = false ∨ (K ≠ 4 ∧ K ≠ 5)) :
    Calls Tryd.prog 8 #[vlv K N s] w fun e w' => e = .returned (.string ⟨(vtext (vl K N s)).toArray⟩) ∧ Below w.heap.size w w' := by
  have HB := Lib.hid (fun o => (Below.refl w.heap.size w).alloc (Nat.le_refl _) o)
  by_cases ho : (vl K N s).okB = true
  case neg =>
    have ho : (vl K N s).okB = false := by simpa using ho
    have HOK := Lib.hid ho
    rw [vt_no ho]
    clear ho hK
    go_enter Tryd.func8, Tryd.ntmps8
    go_wp2_with fail
    refine (rvalid_any hN _).mono ?_
    rintro e w1 ⟨rfl, hb1⟩
    rw [HOK.out]
    have H1 := Lib.hid ((HB.out _).trans (hb1.mono (by simp)))
    clear hb1
    go_wp2
    go_ret
    exact ⟨rfl, H1.out⟩
  have HOK := Lib.hid ho
  have hK : K ≠ 4 ∧ K ≠ 5 := by
    rcases hK with h | h
    · rw [h] at ho; cases ho
    · exact h
  rcases ok_kind ho with rfl | rfl | rfl | rfl | rfl | rfl
  · rw [vt0 ho]
    clear ho hK
    go_enter Tryd.func8, Tryd.ntmps8
    go_wp2_with fail
    refine (rvalid_any hN _).mono ?_
    rintro e w1 ⟨rfl, hb1⟩
    rw [HOK.out]
    obtain ⟨c0, c1, c2⟩ := val_cells hb1
    have H1 := Lib.hid ((HB.out _).trans (hb1.mono (by simp)))
    clear hb1
    go_wp2
    go_ret
    exact ⟨rfl, H1.out⟩
  · rw [vt1 ho]
    have hw := conv_sgn hN
    obtain ⟨m, hm⟩ : ∃ m, sgn N.toNat = m := ⟨_, rfl⟩
    rw [hm] at hw ⊢
    by_cases h0 : m < 0
    · rw [if_pos h0]
      obtain ⟨c, hc⟩ : ∃ c, IntKind.u64.wrap (-N) = c := ⟨_, rfl⟩
      have hv63 : 9223372036854775808 ≤ N := by
        have := hN.lo
        unfold sgn at hm
        split at hm <;> omega
      have hcn : c.toNat = M64 - N.toNat := by have := hN.hi; rw [← hc, IntKind.wrap_u64]; unfold M64; omega
      have hc64 : U64 c := ⟨by rw [← hc, IntKind.wrap_u64]; omega, by rw [← hc, IntKind.wrap_u64]; omega⟩
      have HF := Lib.hid (fun W => rdig_u hc64 W)
      rw [hcn] at HF
      obtain ⟨D, hD⟩ : ∃ D, dig (M64 - N.toNat) = D := ⟨_, rfl⟩
      obtain ⟨y, hy⟩ : ∃ y : ByteArray, (⟨D.toArray⟩ : ByteArray) = y := ⟨_, rfl⟩
      have hyl : y.toList = D := by rw [← hy, ba_mk1]
      have hys : y.size ≤ 20 := by rw [← ba_size, hyl, ← hD]; exact dig_len20 (by unfold M64; omega)
      have HR : Hid ((⟨(45 :: dig (M64 - N.toNat)).toArray⟩ : ByteArray) = (⟨#[45]⟩ : ByteArray) ++ y) := Lib.hid (by
        apply ba_eq
        rw [ba_append, hyl, ba_mk1, hD, show (ByteArray.mk #[45]).toList = [45] from ByteArray.toList_mk [45]]; rfl)
      rw [hD, hy] at HF
      rw [HR.out]
      have hyi : (y.size : Int) ≤ 8388608 := by omega
      clear ho hm hv63 hcn hD hy hyl hys hK
      go_enter Tryd.func8, Tryd.ntmps8
      go_wp2_with fail
      refine (rvalid_any hN _).mono ?_
      rintro e w1 ⟨rfl, hb1⟩
      rw [HOK.out]
      obtain ⟨c0, c1, c2⟩ := val_cells hb1
      have H1 := Lib.hid ((HB.out _).trans (hb1.mono (by simp)))
      clear hb1
      go_wp2_with fail
      refine (HF.out _).mono ?_
      rintro e w2 ⟨rfl, hb2⟩
      have H2 := Lib.hid (H1.out.trans (hb2.mono H1.out.size))
      clear hb2
      go_wp2
      go_ret
      exact ⟨rfl, H2.out⟩
    · rw [if_neg h0]
      have HF := Lib.hid (fun W => rdig_u hN W)
      clear ho hm hK
      go_enter Tryd.func8, Tryd.ntmps8
      go_wp2_with fail
      refine (rvalid_any hN _).mono ?_
      rintro e w1 ⟨rfl, hb1⟩
      rw [HOK.out]
      obtain ⟨c0, c1, c2⟩ := val_cells hb1
      have H1 := Lib.hid ((HB.out _).trans (hb1.mono (by simp)))
      clear hb1
      go_wp2_with fail
      refine (HF.out _).mono ?_
      rintro e w2 ⟨rfl, hb2⟩
      have H2 := Lib.hid (H1.out.trans (hb2.mono H1.out.size))
      clear hb2
      go_wp2
      go_ret
      exact ⟨rfl, H2.out⟩
  · rw [vt2 ho]
    have HF := Lib.hid (fun W => rdig_u hN W)
    obtain ⟨y, hy⟩ : ∃ y : ByteArray, (⟨(dig N.toNat).toArray⟩ : ByteArray) = y := ⟨_, rfl⟩
    have hyl : y.toList = dig N.toNat := by rw [← hy, ba_mk1]
    have hys : y.size ≤ 20 := by rw [← ba_size, hyl]; exact dig_len20 (by have := hN.hi; unfold M64; omega)
    have HY := Lib.hid hyl
    rw [hy] at HF
    have hyi : (y.size : Int) ≤ 8388608 := by omega
    clear ho hy hyl hys hK
    go_enter Tryd.func8, Tryd.ntmps8
    go_wp2_with fail
    refine (rvalid_any hN _).mono ?_
    rintro e w1 ⟨rfl, hb1⟩
    rw [HOK.out]
    obtain ⟨c0, c1, c2⟩ := val_cells hb1
    have H1 := Lib.hid ((HB.out _).trans (hb1.mono (by simp)))
    clear hb1
    go_wp2_with fail
    refine (HF.out _).mono ?_
    rintro e w2 ⟨rfl, hb2⟩
    have H2 := Lib.hid (H1.out.trans (hb2.mono H1.out.size))
    clear hb2
    go_wp2
    go_ret
    exact ⟨ret_ba (by rw [ba_append, HY.out, ba117, ByteArray.toList_mk (dig N.toNat ++ [117])]), H2.out⟩
  · rw [vt3 ho]
    have h0 := hN.lo
    by_cases h1 : N = 1
    · subst h1
      rw [if_pos (by decide)]
      clear ho hK
      go_enter Tryd.func8, Tryd.ntmps8
      go_wp2_with fail
      refine (rvalid_any hN _).mono ?_
      rintro e w1 ⟨rfl, hb1⟩
      rw [HOK.out]
      obtain ⟨c0, c1, c2⟩ := val_cells hb1
      have H1 := Lib.hid ((HB.out _).trans (hb1.mono (by simp)))
      clear hb1
      go_wp2
      go_ret
      exact ⟨rfl, H1.out⟩
    · rw [if_neg (by omega)]
      have hb : (N == 1) = false := by simpa using h1
      clear ho hK h1
      go_enter Tryd.func8, Tryd.ntmps8
      go_wp2_with fail
      refine (rvalid_any hN _).mono ?_
      rintro e w1 ⟨rfl, hb1⟩
      rw [HOK.out]
      obtain ⟨c0, c1, c2⟩ := val_cells hb1
      have H1 := Lib.hid ((HB.out _).trans (hb1.mono (by simp)))
      clear hb1
      go_wp2
      go_ret
      exact ⟨rfl, H1.out⟩
  · exact absurd rfl hK.1
  · exact absurd rfl hK.2

end Go.Proofs.YtcpfohjejhkgbaaDoor
