/-
  The text of a value: package value's Text.
-/
import Derived.Test.YtcpfohjejhkgbaaDoorVal5
namespace Go.Proofs.YtcpfohjejhkgbaaDoor
open Go Go.RowKit
set_option linter.unusedVariables false
set_option linter.unusedSimpArgs false
set_option maxRecDepth 100000

theorem ret_ba {a b : ByteArray} (h : a.toList = b.toList) : Ending.returned (Value.string a) = .returned (.string b) := by rw [ba_eq h]
/-- What a value's cells hold behind a call. -/
theorem val_cells {K N : Int} {s : ByteArray} {w w1 : World} {t : TypeId} (hb : Below (w.alloc (.cells #[.int .i64 K, .int .u64 N, .string s] t)).heap.size (w.alloc (.cells #[.int .i64 K, .int .u64 N, .string s] t)) w1) :
    w1.cell? ⟨w.heap.size, 0, none⟩ = some (.int .i64 K) ∧ w1.cell? ⟨w.heap.size, 1, none⟩ = some (.int .u64 N) ∧ w1.cell? ⟨w.heap.size, 2, none⟩ = some (.string s) := by
  refine ⟨?_, ?_, ?_⟩ <;> (rw [hb.cell (by simp <;> omega)]; go_simp)
theorem bl_mk (l : List UInt8) : (ByteArray.mk l.toArray).size = l.length := by rw [← ba_size, ByteArray.toList_mk]
theorem ba117 : (ByteArray.mk #[117]).toList = [117] := ByteArray.toList_mk [117]
theorem ba120 : (ByteArray.mk #[120]).toList = [120] := ByteArray.toList_mk [120]
theorem ba34 : (ByteArray.mk #[34]).toList = [34] := ByteArray.toList_mk [34]
theorem baNull : (ByteArray.mk #[110, 117, 108, 108]).toList = tNull := ByteArray.toList_mk [110, 117, 108, 108]
theorem vt_no {v : Vl} (h : v.okB = false) : vtext v = [] := by rw [vtext, if_pos h]
theorem ok_size {K N : Int} {s : ByteArray} (h : (vl K N s).okB = true) : s.size ≤ 64 := by
  have hs := ba_size s
  simp only [Vl.okB] at h
  by_cases k0 : K = 0
  · rw [if_pos k0] at h; simp at h; rw [h.2] at hs; simp at hs; omega
  rw [if_neg k0] at h
  by_cases k12 : K = 1 ∨ K = 2
  · rw [if_pos k12] at h; simp at h; rw [h] at hs; simp at hs; omega
  rw [if_neg k12] at h
  by_cases k3 : K = 3
  · rw [if_pos k3] at h; simp at h; rw [h.2] at hs; simp at hs; omega
  rw [if_neg k3] at h
  by_cases k4 : K = 4
  · rw [if_pos k4] at h; simp at h; omega
  rw [if_neg k4] at h
  by_cases k5 : K = 5
  · rw [if_pos k5] at h; simp at h; omega
  rw [if_neg k5] at h
  cases h
theorem ok_kind {K N : Int} {s : ByteArray} (h : (vl K N s).okB = true) : K = 0 ∨ K = 1 ∨ K = 2 ∨ K = 3 ∨ K = 4 ∨ K = 5 := by
  simp only [Vl.okB] at h
  by_cases k0 : K = 0
  · exact .inl k0
  rw [if_neg k0] at h
  by_cases k12 : K = 1 ∨ K = 2
  · omega
  rw [if_neg k12] at h
  by_cases k3 : K = 3
  · omega
  rw [if_neg k3] at h
  by_cases k4 : K = 4
  · omega
  rw [if_neg k4] at h
  by_cases k5 : K = 5
  · omega
  rw [if_neg k5] at h
  cases h
theorem vt0 {N : Int} {s : ByteArray} (h : (vl 0 N s).okB = true) : vtext (vl 0 N s) = tNull := by rw [vtext, if_neg (by rw [h]; decide)]; rfl
theorem vt1 {N : Int} {s : ByteArray} (h : (vl 1 N s).okB = true) : vtext (vl 1 N s) = if sgn N.toNat < 0 then 45 :: dig (M64 - N.toNat) else dig N.toNat := by rw [vtext, if_neg (by rw [h]; decide)]; rfl
theorem vt2 {N : Int} {s : ByteArray} (h : (vl 2 N s).okB = true) : vtext (vl 2 N s) = dig N.toNat ++ [117] := by rw [vtext, if_neg (by rw [h]; decide)]; rfl
theorem vt3 {N : Int} {s : ByteArray} (h : (vl 3 N s).okB = true) : vtext (vl 3 N s) = if N.toNat = 1 then tTrue else tFalse := by rw [vtext, if_neg (by rw [h]; decide)]; rfl
theorem vt4 {N : Int} {s : ByteArray} (h : (vl 4 N s).okB = true) : vtext (vl 4 N s) = 120 :: hexB s.toList := by rw [vtext, if_neg (by rw [h]; decide)]; rfl
theorem vt5 {N : Int} {s : ByteArray} (h : (vl 5 N s).okB = true) : vtext (vl 5 N s) = 34 :: (escB s.toList ++ [34]) := by rw [vtext, if_neg (by rw [h]; decide)]; rfl

set_option maxHeartbeats 2000000 in
theorem text_any {K N : Int} {s : ByteArray} (hN : U64 N) (w : World) (hT : Tabs w) :
    Calls Tryd.prog 5 #[vlv K N s] w fun e w' => e = .returned (.string ⟨(vtext (vl K N s)).toArray⟩) ∧ Below w.heap.size w w' := by
  have HB := Lib.hid (fun o => (Below.refl w.heap.size w).alloc (Nat.le_refl _) o)
  have HT := Lib.hid (fun o => hT.keep (HB.out o))
  clear hT
  by_cases ho : (vl K N s).okB = true
  case neg =>
    have ho : (vl K N s).okB = false := by simpa using ho
    have HOK := Lib.hid ho
    rw [vt_no ho]
    clear ho
    go_enter Tryd.func5, Tryd.ntmps5
    go_wp2_with fail
    refine (valid_any hN _ (HT.out _)).mono ?_
    rintro e w1 ⟨rfl, hb1⟩
    rw [HOK.out]
    have H1 := Lib.hid ((HB.out _).trans (hb1.mono (by simp)))
    clear hb1
    go_wp2
    go_ret
    exact ⟨rfl, H1.out⟩
  have HOK := Lib.hid ho
  have HSZ := Lib.hid (ok_size ho)
  rcases ok_kind ho with rfl | rfl | rfl | rfl | rfl | rfl
  · rw [vt0 ho]
    clear ho
    go_enter Tryd.func5, Tryd.ntmps5
    go_wp2_with fail
    refine (valid_any hN _ (HT.out _)).mono ?_
    rintro e w1 ⟨rfl, hb1⟩
    rw [HOK.out]
    obtain ⟨c0, c1, c2⟩ := val_cells hb1
    have H1 := Lib.hid ((HB.out _).trans (hb1.mono (by simp)))
    clear hb1
    go_wp2
    go_ret
    exact ⟨rfl, H1.out⟩
  · rw [vt1 ho]
    have HF := Lib.hid (fun w ht => fmt_int N hN w ht)
    have hw := conv_sgn hN
    obtain ⟨X, hX⟩ : ∃ X, (if sgn N.toNat < 0 then 45 :: dig (M64 - N.toNat) else dig N.toNat) = X := ⟨_, rfl⟩
    rw [hX] at HF ⊢
    clear ho hX
    go_enter Tryd.func5, Tryd.ntmps5
    go_wp2_with fail
    refine (valid_any hN _ (HT.out _)).mono ?_
    rintro e w1 ⟨rfl, hb1⟩
    rw [HOK.out]
    obtain ⟨c0, c1, c2⟩ := val_cells hb1
    have HT1 := Lib.hid ((HT.out _).keep hb1)
    have H1 := Lib.hid ((HB.out _).trans (hb1.mono (by simp)))
    clear hb1
    go_wp2_with fail
    refine (HF.out _ HT1.out.pow).mono ?_
    rintro e w2 ⟨rfl, hb2⟩
    have H2 := Lib.hid (H1.out.trans (hb2.mono H1.out.size))
    clear hb2
    go_wp2
    go_ret
    exact ⟨rfl, H2.out⟩
  · rw [vt2 ho]
    have hl20 := dig_len20 (n := N.toNat) (by have := hN.hi; unfold M64; omega)
    have HF := Lib.hid (fun w ht => fmt_uint N hN w ht)
    obtain ⟨y, hy⟩ : ∃ y : ByteArray, (⟨(dig N.toNat).toArray⟩ : ByteArray) = y := ⟨_, rfl⟩
    have hys : y.size ≤ 20 := by rw [← hy, bl_mk]; exact hl20
    have HY : Hid (y.toList = dig N.toNat) := Lib.hid (by rw [← hy, ByteArray.toList_mk])
    rw [hy] at HF
    have hyi : (y.size : Int) ≤ 8388608 := by omega
    clear ho hy hl20 hys
    go_enter Tryd.func5, Tryd.ntmps5
    go_wp2_with fail
    refine (valid_any hN _ (HT.out _)).mono ?_
    rintro e w1 ⟨rfl, hb1⟩
    rw [HOK.out]
    obtain ⟨c0, c1, c2⟩ := val_cells hb1
    have HT1 := Lib.hid ((HT.out _).keep hb1)
    have H1 := Lib.hid ((HB.out _).trans (hb1.mono (by simp)))
    clear hb1
    go_wp2_with fail
    refine (HF.out _ HT1.out.pow).mono ?_
    rintro e w2 ⟨rfl, hb2⟩
    have H2 := Lib.hid (H1.out.trans (hb2.mono H1.out.size))
    clear hb2
    go_wp2
    go_ret
    exact ⟨ret_ba (by rw [ba_append, HY.out, ba117, ByteArray.toList_mk (dig N.toNat ++ [117])]), H2.out⟩
  · rw [vt3 ho]
    obtain ⟨X, hX⟩ : ∃ X, (if N.toNat = 1 then tTrue else tFalse) = X := ⟨_, rfl⟩
    have HF : Hid (Lib.formatBool (N == 1) = X) := Lib.hid (by
      rw [← hX]
      have := hN.lo
      by_cases h : N = 1
      · subst h; rfl
      · rw [if_neg (by omega), show (N == 1) = false by simpa using h]; rfl)
    rw [hX]
    clear ho hX
    go_enter Tryd.func5, Tryd.ntmps5
    go_wp2_with fail
    refine (valid_any hN _ (HT.out _)).mono ?_
    rintro e w1 ⟨rfl, hb1⟩
    rw [HOK.out]
    obtain ⟨c0, c1, c2⟩ := val_cells hb1
    have H1 := Lib.hid ((HB.out _).trans (hb1.mono (by simp)))
    clear hb1
    go_wp2_with fail
    refine (Tryd.strconv_FormatBool _ _).mono ?_
    rintro e w2 ⟨rfl, rfl⟩
    rw [HF.out]
    go_wp2
    go_ret
    exact ⟨rfl, H1.out⟩
  · rw [vt4 ho]
    have HF := Lib.hid (fun w => hex_any s w (by have := HSZ.out; omega))
    obtain ⟨y, hy⟩ : ∃ y : ByteArray, (⟨(hexB s.toList).toArray⟩ : ByteArray) = y := ⟨_, rfl⟩
    have hys : y.size ≤ 128 := by rw [← hy, bl_mk, hexB_length, ba_size]; have := HSZ.out; omega
    have HY : Hid (y.toList = hexB s.toList) := Lib.hid (by rw [← hy, ByteArray.toList_mk])
    rw [hy] at HF
    have hyi : (y.size : Int) ≤ 8388608 := by omega
    clear ho hy hys
    go_enter Tryd.func5, Tryd.ntmps5
    go_wp2_with fail
    refine (valid_any hN _ (HT.out _)).mono ?_
    rintro e w1 ⟨rfl, hb1⟩
    rw [HOK.out]
    obtain ⟨c0, c1, c2⟩ := val_cells hb1
    have H1 := Lib.hid ((HB.out _).trans (hb1.mono (by simp)))
    clear hb1
    go_wp2_with fail
    refine (HF.out _).mono ?_
    rintro e w2 ⟨rfl, hb2⟩
    have H2 := Lib.hid (H1.out.trans (hb2.mono H1.out.size))
    clear hb2
    go_wp2
    go_ret
    exact ⟨ret_ba (by rw [ba_append, HY.out, ba120, ByteArray.toList_mk (120 :: hexB s.toList)]; rfl), H2.out⟩
  · rw [vt5 ho]
    have HF := Lib.hid (fun w => escape_any s w (by have := HSZ.out; omega))
    obtain ⟨y, hy⟩ : ∃ y : ByteArray, (⟨(escB s.toList).toArray⟩ : ByteArray) = y := ⟨_, rfl⟩
    have hys : y.size ≤ 192 := by rw [← hy, bl_mk]; have := escB_length s.toList; have := HSZ.out; have := ba_size s; omega
    have HY : Hid (y.toList = escB s.toList) := Lib.hid (by rw [← hy, ByteArray.toList_mk])
    rw [hy] at HF
    have hyi : (y.size : Int) ≤ 8388607 := by omega
    clear ho hy hys
    go_enter Tryd.func5, Tryd.ntmps5
    go_wp2_with fail
    refine (valid_any hN _ (HT.out _)).mono ?_
    rintro e w1 ⟨rfl, hb1⟩
    rw [HOK.out]
    obtain ⟨c0, c1, c2⟩ := val_cells hb1
    have H1 := Lib.hid ((HB.out _).trans (hb1.mono (by simp)))
    clear hb1
    go_wp2_with fail
    refine (HF.out _).mono ?_
    rintro e w2 ⟨rfl, hb2⟩
    have H2 := Lib.hid (H1.out.trans (hb2.mono H1.out.size))
    clear hb2
    go_wp2
    go_ret
    exact ⟨ret_ba (by rw [ba_append, ba_append, HY.out, ba34, ByteArray.toList_mk (34 :: (escB s.toList ++ [34]))]; rfl), H2.out⟩

end Go.Proofs.YtcpfohjejhkgbaaDoor
