/-
  The text of a value: package value's Text.
-/
import Derived.Test.YtpedcpehomkikaaDoorVal5
namespace Go.Proofs.YtpedcpehomkikaaDoor
open Go Go.RowKit
set_option linter.unusedVariables false
set_option linter.unusedSimpArgs false
set_option maxRecDepth 100000

theorem ret_ba {a b : ByteArray} (h : a.toList = b.toList) : Ending.returned (Value.string a) = .returned (.string b) := by rw [ba_eq h]
/-- What a value's cells hold behind a call. -/
theorem val_cells {K N : Int} {s : ByteArray} {w w1 : World} {t : TypeId} (hb : Below (w.alloc (.cells #[.int .i64 K, .int .u64 N, .string s] t)).heap.size (w.alloc (.cells #[.int .i64 K, .int .u64 N, .string s] t)) w1) :
    w1.cell? ⟨w.heap.size, 0, none⟩ = some (.int .i64 K) ∧ w1.cell? ⟨w.heap.size, 1, none⟩ = some (.int .u64 N) ∧ w1.cell? ⟨w.heap.size, 2, none⟩ = some (.string s) := by
  refine ⟨?_, ?_, ?_⟩ <;> (rw [hb.cell (by simp <;> omega)]; go_simp)
theorem bl_mk (l : List UInt8) : (ByteArray.mk l.toArray).size = l.length := by rw [← ba_size, ByteArray.toList_mk]
theorem ba117 : (ByteArray.mk #[117]).toList = [117] := ByteArray.toList_mk [117]
theorem ba120 : (ByteArray.mk #[120]).toList = [120] := ByteArray.toList_mk [120]
theorem ba34 : (ByteArray.mk #[34]).toList = [34] := ByteArray.toList_mk [34]
theorem baNull : (ByteArray.mk #[110, 117, 108, 108]).toList = tNull := ByteArray.toList_mk [110, 117, 108, 108]
theorem vt_no {v : Vl} (h : v.okB = false) : vtext v = [] := by rw [vtext, if_pos h]
theorem ok_size {K N : Int} {s : ByteArray} (h : (vl K N s).okB = true) : s.size ≤ 64 := by
  have hs := ba_size s
  simp only [Vl.okB] at h
  by_cases k0 : K = 0
  · rw [if_pos k0] at h; simp at h; rw [h.2] at hs; simp at hs; omega
  rw [if_neg k0] at h
  by_cases k12 : K = 1 ∨ K = 2
  · rw [if_pos k12] at h; simp at h; rw [h] at hs; simp at hs; omega
  rw [if_neg k12] at h
  by_cases k3 : K = 3
  · rw [if_pos k3] at h; simp at h; rw [h.2] at hs; simp at hs; omega
  rw [if_neg k3] at h
  by_cases k4 : K = 4
  · rw [if_pos k4] at h; simp at h; omega
  rw [if_neg k4] at h
  by_cases k5 : K = 5
  · rw [if_pos k5] at h; simp at h; omega
  rw [if_neg k5] at h
  cases h
theorem ok_kind {K N : Int} {s : ByteArray} (h : (vl K N s).okB = true) : K = 0 ∨ K = 1 ∨ K = 2 ∨ K = 3 ∨ K = 4 ∨ K = 5 := by
  simp only [Vl.okB] at h
  by_cases k0 : K = 0
  · exact .inl k0
  rw [if_neg k0] at h
  by_cases k12 : K = 1 ∨ K = 2
  · omega
  rw [if_neg k12] at h
  by_cases k3 : K = 3
  · omega
  rw [if_neg k3] at h
  by_cases k4 : K = 4
  · omega
  rw [if_neg k4] at h
  by_cases k5 : K = 5
  · omega
  rw [if_neg k5] at h
  cases h
theorem vt0 {N : Int} {s : ByteArray} (h : (vl 0 N s).okB = true) : vtext (vl 0 N s) = tNull := by rw [vtext, if_neg (by rw [h]; decide)]; rfl
theorem vt1 {N : Int} {s : ByteArray} (h : (vl 1 N s).okB = true) : vtext (vl 1 N s) = if sgn N.toNat < 0 then 45 :: dig (M64 - N.toNat) else dig N.toNat := by rw [vtext, if_neg (by rw [h]; decide)]; rfl
theorem vt2 {N : Int} {s : ByteArray} (h : (vl 2 N s).okB = true) : vtext (vl 2 N s) = dig N.toNat ++ [117] := by rw [vtext, if_neg (by rw [h]; decide)]; rfl
theorem vt3 {N : Int} {s : ByteArray} (h : (vl 3 N s).okB = true) : vtext (vl 3 N s) = if N.toNat = 1 then tTrue else tFalse := by rw [vtext, if_neg (by rw [h]; decide)]; rfl
theorem vt4 {N : Int} {s : ByteArray} (h : (vl 4 N s).okB = true) : vtext (vl 4 N s) = 120 :: hexB s.toList := by rw [vtext, if_neg (by rw [h]; decide)]; rfl
theorem vt5 {N : Int} {s : ByteArray} (h : (vl 5 N s).okB = true) : vtext (vl 5 N s) = 34 :: (escB s.toList ++ [34]) := by rw [vtext, if_neg (by rw [h]; decide)]; rfl


end Go.Proofs.YtpedcpehomkikaaDoor
