/-
  Contracts of the document's own answer for an In: Left, Done, Num.
-/
import Derived.Test.YticaonmifblnbaaPackStays
namespace Go.Proofs.Yticaonmifblnbaa
open Go Go.RowKit Go.Lib
set_option linter.unusedVariables false

/-- The document's In in block r: its bytes, how many are taken, whether it is bad. -/
structure RefAt (w : World) (r : Nat) (v : Value) (bs : List UInt8) (at' : Nat) (bad : Bool) : Prop where
  cell : w.heap[r]? = some (.cells #[v, .int .i64 at', .bool bad] 36 (0, 0))
  sl : SlB w v bs
  le : at' ≤ bs.length
  len : bs.length ≤ 140737488355328

theorem RefAt.cell0 {w : World} {r : Nat} {v : Value} {bs : List UInt8} {a : Nat} {bad : Bool} (h : RefAt w r v bs a bad) : w.cell? ⟨r, 0, none⟩ = some v := by simp [World.cell?, h.cell]
theorem RefAt.cell1 {w : World} {r : Nat} {v : Value} {bs : List UInt8} {a : Nat} {bad : Bool} (h : RefAt w r v bs a bad) : w.cell? ⟨r, 1, none⟩ = some (.int .i64 a) := by simp [World.cell?, h.cell]
theorem RefAt.cell2 {w : World} {r : Nat} {v : Value} {bs : List UInt8} {a : Nat} {bad : Bool} (h : RefAt w r v bs a bad) : w.cell? ⟨r, 2, none⟩ = some (.bool bad) := by simp [World.cell?, h.cell]
theorem RefAt.free {w : World} {r : Nat} {v : Value} {bs : List UInt8} {a : Nat} {bad : Bool} (h : RefAt w r v bs a bad) (o : Nat) : w.frozen? ⟨r, o, none⟩ = false := by simp [World.frozen?, h.cell]

theorem only_drewN (S : Nat → Prop) (w : World) (n : Nat) : Only S w (w.drewN n) := (Only.refl S w).drewN n
theorem RefAt.keep {S : Nat → Prop} {w w' : World} {r : Nat} {v : Value} {bs : List UInt8} {a : Nat} {bad : Bool} (h : RefAt w r v bs a bad) (ho : Only S w w') (hr : ¬ S r) (hS : ∀ k cur, w.heap[k]? = some (.cells cur 5 (0, 0)) → ¬ S k) : RefAt w' r v bs a bad :=
  ⟨ho.keep h.cell hr, h.sl.keep ho hS, h.le, h.len⟩
theorem RefAt.bad {w : World} {r : Nat} {v : Value} {bs : List UInt8} {a : Nat} {bad : Bool} (h : RefAt w r v bs a bad) (b : Bool) : RefAt (w.setCell ⟨r, 2, none⟩ (.bool b)) r v bs a b :=
  ⟨by rw [heap_set h.cell]; rfl, h.sl.setCell h.cell (by decide) 2 _, h.le, h.len⟩
theorem RefAt.move {w : World} {r : Nat} {v : Value} {bs : List UInt8} {a : Nat} {bad : Bool} (h : RefAt w r v bs a bad) (n : Nat) (hn : n ≤ bs.length) : RefAt (w.setCell ⟨r, 1, none⟩ (.int .i64 n)) r v bs n bad :=
  ⟨by rw [heap_set h.cell]; rfl, h.sl.setCell h.cell (by decide) 1 _, hn, h.len⟩

set_option maxHeartbeats 400000 in
theorem refLeft (r : Nat) (v : Value) (bs : List UInt8) (a : Nat) (bad : Bool) (w : World) (h : RefAt w r v bs a bad) :
    Calls Try.prog 19 #[.pointer (some ⟨r, 0, none⟩)] w fun e w' => e = .returned (.int .i64 ((bs.length : Int) - (a : Int))) ∧ ∃ n, w' = w.drewN n := by
  obtain ⟨ao, cap, rfl, _⟩ := h.sl.shape
  have h0 := h.cell0
  have h1 := h.cell1
  have hle := h.le
  have hlen := h.len
  have HR := Lib.hid h; clear h
  go_enter Try.func19, Try.ntmps19
  go_wp2
  go_quiet (fail)
  go_wp2
  go_ret
  exact ⟨rfl, _, rfl⟩

set_option maxHeartbeats 400000 in
theorem refDone_bad (r : Nat) (v : Value) (bs : List UInt8) (a : Nat) (w : World) (h : RefAt w r v bs a true) :
    Calls Try.prog 21 #[.pointer (some ⟨r, 0, none⟩)] w fun e w' => e = .returned (.bool false) ∧ ∃ n, w' = w.drewN n := by
  obtain ⟨ao, cap, rfl, _⟩ := h.sl.shape
  have h0 := h.cell0
  have h1 := h.cell1
  have h2 := h.cell2
  have HR := Lib.hid h; clear h
  go_enter Try.func21, Try.ntmps21
  go_wp2
  go_quiet (fail)
  go_wp2
  go_ret
  exact ⟨rfl, _, rfl⟩

set_option maxHeartbeats 400000 in
theorem refDone_good (r : Nat) (v : Value) (bs : List UInt8) (a : Nat) (w : World) (h : RefAt w r v bs a false) :
    Calls Try.prog 21 #[.pointer (some ⟨r, 0, none⟩)] w fun e w' => e = .returned (.bool (decide (a = bs.length))) ∧ ∃ n, w' = w.drewN n := by
  obtain ⟨ao, cap, rfl, _⟩ := h.sl.shape
  have h0 := h.cell0
  have h1 := h.cell1
  have h2 := h.cell2
  have HR := Lib.hid h; clear h
  go_enter Try.func21, Try.ntmps21
  go_wp2
  go_quiet (fail)
  go_wp2
  go_ret
  refine ⟨?_, _, rfl⟩
  show Ending.returned (.bool ((a : Int) == (bs.length : Int))) = _
  have : ((a : Int) == (bs.length : Int)) = decide (a = bs.length) := by rw [Bool.eq_iff_iff]; simp; omega
  rw [this]

set_option maxHeartbeats 400000 in
theorem refNum_bad (r n : Nat) (v : Value) (bs : List UInt8) (a : Nat) (w : World) (h : RefAt w r v bs a true) :
    Calls Try.prog 39 #[.pointer (some ⟨r, 0, none⟩), .int .i64 n] w fun e w' => e = .returned (.int .u64 0) ∧ w.setCell ⟨r, 2, none⟩ (.bool true) = w' := by
  have h2 := h.cell2
  have hf := h.free 2
  have HR := Lib.hid h; clear h
  go_enter Try.func39, Try.ntmps39
  go_wp2
  go_ret
  exact ⟨rfl, rfl⟩

set_option maxHeartbeats 400000 in
theorem refNum_short (r n : Nat) (v : Value) (bs : List UInt8) (a : Nat) (w : World) (h : RefAt w r v bs a false) (hn : bs.length < a + n) (hn8 : n ≤ 8) :
    Calls Try.prog 39 #[.pointer (some ⟨r, 0, none⟩), .int .i64 n] w fun e w' => e = .returned (.int .u64 0) ∧ ∃ q, (w.drewN q).setCell ⟨r, 2, none⟩ (.bool true) = w' := by
  have h2 := h.cell2
  have hf := h.free 2
  have hlt : (bs.length : Int) - (a : Int) < (n : Int) := by omega
  have HR := Lib.hid h; clear h
  go_enter Try.func39, Try.ntmps39
  go_wp2_with fail
  refine (refLeft r v bs a false w HR.out).mono ?_
  rintro e w' ⟨rfl, q, rfl⟩
  go_wp2
  go_ret
  exact ⟨rfl, q, rfl⟩

theorem RefAt.drewN {w : World} {r : Nat} {v : Value} {bs : List UInt8} {a : Nat} {bad : Bool} (h : RefAt w r v bs a bad) (n : Nat) : RefAt (w.drewN n) r v bs a bad :=
  h.keep (only_drewN (fun _ => False) w n) (fun h => h) (fun _ _ _ h => h)

set_option maxHeartbeats 400000 in
theorem refNum_ok (r n : Nat) (v : Value) (bs : List UInt8) (a : Nat) (w : World) (h : RefAt w r v bs a false) (hn : a + n ≤ bs.length) (hn8 : n ≤ 8) :
    Calls Try.prog 39 #[.pointer (some ⟨r, 0, none⟩), .int .i64 n] w fun e w' => e = .returned (.int .u64 (numB ((bs.drop a).take n))) ∧ ∃ q, (w.drewN q).setCell ⟨r, 1, none⟩ (.int .i64 ((a + n : Nat) : Int)) = w' := by
  have h2 := h.cell2
  have h1 := h.cell1
  have hf := h.free 1
  have hlen := h.len
  obtain ⟨ao, cap, rfl, _⟩ := h.sl.shape
  have h0 := h.cell0
  have hge : ¬ (bs.length : Int) - (a : Int) < (n : Int) := by omega
  obtain ⟨ys, hys⟩ : ∃ ys, ys = (bs.drop a).take n := ⟨_, rfl⟩
  have HYL : Hid (ys.length = n) := by show _ = _; rw [hys]; simp; omega
  have HYG : Hid (∀ k, k < n → ys.getD k 0 = bs.getD (a + k) 0) := by
    intro k hk
    rw [hys]
    simp [List.getD_eq_getElem?_getD, List.getElem?_take, hk]
  rw [← hys]
  have HR := Lib.hid h; clear h hys
  go_enter Try.func39, Try.ntmps39
  go_wp2_with fail
  refine (refLeft r _ bs a false w HR.out).mono ?_
  rintro e w' ⟨rfl, q, rfl⟩
  go_wp2_with fail
  go_loopw [5, 6] (fun x i wr => ∃ (k q : Nat), k ≤ n ∧ i = .int .i64 k ∧ x = .int .u64 (numB (ys.take k)) ∧ wr = w.drewN q) (fun _ i _ => n - (intOf i).toNat)
  case atStart => exact ⟨0, _, Nat.zero_le _, rfl, rfl, rfl⟩
  case round =>
    obtain ⟨k, q, hk, rfl, rfl, rfl⟩ := hrel
    by_cases hlt : k < n
    · obtain ⟨g, off, hao, hcell⟩ := HR.out.sl.cells (k := a + k) (by omega)
      have hbd : (bs.getD (a + k) 0).toNat < 256 := (bs.getD (a + k) 0).toNat_lt
      have HNB := Lib.hid (numB_take_lt ys k (by rw [HYL.out]; exact hlt) (by rw [HYL.out]; exact hn8))
      obtain ⟨x, hx⟩ : ∃ x, x = numB (ys.take k) := ⟨_, rfl⟩
      rw [← hx]
      have hxb : x < 72057594037927936 := by rw [hx]; exact HNB.out
      obtain ⟨b, hb⟩ : ∃ b : UInt8, b = bs.getD (a + k) 0 := ⟨_, rfl⟩
      rw [← hb] at hcell hbd
      have HX := Lib.hid hx; clear hx
      have HB := Lib.hid hb; clear hb
      subst hao
      have s1 : IntKind.i64.wrap ((a : Int) + (k : Int)) = (a : Int) + (k : Int) := IntWalk.i64_in _ (by omega)
      have s2 : ((a : Int) + (k : Int)).toNat = a + k := by omega
      have s3 : (0 : Int) ≤ (a : Int) + (k : Int) := by omega
      have s4 : (a : Int) + (k : Int) < (bs.length : Int) := by omega
      go_wp2
      go_quiet (fail)
      have HV : Hid (Value.int .u64 ((x : Int) * 256 + (b.toNat : Int)) = .int .u64 (numB (ys.take (k + 1)))) := by
        show _ = _
        rw [take_snoc8 ys k (by rw [HYL.out]; exact hlt), numB_snoc, HYG.out k hlt, ← HB.out, ← HX.out]
        congr 1
      go_wp2
      go_roundw
      case rel => exact ⟨k + 1, q + nq, by omega, by go_num, HV.out, rfl⟩
      case measure => simp [intOf]; omega
    · have hke : k = n := by omega
      subst hke
      have HE : Hid (ys.take k = ys) := List.take_of_length_le (by rw [HYL.out]; exact Nat.le_refl _)
      rw [HE.out]
      go_wp2
      go_ret
      exact ⟨rfl, q, by first | rfl | (congr 2; omega)⟩

end Go.Proofs.Yticaonmifblnbaa
