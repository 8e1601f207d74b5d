/-
  The document's own answers for blocks, first part: the In that it reads with (in a namespace of its own), and Count.
-/
import Derived.Test.YtidkeglldmbfeaaBlk6
import Derived.Test.YtidkeglldmbfeaaPackIn5
import Derived.Deep.QuietTactic
import Derived.BigQuiet
import Derived.IntWalk
namespace Go.Proofs.Ytidkeglldmbfeaa.RI
open Go Go.RowKit Go.Lib Go.Proofs.Ytidkeglldmbfeaa
set_option linter.unusedVariables false
set_option linter.unusedSimpArgs false
set_option maxRecDepth 100000

/-- The document's In in block r: its bytes, how many are taken, whether it is bad. -/
structure RefAt (w : World) (r : Nat) (v : Value) (bs : List UInt8) (at' : Nat) (bad : Bool) : Prop where
  cell : w.heap[r]? = some (.cells #[v, .int .i64 at', .bool bad] 82 (0, 0))
  sl : SlB w v bs
  le : at' ≤ bs.length
  len : bs.length ≤ 140737488355328

theorem RefAt.cell0 {w : World} {r : Nat} {v : Value} {bs : List UInt8} {a : Nat} {bad : Bool} (h : RefAt w r v bs a bad) : w.cell? ⟨r, 0, none⟩ = some v := by simp [World.cell?, h.cell]
theorem RefAt.cell1 {w : World} {r : Nat} {v : Value} {bs : List UInt8} {a : Nat} {bad : Bool} (h : RefAt w r v bs a bad) : w.cell? ⟨r, 1, none⟩ = some (.int .i64 a) := by simp [World.cell?, h.cell]
theorem RefAt.cell2 {w : World} {r : Nat} {v : Value} {bs : List UInt8} {a : Nat} {bad : Bool} (h : RefAt w r v bs a bad) : w.cell? ⟨r, 2, none⟩ = some (.bool bad) := by simp [World.cell?, h.cell]
theorem RefAt.free {w : World} {r : Nat} {v : Value} {bs : List UInt8} {a : Nat} {bad : Bool} (h : RefAt w r v bs a bad) (o : Nat) : w.frozen? ⟨r, o, none⟩ = false := by simp [World.frozen?, h.cell]

theorem only_drewN (S : Nat → Prop) (w : World) (n : Nat) : Only S w (w.drewN n) := (Only.refl S w).drewN n
theorem RefAt.keep {S : Nat → Prop} {w w' : World} {r : Nat} {v : Value} {bs : List UInt8} {a : Nat} {bad : Bool} (h : RefAt w r v bs a bad) (ho : Only S w w') (hr : ¬ S r) (hS : ∀ k cur, w.heap[k]? = some (.cells cur 5 (0, 0)) → ¬ S k) : RefAt w' r v bs a bad :=
  ⟨ho.keep h.cell hr, h.sl.keep ho hS, h.le, h.len⟩
theorem RefAt.bad {w : World} {r : Nat} {v : Value} {bs : List UInt8} {a : Nat} {bad : Bool} (h : RefAt w r v bs a bad) (b : Bool) : RefAt (w.setCell ⟨r, 2, none⟩ (.bool b)) r v bs a b :=
  ⟨by rw [heap_set h.cell]; rfl, h.sl.setCell h.cell (by decide) 2 _, h.le, h.len⟩
theorem RefAt.move {w : World} {r : Nat} {v : Value} {bs : List UInt8} {a : Nat} {bad : Bool} (h : RefAt w r v bs a bad) (n : Nat) (hn : n ≤ bs.length) : RefAt (w.setCell ⟨r, 1, none⟩ (.int .i64 n)) r v bs n bad :=
  ⟨by rw [heap_set h.cell]; rfl, h.sl.setCell h.cell (by decide) 1 _, hn, h.len⟩

set_option maxHeartbeats 400000 in
theorem refLeft (r : Nat) (v : Value) (bs : List UInt8) (a : Nat) (bad : Bool) (w : World) (h : RefAt w r v bs a bad) :
    Calls Try.prog 59 #[.pointer (some ⟨r, 0, none⟩)] w fun e w' => e = .returned (.int .i64 ((bs.length : Int) - (a : Int))) ∧ ∃ n, w' = w.drewN n := by
  obtain ⟨ao, cap, rfl, _⟩ := h.sl.shape
  have h0 := h.cell0
  have h1 := h.cell1
  have hle := h.le
  have hlen := h.len
  have HR := Lib.hid h; clear h
  go_enter Try.func59, Try.ntmps59
  go_wp2
  go_quiet (fail)
  go_wp2
  go_ret
  exact ⟨rfl, _, rfl⟩

theorem RefAt.drewN {w : World} {r : Nat} {v : Value} {bs : List UInt8} {a : Nat} {bad : Bool} (h : RefAt w r v bs a bad) (n : Nat) : RefAt (w.drewN n) r v bs a bad :=
  h.keep (only_drewN (fun _ => False) w n) (fun h => h) (fun _ _ _ h => h)

set_option maxHeartbeats 400000 in
theorem refNum_ok (r n : Nat) (v : Value) (bs : List UInt8) (a : Nat) (w : World) (h : RefAt w r v bs a false) (hn : a + n ≤ bs.length) (hn8 : n ≤ 8) :
    Calls Try.prog 45 #[.pointer (some ⟨r, 0, none⟩), .int .i64 n] w fun e w' => e = .returned (.int .u64 (numB ((bs.drop a).take n))) ∧ ∃ q, (w.drewN q).setCell ⟨r, 1, none⟩ (.int .i64 ((a + n : Nat) : Int)) = w' := by
  have h2 := h.cell2
  have h1 := h.cell1
  have hf := h.free 1
  have hlen := h.len
  obtain ⟨ao, cap, rfl, _⟩ := h.sl.shape
  have h0 := h.cell0
  have hge : ¬ (bs.length : Int) - (a : Int) < (n : Int) := by omega
  obtain ⟨ys, hys⟩ : ∃ ys, ys = (bs.drop a).take n := ⟨_, rfl⟩
  have HYL : Hid (ys.length = n) := by show _ = _; rw [hys]; simp; omega
  have HYG : Hid (∀ k, k < n → ys.getD k 0 = bs.getD (a + k) 0) := by
    intro k hk
    rw [hys]
    simp [List.getD_eq_getElem?_getD, List.getElem?_take, hk]
  rw [← hys]
  have HR := Lib.hid h; clear h hys
  go_enter Try.func45, Try.ntmps45
  go_wp2_with fail
  refine (refLeft r _ bs a false w HR.out).mono ?_
  rintro e w' ⟨rfl, q, rfl⟩
  go_wp2_with fail
  go_loopw [5, 6] (fun x i wr => ∃ (k q : Nat), k ≤ n ∧ i = .int .i64 k ∧ x = .int .u64 (numB (ys.take k)) ∧ wr = w.drewN q) (fun _ i _ => n - (intOf i).toNat)
  case atStart => exact ⟨0, _, Nat.zero_le _, rfl, rfl, rfl⟩
  case round =>
    obtain ⟨k, q, hk, rfl, rfl, rfl⟩ := hrel
    by_cases hlt : k < n
    · obtain ⟨g, off, hao, hcell⟩ := HR.out.sl.cells (k := a + k) (by omega)
      have hbd : (bs.getD (a + k) 0).toNat < 256 := (bs.getD (a + k) 0).toNat_lt
      have HNB := Lib.hid (numB_take_lt ys k (by rw [HYL.out]; exact hlt) (by rw [HYL.out]; exact hn8))
      obtain ⟨x, hx⟩ : ∃ x, x = numB (ys.take k) := ⟨_, rfl⟩
      rw [← hx]
      have hxb : x < 72057594037927936 := by rw [hx]; exact HNB.out
      obtain ⟨b, hb⟩ : ∃ b : UInt8, b = bs.getD (a + k) 0 := ⟨_, rfl⟩
      rw [← hb] at hcell hbd
      have HX := Lib.hid hx; clear hx
      have HB := Lib.hid hb; clear hb
      subst hao
      have s1 : IntKind.i64.wrap ((a : Int) + (k : Int)) = (a : Int) + (k : Int) := IntWalk.i64_in _ (by omega)
      have s2 : ((a : Int) + (k : Int)).toNat = a + k := by omega
      have s3 : (0 : Int) ≤ (a : Int) + (k : Int) := by omega
      have s4 : (a : Int) + (k : Int) < (bs.length : Int) := by omega
      go_wp2
      go_quiet (fail)
      have HV : Hid (Value.int .u64 ((x : Int) * 256 + (b.toNat : Int)) = .int .u64 (numB (ys.take (k + 1)))) := by
        show _ = _
        rw [take_snoc8 ys k (by rw [HYL.out]; exact hlt), numB_snoc, HYG.out k hlt, ← HB.out, ← HX.out]
        congr 1
      go_wp2
      go_roundw
      case rel => exact ⟨k + 1, q + nq, by omega, by go_num, HV.out, rfl⟩
      case measure => simp [intOf]; omega
    · have hke : k = n := by omega
      subst hke
      have HE : Hid (ys.take k = ys) := List.take_of_length_le (by rw [HYL.out]; exact Nat.le_refl _)
      rw [HE.out]
      go_wp2
      go_ret
      exact ⟨rfl, q, by first | rfl | (congr 2; omega)⟩
set_option maxHeartbeats 400000 in
theorem refNum_any (r n : Nat) (v : Value) (bs : List UInt8) (a : Nat) (w : World) (h : RefAt w r v bs a false) (hn : a + n ≤ bs.length) (hn8 : n ≤ 16) :
    Calls Try.prog 45 #[.pointer (some ⟨r, 0, none⟩), .int .i64 n] w fun e w' => (∃ z : Int, e = .returned (.int .u64 z)) ∧ ∃ q, (w.drewN q).setCell ⟨r, 1, none⟩ (.int .i64 ((a + n : Nat) : Int)) = w' := by
  have h2 := h.cell2
  have h1 := h.cell1
  have hf := h.free 1
  have hlen := h.len
  obtain ⟨ao, cap, rfl, _⟩ := h.sl.shape
  have h0 := h.cell0
  have hge : ¬ (bs.length : Int) - (a : Int) < (n : Int) := by omega
  have HR := Lib.hid h; clear h
  go_enter Try.func45, Try.ntmps45
  go_wp2_with fail
  refine (refLeft r _ bs a false w HR.out).mono ?_
  rintro e w' ⟨rfl, q, rfl⟩
  go_wp2_with fail
  go_loopw [5, 6] (fun x i wr => ∃ (k q : Nat) (z : Int), k ≤ n ∧ i = .int .i64 k ∧ x = .int .u64 z ∧ wr = w.drewN q) (fun _ i _ => n - (intOf i).toNat)
  case atStart => exact ⟨0, _, _, Nat.zero_le _, rfl, rfl, rfl⟩
  case round =>
    obtain ⟨k, q, z, hk, rfl, rfl, rfl⟩ := hrel
    by_cases hlt : k < n
    · obtain ⟨g, off, hao, hcell⟩ := HR.out.sl.cells (k := a + k) (by omega)
      have hbd : (bs.getD (a + k) 0).toNat < 256 := (bs.getD (a + k) 0).toNat_lt
      obtain ⟨b, hb⟩ : ∃ b : UInt8, b = bs.getD (a + k) 0 := ⟨_, rfl⟩
      rw [← hb] at hcell hbd
      have HB := Lib.hid hb; clear hb
      subst hao
      have s1 : IntKind.i64.wrap ((a : Int) + (k : Int)) = (a : Int) + (k : Int) := IntWalk.i64_in _ (by omega)
      have s2 : ((a : Int) + (k : Int)).toNat = a + k := by omega
      have s3 : (0 : Int) ≤ (a : Int) + (k : Int) := by omega
      have s4 : (a : Int) + (k : Int) < (bs.length : Int) := by omega
      go_wp2
      go_quiet (fail)
      go_wp2
      go_roundw
      case rel => exact ⟨k + 1, q + nq, _, by omega, by go_num, rfl, rfl⟩
      case measure => simp [intOf]; omega
    · have hke : k = n := by omega
      subst hke
      go_wp2
      go_ret
      exact ⟨⟨_, rfl⟩, q, by first | rfl | (congr 2; omega)⟩

end Go.Proofs.Ytidkeglldmbfeaa.RI
namespace Go.Proofs.Ytidkeglldmbfeaa
open Go Go.RowKit
theorem rcount_all (z : Int) (w : World) :
    Calls Try.prog 32 #[.int .i64 z] w fun e w' => e = .returned (.int .i64 (cnt z)) ∧ w = w' := by
  by_cases h0 : z < 0
  · have e : cnt z = 0 := (cnt_zero z).2 (.inl h0)
    rw [e]
    go_enter Try.func32, Try.ntmps32
    go_wp2
    go_ret
    exact ⟨rfl, rfl⟩
  · by_cases h1 : 32768 < z
    · have e : cnt z = 0 := (cnt_zero z).2 (.inr h1)
      rw [e]
      go_enter Try.func32, Try.ntmps32
      go_wp2
      go_ret
      exact ⟨rfl, rfl⟩
    · by_cases h2 : z = 0
      · subst h2
        rw [show ((cnt 0 : Nat) : Int) = 1 by decide]
        go_enter Try.func32, Try.ntmps32
        go_wp2
        go_ret
        exact ⟨rfl, rfl⟩
      · have hz0 : 0 ≤ z := by omega
        have hz1 : z ≤ 32768 := by omega
        have h2B : (z == 0) = false := by simpa using h2
        have e : (cnt z : Int) = (z + 49) / 50 := by
          obtain ⟨n, rfl⟩ := Int.eq_ofNat_of_zero_le hz0
          rw [cnt_nat (by omega)]
          unfold cntN
          split <;> omega
        have HE := Lib.hid e
        clear e
        go_enter Try.func32, Try.ntmps32
        go_wp2
        go_ret
        exact ⟨by rw [HE.out]; rfl, rfl⟩

/-- A sector that holds a part is the part's bytes with zeros behind them. -/
theorem beB_mod : ∀ (k a b : Nat), a % 256 ^ k = b % 256 ^ k → beB k a = beB k b
  | 0, _, _, _ => rfl
  | k + 1, a, b, h => by
    have h1 : a % 256 ^ k = b % 256 ^ k := by
      rw [← Nat.mod_mod_of_dvd a (Nat.pow_dvd_pow 256 (Nat.le_succ k)), h, Nat.mod_mod_of_dvd b (Nat.pow_dvd_pow 256 (Nat.le_succ k))]
    have h2 : a / 256 ^ k % 256 = b / 256 ^ k % 256 := by
      rw [Nat.pow_succ] at h
      rw [← Nat.mod_mul_right_div_self, ← Nat.mod_mul_right_div_self, h]
    rw [beB, beB, beB_mod k a b h1]
    congr 1
    rw [← UInt8.toNat_inj]
    simpa using h2
theorem beB_numB : ∀ (k : Nat) (l : List UInt8), l.length = k → beB k (numB l) = l
  | 0, l, h => by rw [List.eq_nil_of_length_eq_zero h]; rfl
  | k + 1, l, h => by
    match l, h with
    | b :: r, h =>
      have hr : r.length = k := by simpa using h
      have h1 := numB_append [b] r
      simp only [List.singleton_append] at h1
      have h2 : numB [b] = b.toNat := by simp [numB]
      rw [h2, hr] at h1
      have hlt := numB_lt k r hr
      rw [beB, h1]
      have e1 : (b.toNat * 256 ^ k + numB r) / 256 ^ k = b.toNat := by
        rw [Nat.mul_comm, Nat.mul_add_div (Nat.pow_pos (by decide)), Nat.div_eq_of_lt hlt, Nat.add_zero]
      rw [e1]
      have e2 : beB k (b.toNat * 256 ^ k + numB r) = beB k (numB r) := beB_mod k _ _ (by rw [Nat.mul_comm, Nat.mul_add_mod])
      rw [e2, beB_numB k r hr]
      simp
theorem sec_part {s : List UInt8} (hs : s.length = 64) (h : okSec s = true) : s = pad (partOf s).out ∧ (partOf s).Ok ∧ (partOf s).data.length ≤ 50 := by
  simp only [okSec, Bool.and_eq_true, decide_eq_true_eq] at h
  obtain ⟨h1, h2⟩ := h
  have hd : (partOf s).data.length = pkS s := by simp only [partOf, List.length_take, List.length_drop]; omega
  have hok : (partOf s).Ok := ⟨by have := numB_le 8 (s.take 8) (by simp; omega); simpa [partOf] using this, numB2 _, numB2 _, by rw [hd]; exact h1⟩
  refine ⟨?_, hok, by rw [hd]; exact h1⟩
  rw [part_pad _ hok, hd]
  have hz : s.drop (14 + pkS s) = List.replicate (50 - pkS s) 0 := by
    apply List.eq_replicate_iff.2
    refine ⟨by simp; omega, fun b hb => ?_⟩
    have := List.all_eq_true.1 h2 b hb
    simpa using this
  simp only [partOf]
  rw [beB_numB 8 _ (by simp; omega), beB_numB 2 _ (by simp; omega), beB_numB 2 _ (by simp; omega)]
  have hk : beB 2 (pkS s) = (s.drop 12).take 2 := by unfold pkS; exact beB_numB 2 _ (by simp; omega)
  rw [hk, ← hz]
  have e (a b : Nat) : (s.drop a).take b ++ s.drop (a + b) = s.drop a := by rw [← List.drop_drop]; exact List.take_append_drop b _
  rw [e 14 (pkS s), e 12 2, e 10 2, e 8 2]
  exact (List.take_append_drop 8 s).symm

end Go.Proofs.Ytidkeglldmbfeaa
