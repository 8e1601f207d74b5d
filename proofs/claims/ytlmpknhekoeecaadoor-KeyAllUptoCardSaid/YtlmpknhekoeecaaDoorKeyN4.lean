/-
  The document's own keys: an In's Left and Num.
-/
import Derived.Test.YtlmpknhekoeecaaDoorKeyN3
import Derived.BigQuiet
import Derived.Deep.QuietTactic
namespace Go.Proofs.YtlmpknhekoeecaaDoor
open Go Go.RowKit
set_option linter.unusedVariables false
set_option linter.unusedSimpArgs false
set_option maxRecDepth 100000

/-- The reference's In in block p over bytes in block g. -/
structure RIn (w : World) (p g cap : Nat) (bs : List UInt8) (a : Nat) (bad : Bool) : Prop where
  cell : w.heap[p]? = some (.cells #[.slice (some ⟨g, 0, none⟩) bs.length cap, .int .i64 (a : Int), .bool bad] 80 (0, 0))
  row : ∀ j, j < bs.length → w.cell? ⟨g, j, none⟩ = some (.int .u8 (bs.getD j 0).toNat)
  le : a ≤ bs.length
  size : bs.length ≤ 4096
  cap' : bs.length ≤ cap
  ne : p ≠ g
theorem RIn.c {w : World} {p g cap : Nat} {bs : List UInt8} {a : Nat} {bad : Bool} (h : RIn w p g cap bs a bad) : w.cell? ⟨p, 0, none⟩ = some (.slice (some ⟨g, 0, none⟩) bs.length cap) ∧ w.cell? ⟨p, 1, none⟩ = some (.int .i64 (a : Int)) ∧ w.cell? ⟨p, 2, none⟩ = some (.bool bad) := by
  simp [World.cell?, h.cell]
theorem RIn.f {w : World} {p g cap : Nat} {bs : List UInt8} {a : Nat} {bad : Bool} (h : RIn w p g cap bs a bad) (o : Nat) : w.frozen? ⟨p, o, none⟩ = false := by
  simp [World.frozen?, h.cell]
theorem RIn.drewN {w : World} {p g cap : Nat} {bs : List UInt8} {a : Nat} {bad : Bool} (h : RIn w p g cap bs a bad) (n : Nat) : RIn (w.drewN n) p g cap bs a bad := ⟨h.cell, h.row, h.le, h.size, h.cap', h.ne⟩
theorem RIn.move {w : World} {p g cap : Nat} {bs : List UInt8} {a : Nat} {bad : Bool} (h : RIn w p g cap bs a bad) (n : Nat) (hn : n ≤ bs.length) : RIn (w.setCell ⟨p, 1, none⟩ (.int .i64 (n : Int))) p g cap bs n bad :=
  ⟨by have := heap_set h.cell 1 (.int .i64 (n : Int)); simpa using this, fun j hj => by rw [World.cell?_of_block (Below.heap_setCell _ _ _ _ (fun e => h.ne e.symm))]; exact h.row j hj, hn, h.size, h.cap', h.ne⟩
theorem RIn.spoil {w : World} {p g cap : Nat} {bs : List UInt8} {a : Nat} {bad : Bool} (h : RIn w p g cap bs a bad) : RIn (w.setCell ⟨p, 2, none⟩ (.bool true)) p g cap bs a true :=
  ⟨by have := heap_set h.cell 2 (.bool true); simpa using this, fun j hj => by rw [World.cell?_of_block (Below.heap_setCell _ _ _ _ (fun e => h.ne e.symm))]; exact h.row j hj, h.le, h.size, h.cap', h.ne⟩
theorem RIn.keep {w w' : World} {p g cap : Nat} {bs : List UInt8} {a : Nat} {bad : Bool} (h : RIn w p g cap bs a bad) (hp : w'.heap[p]? = w.heap[p]?) (hg : w'.heap[g]? = w.heap[g]?) : RIn w' p g cap bs a bad :=
  ⟨hp.trans h.cell, fun j hj => by rw [World.cell?_of_block hg]; exact h.row j hj, h.le, h.size, h.cap', h.ne⟩

set_option maxHeartbeats 1000000 in
theorem rileft (w : World) (p g cap : Nat) (bs : List UInt8) (a : Nat) (bad : Bool) (h : RIn w p g cap bs a bad) :
    Calls Tryd.prog 70 #[.pointer (some ⟨p, 0, none⟩)] w fun e w' => e = .returned (.int .i64 ((bs.length : Int) - (a : Int))) ∧ ∃ q, w.drewN q = w' := by
  obtain ⟨c0, c1, c2⟩ := h.c
  have hle := h.le
  have hsz := h.size
  have s1 : IntKind.i64.wrap ((bs.length : Int) - (a : Int)) = (bs.length : Int) - (a : Int) := IntWalk.i64_in _ (by omega)
  clear hle hsz
  go_enter Tryd.func70, Tryd.ntmps70
  go_wp2_with fail
  go_quiet (fail)
  go_wp2
  go_ret
  exact ⟨rfl, nq, rfl⟩

set_option maxHeartbeats 2000000 in
theorem rinum_ok (w : World) (p g cap n : Nat) (bs : List UInt8) (a : Nat) (h : RIn w p g cap bs a false) (hn : a + n ≤ bs.length) (hn8 : n ≤ 8) :
    Calls Tryd.prog 50 #[.pointer (some ⟨p, 0, none⟩), .int .i64 n] w fun e w' => e = .returned (.int .u64 (numB ((bs.drop a).take n))) ∧ ∃ q, (w.drewN q).setCell ⟨p, 1, none⟩ (.int .i64 ((a + n : Nat) : Int)) = w' := by
  obtain ⟨h0, h1, h2⟩ := h.c
  have hf := h.f 1
  have hlen := h.size
  have hcap := h.cap'
  have hge : ¬ (bs.length : Int) - (a : Int) < (n : Int) := by omega
  obtain ⟨ys, hys⟩ : ∃ ys, ys = (bs.drop a).take n := ⟨_, rfl⟩
  have HYL : Hid (ys.length = n) := Lib.hid (by rw [hys]; simp; omega)
  have HYG : Hid (∀ k, k < n → ys.getD k 0 = bs.getD (a + k) 0) := Lib.hid (by
    intro k hk
    rw [hys]
    simp [List.getD_eq_getElem?_getD, List.getElem?_take, hk])
  rw [← hys]
  have HR := Lib.hid h; clear h hys
  go_enter Tryd.func50, Tryd.ntmps50
  go_wp2_with fail
  refine (rileft w p g cap bs a false HR.out).mono ?_
  rintro e w' ⟨rfl, q, rfl⟩
  go_wp2_with fail
  go_loopw [5, 6] (fun x i wr => ∃ (k q : Nat), k ≤ n ∧ i = .int .i64 k ∧ x = .int .u64 (numB (ys.take k)) ∧ wr = w.drewN q) (fun _ i _ => n - (intOf i).toNat)
  case atStart => exact ⟨0, _, Nat.zero_le _, rfl, rfl, rfl⟩
  case round =>
    obtain ⟨k, q, hk, rfl, rfl, rfl⟩ := hrel
    by_cases hlt : k < n
    · have hcell := HR.out.row (a + k) (by omega)
      have hbd : (bs.getD (a + k) 0).toNat < 256 := (bs.getD (a + k) 0).toNat_lt
      have HNB := Lib.hid (numB_take_lt ys k (by rw [HYL.out]; exact hlt) (by rw [HYL.out]; exact hn8))
      obtain ⟨x, hx⟩ : ∃ x, x = numB (ys.take k) := ⟨_, rfl⟩
      rw [← hx]
      have hxb : x < 72057594037927936 := by rw [hx]; exact HNB.out
      obtain ⟨b, hb⟩ : ∃ b : UInt8, b = bs.getD (a + k) 0 := ⟨_, rfl⟩
      rw [← hb] at hcell hbd
      have HX := Lib.hid hx; clear hx
      have HB := Lib.hid hb; clear hb
      have s1 : IntKind.i64.wrap ((a : Int) + (k : Int)) = (a : Int) + (k : Int) := IntWalk.i64_in _ (by omega)
      have s2 : ((a : Int) + (k : Int)).toNat = a + k := by omega
      have s3 : (0 : Int) ≤ (a : Int) + (k : Int) := by omega
      have s4 : (a : Int) + (k : Int) < (bs.length : Int) := by omega
      go_wp2
      go_quiet (fail)
      have HV : Hid (Value.int .u64 ((x : Int) * 256 + (b.toNat : Int)) = .int .u64 (numB (ys.take (k + 1)))) := by
        show _ = _
        rw [take_snoc8 ys k (by rw [HYL.out]; exact hlt), numB_snoc, HYG.out k hlt, ← HB.out, ← HX.out]
        congr 1
      go_wp2
      go_roundw
      case rel => exact ⟨k + 1, q + nq, by omega, by go_num, HV.out, rfl⟩
      case measure => simp [intOf]; omega
    · have hke : k = n := by omega
      subst hke
      have HE : Hid (ys.take k = ys) := Lib.hid (List.take_of_length_le (by rw [HYL.out]; exact Nat.le_refl _))
      rw [HE.out]
      go_wp2
      go_ret
      exact ⟨rfl, q, by first | rfl | (congr 2; omega)⟩

set_option maxHeartbeats 2000000 in
theorem rinum_bad (w : World) (p g cap n : Nat) (bs : List UInt8) (a : Nat) (bad : Bool) (h : RIn w p g cap bs a bad) (hn : bad = true ∨ bs.length < a + n) :
    Calls Tryd.prog 50 #[.pointer (some ⟨p, 0, none⟩), .int .i64 n] w fun e w' => e = .returned (.int .u64 0) ∧ ∃ q, (w.drewN q).setCell ⟨p, 2, none⟩ (.bool true) = w' := by
  obtain ⟨h0, h1, h2⟩ := h.c
  have hf := h.f 2
  have hlen := h.size
  have hle := h.le
  have HR := Lib.hid h
  clear h
  cases bad with
  | true =>
    clear hn
    go_enter Tryd.func50, Tryd.ntmps50
    go_wp2
    go_ret
    exact ⟨rfl, 0, rfl⟩
  | false =>
    have hlt : bs.length < a + n := by simpa using hn
    have hge : (bs.length : Int) - (a : Int) < (n : Int) := by omega
    clear hn hlt
    go_enter Tryd.func50, Tryd.ntmps50
    go_wp2_with fail
    refine (rileft w p g cap bs a false HR.out).mono ?_
    rintro e w' ⟨rfl, q, rfl⟩
    go_wp2
    go_ret
    exact ⟨rfl, q, rfl⟩

end Go.Proofs.YtlmpknhekoeecaaDoor
