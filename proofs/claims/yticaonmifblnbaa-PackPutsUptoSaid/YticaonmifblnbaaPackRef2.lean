/-
  Contracts of the document's own answer for an In: Num as a whole, Flag, Text, each against the same plain functions as the program's.
-/
import Derived.Test.YticaonmifblnbaaPackRef
namespace Go.Proofs.Yticaonmifblnbaa
open Go Go.RowKit Go.Lib
set_option linter.unusedVariables false

/-- The document's In with these bytes left. -/
def RefV (w : World) (r : Nat) (xs : List UInt8) (bad : Bool) : Prop := ∃ v bs a, RefAt w r v bs a bad ∧ xs = bs.drop a

theorem RefV.keep {S : Nat → Prop} {w w' : World} {r : Nat} {xs : List UInt8} {bad : Bool} (h : RefV w r xs bad) (ho : Only S w w') (hr : ¬ S r) (hS : ∀ k cur, w.heap[k]? = some (.cells cur 5 (0, 0)) → ¬ S k) : RefV w' r xs bad := by
  obtain ⟨v, bs, a, h, hx⟩ := h
  exact ⟨v, bs, a, h.keep ho hr hS, hx⟩

theorem can_iff {n : Nat} {bs : List UInt8} {a : Nat} (hle : a ≤ bs.length) : can n (bs.drop a) false = decide (a + n ≤ bs.length) := by
  simp only [can, List.length_drop, Bool.not_false, Bool.true_and, decide_eq_decide]
  omega

def RNumPost (w : World) (r n : Nat) (xs : List UInt8) (bad : Bool) (e : Ending) (w' : World) : Prop :=
  e = .returned (.int .u64 (numB (nextR n xs bad))) ∧ RefV w' r (nextL n xs bad) (!can n xs bad) ∧ Only (fun k => k = r) w w'

theorem refNum (r n : Nat) (xs : List UInt8) (bad : Bool) (w : World) (h : RefV w r xs bad) (hn8 : n ≤ 8) :
    Calls Try.prog 39 #[.pointer (some ⟨r, 0, none⟩), .int .i64 n] w (RNumPost w r n xs bad) := by
  obtain ⟨v, bs, a, h, rfl⟩ := h
  cases bad with
  | true =>
    refine (refNum_bad r n v bs a w h).mono ?_
    rintro e w' ⟨rfl, rfl⟩
    exact ⟨by simp [nextR, can, numB], ⟨v, bs, a, by simpa [can] using h.bad true, by simp [nextL, can]⟩, Only.cell w r 2 _⟩
  | false =>
    have hc := can_iff (n := n) h.le
    by_cases hn : a + n ≤ bs.length
    · refine (refNum_ok r n v bs a w h hn hn8).mono ?_
      rintro e w' ⟨rfl, q, rfl⟩
      have hc' : can n (bs.drop a) false = true := by rw [hc]; simpa using hn
      refine ⟨by simp [nextR, hc'], ⟨v, bs, a + n, ?_, by simp [nextL, hc']⟩, (only_drewN _ w q).trans (Only.cell _ r 1 _) (fun _ _ h => h)⟩
      rw [hc']
      exact (h.drewN q).move (a + n) hn
    · refine (refNum_short r n v bs a w h (by omega) hn8).mono ?_
      rintro e w' ⟨rfl, q, rfl⟩
      have hc' : can n (bs.drop a) false = false := by rw [hc]; simpa using hn
      refine ⟨by simp [nextR, hc', numB], ⟨v, bs, a, ?_, by simp [nextL, hc']⟩, (only_drewN _ w q).trans (Only.cell _ r 2 _) (fun _ _ h => h)⟩
      rw [hc']
      exact (h.drewN q).bad true

set_option maxHeartbeats 400000 in
theorem refFlag_bad (r : Nat) (v : Value) (bs : List UInt8) (a : Nat) (w : World) (h : RefAt w r v bs a true) :
    Calls Try.prog 40 #[.pointer (some ⟨r, 0, none⟩)] w fun e w' => e = .returned (.bool false) ∧ ∃ q, (w.drewN q).setCell ⟨r, 2, none⟩ (.bool true) = w' := by
  have h2 := h.cell2
  have hf := h.free 2
  have HR := Lib.hid h; clear h
  go_enter Try.func40, Try.ntmps40
  go_wp2
  go_quiet (fail)
  go_wp2
  go_ret
  exact ⟨rfl, _, rfl⟩

theorem quiet_left (r : Nat) (v : Value) (bs : List UInt8) (a : Nat) (bad : Bool) (w : World) (h : RefAt w r v bs a bad) (q : Nat) :
    Calls Try.prog 19 #[.pointer (some ⟨r, 0, none⟩)] (w.drewN q) fun e w' => e = .returned (.int .i64 ((bs.length : Int) - (a : Int))) ∧ ∃ n, w' = (w.drewN q).drewN n :=
  refLeft r v bs a bad (w.drewN q) (h.drewN q)

set_option maxHeartbeats 400000 in
theorem refFlag_none (r : Nat) (v : Value) (bs : List UInt8) (w : World) (h : RefAt w r v bs bs.length false) :
    Calls Try.prog 40 #[.pointer (some ⟨r, 0, none⟩)] w fun e w' => e = .returned (.bool false) ∧ ∃ q, (w.drewN q).setCell ⟨r, 2, none⟩ (.bool true) = w' := by
  have h2 := h.cell2
  have hf := h.free 2
  have hd : (bs.length : Int) - (bs.length : Int) < 1 := by omega
  have HR := Lib.hid h; clear h
  go_enter Try.func40, Try.ntmps40
  go_wp2
  go_quiet ((go_at_call 19; exact Calls.quiet_of (quiet_left r v bs bs.length false w HR.out _)))
  go_wp2
  go_ret
  exact ⟨rfl, _, rfl⟩

set_option maxHeartbeats 400000 in
theorem refFlag_big (r : Nat) (v : Value) (bs : List UInt8) (a : Nat) (w : World) (h : RefAt w r v bs a false) (ha : a < bs.length) (hb1 : 1 < (bs.getD a 0).toNat) :
    Calls Try.prog 40 #[.pointer (some ⟨r, 0, none⟩)] w fun e w' => e = .returned (.bool false) ∧ ∃ q, (w.drewN q).setCell ⟨r, 2, none⟩ (.bool true) = w' := by
  have h2 := h.cell2
  have h1 := h.cell1
  have hf := h.free 2
  have hlen := h.len
  obtain ⟨ao, cap, rfl, _⟩ := h.sl.shape
  have h0 := h.cell0
  obtain ⟨g, off, rfl, hcell⟩ := h.sl.cells ha
  obtain ⟨b, hb⟩ : ∃ b : UInt8, b = bs.getD a 0 := ⟨_, rfl⟩
  rw [← hb] at hcell hb1
  clear hb
  have hd : decide ((bs.length : Int) - (a : Int) < 1) = false := by simp; omega
  have hge : ¬ (bs.length : Int) - (a : Int) < 1 := by omega
  have hgt : (1 : Int) < (b.toNat : Int) := by omega
  have s3 : (0 : Int) ≤ (a : Int) := by omega
  have s4 : (a : Int) < (bs.length : Int) := by omega
  have HR := Lib.hid h; clear h
  go_enter Try.func40, Try.ntmps40
  go_wp2
  go_quiet ((go_at_call 19; exact Calls.quiet_of (quiet_left r _ bs a false w HR.out _)))
  go_wp2
  go_ret
  exact ⟨rfl, _, rfl⟩

set_option maxHeartbeats 400000 in
theorem refFlag_small (r : Nat) (v : Value) (bs : List UInt8) (a : Nat) (w : World) (h : RefAt w r v bs a false) (ha : a < bs.length) (hb1 : (bs.getD a 0).toNat ≤ 1) :
    Calls Try.prog 40 #[.pointer (some ⟨r, 0, none⟩)] w fun e w' => e = .returned (.bool (decide ((bs.getD a 0).toNat = 1))) ∧ ∃ q q', ((w.drewN q).setCell ⟨r, 1, none⟩ (.int .i64 ((a + 1 : Nat) : Int))).drewN q' = w' := by
  have h2 := h.cell2
  have h1 := h.cell1
  have hf := h.free 1
  have hlen := h.len
  obtain ⟨ao, cap, rfl, _⟩ := h.sl.shape
  have h0 := h.cell0
  obtain ⟨g, off, rfl, hcell⟩ := h.sl.cells ha
  obtain ⟨b, hb⟩ : ∃ b : UInt8, b = bs.getD a 0 := ⟨_, rfl⟩
  rw [← hb] at hcell hb1 ⊢
  have HB := Lib.hid hb
  clear hb
  have hd : decide ((bs.length : Int) - (a : Int) < 1) = false := by simp; omega
  have hge : ¬ (bs.length : Int) - (a : Int) < 1 := by omega
  have hgt : ¬ (1 : Int) < (b.toNat : Int) := by omega
  have s3 : (0 : Int) ≤ (a : Int) := by omega
  have s4 : (a : Int) < (bs.length : Int) := by omega
  have HR := Lib.hid h; clear h
  go_enter Try.func40, Try.ntmps40
  go_wp2
  go_quiet ((go_at_call 19; exact Calls.quiet_of (quiet_left r _ bs a false w HR.out _)))
  go_wp2
  obtain ⟨q1, hq1⟩ : ∃ q1, q1 = nq := ⟨_, rfl⟩
  subst hq1
  have hm := Lib.hid ((HR.out.drewN q1).move (a + 1) (by omega))
  clear h0 h1 h2 hf hcell hd hge hgt
  obtain ⟨wx, hwx⟩ : ∃ wx, wx = (w.drewN q1).setCell ⟨r, 1, none⟩ (.int .i64 ((a : Int) + 1)) := ⟨_, rfl⟩
  have HX := Lib.hid hwx
  rw [← hwx]
  have HM : Hid (RefAt wx r (.slice (some ⟨g, off, none⟩) bs.length cap) bs (a + 1) false) := by show RefAt _ _ _ _ _ _; rw [hwx]; exact hm.out
  clear hwx hm
  have h0 := HM.out.cell0
  have h1 : wx.cell? ⟨r, 1, none⟩ = some (.int .i64 ((a : Int) + 1)) := HM.out.cell1
  obtain ⟨g2, off2, hg2, hcell⟩ := HM.out.sl.cells ha
  simp only [Option.some.injEq, Addr.mk.injEq, and_true] at hg2
  obtain ⟨rfl, rfl⟩ := hg2
  rw [← HB.out] at hcell
  have e1 : (a : Int) + 1 - 1 = (a : Int) := by omega
  go_quiet (fail)
  go_wp2
  go_ret
  refine ⟨?_, q1, nq, by rw [HX.out]; rfl⟩
  show Ending.returned (.bool ((b.toNat : Int) == 1)) = _
  have : ((b.toNat : Int) == 1) = decide (b.toNat = 1) := by rw [Bool.eq_iff_iff]; simp; omega
  rw [this]

end Go.Proofs.Yticaonmifblnbaa
