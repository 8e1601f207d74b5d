/-
  The document's own In (Left, Num, Flag, Text, Done), on the joined texts: PackRef, PackRef2, PackRef3 once more.
-/
import Derived.Test.YtgkcflindenboaaDoorRowJ6
namespace Go.Proofs.YtgkcflindenboaaDoor.RI
open Go Go.RowKit Go.Proofs.YtgkcflindenboaaDoor
set_option linter.unusedVariables false
set_option linter.unusedSimpArgs false
set_option maxRecDepth 100000

/-- The bytes of a slice, whatever of their block is held fast behind them. -/
def SlF (w : World) (v : Value) (xs : List UInt8) : Prop :=
  (v = .slice none 0 0 ∧ xs = []) ∨
  ∃ g off cap cur fr, v = .slice (some ⟨g, off, none⟩) xs.length cap ∧ xs.length ≤ cap ∧ cap ≤ maxLen ∧ w.heap[g]? = some (.cells cur 5 fr) ∧
    ∀ j, j < xs.length → cur[off + j]? = some (.int .u8 (xs.getD j 0).toNat)
theorem SlF.keep {S : Nat → Prop} {w w' : World} {v : Value} {xs : List UInt8} (h : SlF w v xs) (ho : Only S w w')
    (hS : ∀ k cur fr, w.heap[k]? = some (.cells cur 5 fr) → ¬ S k) : SlF w' v xs := by
  rcases h with h | ⟨g, off, cap, cur, fr, rfl, h1, h2, h3, h4⟩
  · exact .inl h
  · exact .inr ⟨g, off, cap, cur, fr, rfl, h1, h2, ho.keep h3 (hS g cur fr h3), h4⟩
theorem SlF.shape {w : World} {v : Value} {xs : List UInt8} (h : SlF w v xs) : ∃ ao cap, v = .slice ao xs.length cap ∧ xs.length ≤ cap ∧ cap ≤ maxLen := by
  rcases h with ⟨rfl, rfl⟩ | ⟨g, off, cap, cur, fr, rfl, h1, h2, _⟩
  · exact ⟨none, 0, rfl, Nat.le_refl _, by unfold maxLen; omega⟩
  · exact ⟨_, cap, rfl, h1, h2⟩
theorem SlF.setCell {w : World} {v : Value} {xs : List UInt8} (h : SlF w v xs) {p : Nat} {cs : Array Value} {t : TypeId} (hp : w.heap[p]? = some (.cells cs t (0, 0))) (ht : t ≠ 5) (o : Nat) (u : Value) :
    SlF (w.setCell ⟨p, o, none⟩ u) v xs :=
  h.keep (S := fun k => k = p) (Only.cell w p o u) (fun k cur fr hk e => by have e : k = p := e; subst e; rw [hk] at hp; simp at hp; exact ht hp.2.1.symm)
theorem SlF.cells {w : World} {ao : Option Addr} {n cap : Nat} {ys : List UInt8} (h : SlF w (.slice ao n cap) ys) {k : Nat} (hk : k < ys.length) :
    ∃ g off, ao = some ⟨g, off, none⟩ ∧ w.cell? ⟨g, off + k, none⟩ = some (.int .u8 (ys.getD k 0).toNat) := by
  rcases h with ⟨_, rfl⟩ | ⟨g, off, cap', cur, fr, hv, _, _, hg, hx⟩
  · simp at hk
  · simp only [Value.slice.injEq] at hv
    exact ⟨g, off, hv.1, by simp [World.cell?, hg, hx k hk]⟩
theorem SlF.blk {w : World} {v : Value} {xs : List UInt8} (h : SlF w v xs) {k : Nat} (hk : blkV v = some k) : ∃ cur fr, w.heap[k]? = some (.cells cur 5 fr) := by
  rcases h with ⟨rfl, _⟩ | ⟨g, off, cap, cur, fr, rfl, _, _, h3, _⟩
  · cases hk
  · simp [blkV] at hk
    subst hk
    exact ⟨cur, fr, h3⟩
theorem SlF.str {w : World} {v : Value} {xs : List UInt8} (h : SlF w v xs) : (convert 49 9 v).run Tryd.prog w = .ok (.string ⟨xs.toArray⟩) w := by
  refine run_strC ?_
  rcases h with h0 | ⟨g, off, cap, cur, fr, rfl, h1, h2, h3, h4⟩
  · exact .inl h0
  · refine .inr ⟨⟨g, off, none⟩, cap, rfl, fun j hj => ?_⟩
    rw [add_lit]
    simp only [World.cell?, h3]
    rw [if_neg (by simp), h4 j hj]
theorem SlF.sub {w : World} {g off cap : Nat} {bs : List UInt8} (h : SlF w (.slice (some ⟨g, off, none⟩) bs.length cap) bs) {lo m : Nat} (hm : lo + m ≤ bs.length) :
    SlF w (.slice (if cap = lo then some ⟨g, off, none⟩ else some ⟨g, off + lo, none⟩) m (cap - lo)) ((bs.drop lo).take m) := by
  rcases h with ⟨hv, _⟩ | ⟨g', off', cap', cur, fr, hv, h1, h2, h3, h4⟩
  · simp at hv
  · simp only [Value.slice.injEq, Option.some.injEq, Addr.mk.injEq, and_true] at hv
    obtain ⟨⟨rfl, rfl⟩, _, rfl⟩ := hv
    have hl : ((bs.drop lo).take m).length = m := by simp; omega
    by_cases hc : cap = lo
    · refine .inr ⟨g, off, cap - lo, cur, fr, by simp [hc, hl], by omega, by omega, h3, fun j hj => ?_⟩
      omega
    · refine .inr ⟨g, off + lo, cap - lo, cur, fr, by simp [hc, hl], by omega, by omega, h3, fun j hj => ?_⟩
      rw [hl] at hj
      rw [Nat.add_assoc, h4 (lo + j) (by omega)]
      simp only [List.getD_eq_getElem?_getD, List.getElem?_take, List.getElem?_drop]
      rw [if_pos hj]

/-- The document's In in block r: its bytes, how many are taken, whether it is bad. -/
structure RefAt (w : World) (r : Nat) (v : Value) (bs : List UInt8) (at' : Nat) (bad : Bool) : Prop where
  cell : w.heap[r]? = some (.cells #[v, .int .i64 at', .bool bad] 80 (0, 0))
  sl : SlF w v bs
  le : at' ≤ bs.length
  len : bs.length ≤ 140737488355328

theorem RefAt.cell0 {w : World} {r : Nat} {v : Value} {bs : List UInt8} {a : Nat} {bad : Bool} (h : RefAt w r v bs a bad) : w.cell? ⟨r, 0, none⟩ = some v := by simp [World.cell?, h.cell]
theorem RefAt.cell1 {w : World} {r : Nat} {v : Value} {bs : List UInt8} {a : Nat} {bad : Bool} (h : RefAt w r v bs a bad) : w.cell? ⟨r, 1, none⟩ = some (.int .i64 a) := by simp [World.cell?, h.cell]
theorem RefAt.cell2 {w : World} {r : Nat} {v : Value} {bs : List UInt8} {a : Nat} {bad : Bool} (h : RefAt w r v bs a bad) : w.cell? ⟨r, 2, none⟩ = some (.bool bad) := by simp [World.cell?, h.cell]
theorem RefAt.free {w : World} {r : Nat} {v : Value} {bs : List UInt8} {a : Nat} {bad : Bool} (h : RefAt w r v bs a bad) (o : Nat) : w.frozen? ⟨r, o, none⟩ = false := by simp [World.frozen?, h.cell]

theorem only_drewN (S : Nat → Prop) (w : World) (n : Nat) : Only S w (w.drewN n) := (Only.refl S w).drewN n
theorem RefAt.keep {S : Nat → Prop} {w w' : World} {r : Nat} {v : Value} {bs : List UInt8} {a : Nat} {bad : Bool} (h : RefAt w r v bs a bad) (ho : Only S w w') (hr : ¬ S r) (hS : ∀ k cur fr, w.heap[k]? = some (.cells cur 5 fr) → ¬ S k) : RefAt w' r v bs a bad :=
  ⟨ho.keep h.cell hr, h.sl.keep ho hS, h.le, h.len⟩
theorem RefAt.bad {w : World} {r : Nat} {v : Value} {bs : List UInt8} {a : Nat} {bad : Bool} (h : RefAt w r v bs a bad) (b : Bool) : RefAt (w.setCell ⟨r, 2, none⟩ (.bool b)) r v bs a b :=
  ⟨by rw [heap_set h.cell]; rfl, h.sl.setCell h.cell (by decide) 2 _, h.le, h.len⟩
theorem RefAt.move {w : World} {r : Nat} {v : Value} {bs : List UInt8} {a : Nat} {bad : Bool} (h : RefAt w r v bs a bad) (n : Nat) (hn : n ≤ bs.length) : RefAt (w.setCell ⟨r, 1, none⟩ (.int .i64 n)) r v bs n bad :=
  ⟨by rw [heap_set h.cell]; rfl, h.sl.setCell h.cell (by decide) 1 _, hn, h.len⟩

set_option maxHeartbeats 400000 in
theorem refLeft (r : Nat) (v : Value) (bs : List UInt8) (a : Nat) (bad : Bool) (w : World) (h : RefAt w r v bs a bad) :
    Calls Tryd.prog 70 #[.pointer (some ⟨r, 0, none⟩)] w fun e w' => e = .returned (.int .i64 ((bs.length : Int) - (a : Int))) ∧ ∃ n, w' = w.drewN n := by
  obtain ⟨ao, cap, rfl, _⟩ := h.sl.shape
  have h0 := h.cell0
  have h1 := h.cell1
  have hle := h.le
  have hlen := h.len
  have HR := Lib.hid h; clear h
  go_enter Tryd.func70, Tryd.ntmps70
  go_wp2
  go_quiet (fail)
  go_wp2
  go_ret
  exact ⟨rfl, _, rfl⟩

set_option maxHeartbeats 400000 in
theorem refDone_bad (r : Nat) (v : Value) (bs : List UInt8) (a : Nat) (w : World) (h : RefAt w r v bs a true) :
    Calls Tryd.prog 65 #[.pointer (some ⟨r, 0, none⟩)] w fun e w' => e = .returned (.bool false) ∧ ∃ n, w' = w.drewN n := by
  obtain ⟨ao, cap, rfl, _⟩ := h.sl.shape
  have h0 := h.cell0
  have h1 := h.cell1
  have h2 := h.cell2
  have HR := Lib.hid h; clear h
  go_enter Tryd.func65, Tryd.ntmps65
  go_wp2
  go_quiet (fail)
  go_wp2
  go_ret
  exact ⟨rfl, _, rfl⟩

set_option maxHeartbeats 400000 in
theorem refDone_good (r : Nat) (v : Value) (bs : List UInt8) (a : Nat) (w : World) (h : RefAt w r v bs a false) :
    Calls Tryd.prog 65 #[.pointer (some ⟨r, 0, none⟩)] w fun e w' => e = .returned (.bool (decide (a = bs.length))) ∧ ∃ n, w' = w.drewN n := by
  obtain ⟨ao, cap, rfl, _⟩ := h.sl.shape
  have h0 := h.cell0
  have h1 := h.cell1
  have h2 := h.cell2
  have HR := Lib.hid h; clear h
  go_enter Tryd.func65, Tryd.ntmps65
  go_wp2
  go_quiet (fail)
  go_wp2
  go_ret
  refine ⟨?_, _, rfl⟩
  show Ending.returned (.bool ((a : Int) == (bs.length : Int))) = _
  have : ((a : Int) == (bs.length : Int)) = decide (a = bs.length) := by rw [Bool.eq_iff_iff]; simp; omega
  rw [this]

set_option maxHeartbeats 400000 in
theorem refNum_bad (r n : Nat) (v : Value) (bs : List UInt8) (a : Nat) (w : World) (h : RefAt w r v bs a true) :
    Calls Tryd.prog 50 #[.pointer (some ⟨r, 0, none⟩), .int .i64 n] w fun e w' => e = .returned (.int .u64 0) ∧ w.setCell ⟨r, 2, none⟩ (.bool true) = w' := by
  have h2 := h.cell2
  have hf := h.free 2
  have HR := Lib.hid h; clear h
  go_enter Tryd.func50, Tryd.ntmps50
  go_wp2
  go_ret
  exact ⟨rfl, rfl⟩

set_option maxHeartbeats 400000 in
theorem refNum_short (r n : Nat) (v : Value) (bs : List UInt8) (a : Nat) (w : World) (h : RefAt w r v bs a false) (hn : bs.length < a + n) (hn8 : n ≤ 8) :
    Calls Tryd.prog 50 #[.pointer (some ⟨r, 0, none⟩), .int .i64 n] w fun e w' => e = .returned (.int .u64 0) ∧ ∃ q, (w.drewN q).setCell ⟨r, 2, none⟩ (.bool true) = w' := by
  have h2 := h.cell2
  have hf := h.free 2
  have hlt : (bs.length : Int) - (a : Int) < (n : Int) := by omega
  have HR := Lib.hid h; clear h
  go_enter Tryd.func50, Tryd.ntmps50
  go_wp2_with fail
  refine (refLeft r v bs a false w HR.out).mono ?_
  rintro e w' ⟨rfl, q, rfl⟩
  go_wp2
  go_ret
  exact ⟨rfl, q, rfl⟩

theorem RefAt.drewN {w : World} {r : Nat} {v : Value} {bs : List UInt8} {a : Nat} {bad : Bool} (h : RefAt w r v bs a bad) (n : Nat) : RefAt (w.drewN n) r v bs a bad :=
  h.keep (only_drewN (fun _ => False) w n) (fun h => h) (fun _ _ _ _ h => h)

set_option maxHeartbeats 400000 in
theorem refNum_ok (r n : Nat) (v : Value) (bs : List UInt8) (a : Nat) (w : World) (h : RefAt w r v bs a false) (hn : a + n ≤ bs.length) (hn8 : n ≤ 8) :
    Calls Tryd.prog 50 #[.pointer (some ⟨r, 0, none⟩), .int .i64 n] w fun e w' => e = .returned (.int .u64 (numB ((bs.drop a).take n))) ∧ ∃ q, (w.drewN q).setCell ⟨r, 1, none⟩ (.int .i64 ((a + n : Nat) : Int)) = w' := by
  have h2 := h.cell2
  have h1 := h.cell1
  have hf := h.free 1
  have hlen := h.len
  obtain ⟨ao, cap, rfl, _⟩ := h.sl.shape
  have h0 := h.cell0
  have hge : ¬ (bs.length : Int) - (a : Int) < (n : Int) := by omega
  obtain ⟨ys, hys⟩ : ∃ ys, ys = (bs.drop a).take n := ⟨_, rfl⟩
  have HYL : Hid (ys.length = n) := by show _ = _; rw [hys]; simp; omega
  have HYG : Hid (∀ k, k < n → ys.getD k 0 = bs.getD (a + k) 0) := by
    intro k hk
    rw [hys]
    simp [List.getD_eq_getElem?_getD, List.getElem?_take, hk]
  rw [← hys]
  have HR := Lib.hid h; clear h hys
  go_enter Tryd.func50, Tryd.ntmps50
  go_wp2_with fail
  refine (refLeft r _ bs a false w HR.out).mono ?_
  rintro e w' ⟨rfl, q, rfl⟩
  go_wp2_with fail
  go_loopw [5, 6] (fun x i wr => ∃ (k q : Nat), k ≤ n ∧ i = .int .i64 k ∧ x = .int .u64 (numB (ys.take k)) ∧ wr = w.drewN q) (fun _ i _ => n - (intOf i).toNat)
  case atStart => exact ⟨0, _, Nat.zero_le _, rfl, rfl, rfl⟩
  case round =>
    obtain ⟨k, q, hk, rfl, rfl, rfl⟩ := hrel
    by_cases hlt : k < n
    · obtain ⟨g, off, hao, hcell⟩ := HR.out.sl.cells (k := a + k) (by omega)
      have hbd : (bs.getD (a + k) 0).toNat < 256 := (bs.getD (a + k) 0).toNat_lt
      have HNB := Lib.hid (numB_take_lt ys k (by rw [HYL.out]; exact hlt) (by rw [HYL.out]; exact hn8))
      obtain ⟨x, hx⟩ : ∃ x, x = numB (ys.take k) := ⟨_, rfl⟩
      rw [← hx]
      have hxb : x < 72057594037927936 := by rw [hx]; exact HNB.out
      obtain ⟨b, hb⟩ : ∃ b : UInt8, b = bs.getD (a + k) 0 := ⟨_, rfl⟩
      rw [← hb] at hcell hbd
      have HX := Lib.hid hx; clear hx
      have HB := Lib.hid hb; clear hb
      subst hao
      have s1 : IntKind.i64.wrap ((a : Int) + (k : Int)) = (a : Int) + (k : Int) := IntWalk.i64_in _ (by omega)
      have s2 : ((a : Int) + (k : Int)).toNat = a + k := by omega
      have s3 : (0 : Int) ≤ (a : Int) + (k : Int) := by omega
      have s4 : (a : Int) + (k : Int) < (bs.length : Int) := by omega
      go_wp2
      go_quiet (fail)
      have HV : Hid (Value.int .u64 ((x : Int) * 256 + (b.toNat : Int)) = .int .u64 (numB (ys.take (k + 1)))) := by
        show _ = _
        rw [take_snoc8 ys k (by rw [HYL.out]; exact hlt), numB_snoc, HYG.out k hlt, ← HB.out, ← HX.out]
        congr 1
      go_wp2
      go_roundw
      case rel => exact ⟨k + 1, q + nq, by omega, by go_num, HV.out, rfl⟩
      case measure => simp [intOf]; omega
    · have hke : k = n := by omega
      subst hke
      have HE : Hid (ys.take k = ys) := List.take_of_length_le (by rw [HYL.out]; exact Nat.le_refl _)
      rw [HE.out]
      go_wp2
      go_ret
      exact ⟨rfl, q, by first | rfl | (congr 2; omega)⟩

set_option linter.unusedVariables false

/-- The document's In with these bytes left. -/
def RefV (w : World) (r : Nat) (xs : List UInt8) (bad : Bool) : Prop := ∃ v bs a, RefAt w r v bs a bad ∧ xs = bs.drop a

theorem RefV.keep {S : Nat → Prop} {w w' : World} {r : Nat} {xs : List UInt8} {bad : Bool} (h : RefV w r xs bad) (ho : Only S w w') (hr : ¬ S r) (hS : ∀ k cur fr, w.heap[k]? = some (.cells cur 5 fr) → ¬ S k) : RefV w' r xs bad := by
  obtain ⟨v, bs, a, h, hx⟩ := h
  exact ⟨v, bs, a, h.keep ho hr hS, hx⟩

theorem can_iff {n : Nat} {bs : List UInt8} {a : Nat} (hle : a ≤ bs.length) : can n (bs.drop a) false = decide (a + n ≤ bs.length) := by
  simp only [can, List.length_drop, Bool.not_false, Bool.true_and, decide_eq_decide]
  omega

def RNumPost (w : World) (r n : Nat) (xs : List UInt8) (bad : Bool) (e : Ending) (w' : World) : Prop :=
  e = .returned (.int .u64 (numB (nextR n xs bad))) ∧ RefV w' r (nextL n xs bad) (!can n xs bad) ∧ Only (fun k => k = r) w w'

theorem refNum (r n : Nat) (xs : List UInt8) (bad : Bool) (w : World) (h : RefV w r xs bad) (hn8 : n ≤ 8) :
    Calls Tryd.prog 50 #[.pointer (some ⟨r, 0, none⟩), .int .i64 n] w (RNumPost w r n xs bad) := by
  obtain ⟨v, bs, a, h, rfl⟩ := h
  cases bad with
  | true =>
    refine (refNum_bad r n v bs a w h).mono ?_
    rintro e w' ⟨rfl, rfl⟩
    exact ⟨by simp [nextR, can, numB], ⟨v, bs, a, by simpa [can] using h.bad true, by simp [nextL, can]⟩, Only.cell w r 2 _⟩
  | false =>
    have hc := can_iff (n := n) h.le
    by_cases hn : a + n ≤ bs.length
    · refine (refNum_ok r n v bs a w h hn hn8).mono ?_
      rintro e w' ⟨rfl, q, rfl⟩
      have hc' : can n (bs.drop a) false = true := by rw [hc]; simpa using hn
      refine ⟨by simp [nextR, hc'], ⟨v, bs, a + n, ?_, by simp [nextL, hc']⟩, (only_drewN _ w q).trans (Only.cell _ r 1 _) (fun _ _ h => h)⟩
      rw [hc']
      exact (h.drewN q).move (a + n) hn
    · refine (refNum_short r n v bs a w h (by omega) hn8).mono ?_
      rintro e w' ⟨rfl, q, rfl⟩
      have hc' : can n (bs.drop a) false = false := by rw [hc]; simpa using hn
      refine ⟨by simp [nextR, hc', numB], ⟨v, bs, a, ?_, by simp [nextL, hc']⟩, (only_drewN _ w q).trans (Only.cell _ r 2 _) (fun _ _ h => h)⟩
      rw [hc']
      exact (h.drewN q).bad true

set_option maxHeartbeats 400000 in
theorem refFlag_bad (r : Nat) (v : Value) (bs : List UInt8) (a : Nat) (w : World) (h : RefAt w r v bs a true) :
    Calls Tryd.prog 63 #[.pointer (some ⟨r, 0, none⟩)] w fun e w' => e = .returned (.bool false) ∧ ∃ q, (w.drewN q).setCell ⟨r, 2, none⟩ (.bool true) = w' := by
  have h2 := h.cell2
  have hf := h.free 2
  have HR := Lib.hid h; clear h
  go_enter Tryd.func63, Tryd.ntmps63
  go_wp2
  go_quiet (fail)
  go_wp2
  go_ret
  exact ⟨rfl, _, rfl⟩

theorem quiet_left (r : Nat) (v : Value) (bs : List UInt8) (a : Nat) (bad : Bool) (w : World) (h : RefAt w r v bs a bad) (q : Nat) :
    Calls Tryd.prog 70 #[.pointer (some ⟨r, 0, none⟩)] (w.drewN q) fun e w' => e = .returned (.int .i64 ((bs.length : Int) - (a : Int))) ∧ ∃ n, w' = (w.drewN q).drewN n :=
  refLeft r v bs a bad (w.drewN q) (h.drewN q)

set_option maxHeartbeats 400000 in
theorem refFlag_none (r : Nat) (v : Value) (bs : List UInt8) (w : World) (h : RefAt w r v bs bs.length false) :
    Calls Tryd.prog 63 #[.pointer (some ⟨r, 0, none⟩)] w fun e w' => e = .returned (.bool false) ∧ ∃ q, (w.drewN q).setCell ⟨r, 2, none⟩ (.bool true) = w' := by
  have h2 := h.cell2
  have hf := h.free 2
  have hd : (bs.length : Int) - (bs.length : Int) < 1 := by omega
  have HR := Lib.hid h; clear h
  go_enter Tryd.func63, Tryd.ntmps63
  go_wp2
  go_quiet ((go_at_call 70; exact Calls.quiet_of (quiet_left r v bs bs.length false w HR.out _)))
  go_wp2
  go_ret
  exact ⟨rfl, _, rfl⟩

set_option maxHeartbeats 400000 in
theorem refFlag_big (r : Nat) (v : Value) (bs : List UInt8) (a : Nat) (w : World) (h : RefAt w r v bs a false) (ha : a < bs.length) (hb1 : 1 < (bs.getD a 0).toNat) :
    Calls Tryd.prog 63 #[.pointer (some ⟨r, 0, none⟩)] w fun e w' => e = .returned (.bool false) ∧ ∃ q, (w.drewN q).setCell ⟨r, 2, none⟩ (.bool true) = w' := by
  have h2 := h.cell2
  have h1 := h.cell1
  have hf := h.free 2
  have hlen := h.len
  obtain ⟨ao, cap, rfl, _⟩ := h.sl.shape
  have h0 := h.cell0
  obtain ⟨g, off, rfl, hcell⟩ := h.sl.cells ha
  obtain ⟨b, hb⟩ : ∃ b : UInt8, b = bs.getD a 0 := ⟨_, rfl⟩
  rw [← hb] at hcell hb1
  clear hb
  have hd : decide ((bs.length : Int) - (a : Int) < 1) = false := by simp; omega
  have hge : ¬ (bs.length : Int) - (a : Int) < 1 := by omega
  have hgt : (1 : Int) < (b.toNat : Int) := by omega
  have s3 : (0 : Int) ≤ (a : Int) := by omega
  have s4 : (a : Int) < (bs.length : Int) := by omega
  have HR := Lib.hid h; clear h
  go_enter Tryd.func63, Tryd.ntmps63
  go_wp2
  go_quiet ((go_at_call 70; exact Calls.quiet_of (quiet_left r _ bs a false w HR.out _)))
  go_wp2
  go_ret
  exact ⟨rfl, _, rfl⟩

set_option maxHeartbeats 400000 in
theorem refFlag_small (r : Nat) (v : Value) (bs : List UInt8) (a : Nat) (w : World) (h : RefAt w r v bs a false) (ha : a < bs.length) (hb1 : (bs.getD a 0).toNat ≤ 1) :
    Calls Tryd.prog 63 #[.pointer (some ⟨r, 0, none⟩)] w fun e w' => e = .returned (.bool (decide ((bs.getD a 0).toNat = 1))) ∧ ∃ q q', ((w.drewN q).setCell ⟨r, 1, none⟩ (.int .i64 ((a + 1 : Nat) : Int))).drewN q' = w' := by
  have h2 := h.cell2
  have h1 := h.cell1
  have hf := h.free 1
  have hlen := h.len
  obtain ⟨ao, cap, rfl, _⟩ := h.sl.shape
  have h0 := h.cell0
  obtain ⟨g, off, rfl, hcell⟩ := h.sl.cells ha
  obtain ⟨b, hb⟩ : ∃ b : UInt8, b = bs.getD a 0 := ⟨_, rfl⟩
  rw [← hb] at hcell hb1 ⊢
  have HB := Lib.hid hb
  clear hb
  have hd : decide ((bs.length : Int) - (a : Int) < 1) = false := by simp; omega
  have hge : ¬ (bs.length : Int) - (a : Int) < 1 := by omega
  have hgt : ¬ (1 : Int) < (b.toNat : Int) := by omega
  have s3 : (0 : Int) ≤ (a : Int) := by omega
  have s4 : (a : Int) < (bs.length : Int) := by omega
  have HR := Lib.hid h; clear h
  go_enter Tryd.func63, Tryd.ntmps63
  go_wp2
  go_quiet ((go_at_call 70; exact Calls.quiet_of (quiet_left r _ bs a false w HR.out _)))
  go_wp2
  obtain ⟨q1, hq1⟩ : ∃ q1, q1 = nq := ⟨_, rfl⟩
  subst hq1
  have hm := Lib.hid ((HR.out.drewN q1).move (a + 1) (by omega))
  clear h0 h1 h2 hf hcell hd hge hgt
  obtain ⟨wx, hwx⟩ : ∃ wx, wx = (w.drewN q1).setCell ⟨r, 1, none⟩ (.int .i64 ((a : Int) + 1)) := ⟨_, rfl⟩
  have HX := Lib.hid hwx
  rw [← hwx]
  have HM : Hid (RefAt wx r (.slice (some ⟨g, off, none⟩) bs.length cap) bs (a + 1) false) := by show RefAt _ _ _ _ _ _; rw [hwx]; exact hm.out
  clear hwx hm
  have h0 := HM.out.cell0
  have h1 : wx.cell? ⟨r, 1, none⟩ = some (.int .i64 ((a : Int) + 1)) := HM.out.cell1
  obtain ⟨g2, off2, hg2, hcell⟩ := HM.out.sl.cells ha
  simp only [Option.some.injEq, Addr.mk.injEq, and_true] at hg2
  obtain ⟨rfl, rfl⟩ := hg2
  rw [← HB.out] at hcell
  have e1 : (a : Int) + 1 - 1 = (a : Int) := by omega
  go_quiet (fail)
  go_wp2
  go_ret
  refine ⟨?_, q1, nq, by rw [HX.out]; rfl⟩
  show Ending.returned (.bool ((b.toNat : Int) == 1)) = _
  have : ((b.toNat : Int) == 1) = decide (b.toNat = 1) := by rw [Bool.eq_iff_iff]; simp; omega
  rw [this]

set_option linter.unusedVariables false

def RFlagPost (w : World) (r : Nat) (xs : List UInt8) (bad : Bool) (e : Ending) (w' : World) : Prop :=
  e = .returned (.bool (flagR xs bad)) ∧ RefV w' r (flagL xs bad) (!flagOk xs bad) ∧ Only (fun k => k = r) w w'

theorem head_drop {bs : List UInt8} {a : Nat} : (bs.drop a).headD 0 = bs.getD a 0 := by
  rw [List.headD_eq_head?_getD, List.head?_drop, List.getD_eq_getElem?_getD]

theorem refFlag (r : Nat) (xs : List UInt8) (bad : Bool) (w : World) (h : RefV w r xs bad) :
    Calls Tryd.prog 63 #[.pointer (some ⟨r, 0, none⟩)] w (RFlagPost w r xs bad) := by
  obtain ⟨v, bs, a, h, rfl⟩ := h
  cases bad with
  | true =>
    refine (refFlag_bad r v bs a w h).mono ?_
    rintro e w' ⟨rfl, q, rfl⟩
    exact ⟨by simp [flagR, flagOk, can], ⟨v, bs, a, by simpa [flagOk, can] using (h.drewN q).bad true, by simp [flagL, flagOk, can]⟩, (only_drewN _ w q).trans (Only.cell _ r 2 _) (fun _ _ h => h)⟩
  | false =>
    have hc := can_iff (n := 1) h.le
    by_cases ha : a < bs.length
    · have hc' : can 1 (bs.drop a) false = true := by rw [hc]; simp; omega
      by_cases hb : (bs.getD a 0).toNat ≤ 1
      · have hok : flagOk (bs.drop a) false = true := by unfold flagOk; rw [hc', head_drop]; simpa using hb
        refine (refFlag_small r v bs a w h ha hb).mono ?_
        rintro e w' ⟨rfl, q, q', rfl⟩
        refine ⟨?_, ⟨v, bs, a + 1, ?_, by simp [flagL, hok]⟩, ((only_drewN _ w q).trans (Only.cell _ r 1 _) (fun _ _ h => h)).drewN q'⟩
        · unfold flagR; rw [hok, head_drop]; simp
        · rw [hok]; exact ((h.drewN q).move (a + 1) ha).drewN q'
      · have hok : flagOk (bs.drop a) false = false := by unfold flagOk; rw [hc', head_drop, decide_eq_false hb]; rfl
        refine (refFlag_big r v bs a w h ha (by omega)).mono ?_
        rintro e w' ⟨rfl, q, rfl⟩
        exact ⟨by simp [flagR, hok], ⟨v, bs, a, by rw [hok]; exact (h.drewN q).bad true, by simp [flagL, hok]⟩, (only_drewN _ w q).trans (Only.cell _ r 2 _) (fun _ _ h => h)⟩
    · obtain rfl : a = bs.length := by have := h.le; omega
      have hc' : can 1 (bs.drop bs.length) false = false := by rw [hc]; simp
      have hok : flagOk (bs.drop bs.length) false = false := by unfold flagOk; rw [hc']; rfl
      refine (refFlag_none r v bs w h).mono ?_
      rintro e w' ⟨rfl, q, rfl⟩
      exact ⟨by simp only [flagR, hok]; simp, ⟨v, bs, bs.length, by rw [hok]; exact (h.drewN q).bad true, by simp only [flagL, hok]; simp⟩, (only_drewN _ w q).trans (Only.cell _ r 2 _) (fun _ _ h => h)⟩

set_option maxHeartbeats 400000 in
theorem refText_bad (r : Nat) (v : Value) (bs : List UInt8) (a : Nat) (w : World) (h : RefAt w r v bs a true) :
    Calls Tryd.prog 64 #[.pointer (some ⟨r, 0, none⟩)] w fun e w' => e = .returned (.string ⟨#[]⟩) ∧ w.setCell ⟨r, 2, none⟩ (.bool true) = w' := by
  have h2 := h.cell2
  have hf := h.free 2
  have HR := Lib.hid h; clear h
  go_enter Tryd.func64, Tryd.ntmps64
  go_wp2
  go_ret
  exact ⟨rfl, rfl⟩

set_option maxHeartbeats 400000 in
theorem refText_short2 (r : Nat) (v : Value) (bs : List UInt8) (a : Nat) (w : World) (h : RefAt w r v bs a false) (hn : bs.length < a + 2) :
    Calls Tryd.prog 64 #[.pointer (some ⟨r, 0, none⟩)] w fun e w' => e = .returned (.string ⟨#[]⟩) ∧ ∃ q, (w.drewN q).setCell ⟨r, 2, none⟩ (.bool true) = w' := by
  have h2 := h.cell2
  have hf := h.free 2
  have hlt : (bs.length : Int) - (a : Int) < 2 := by omega
  have HR := Lib.hid h; clear h
  go_enter Tryd.func64, Tryd.ntmps64
  go_wp2_with fail
  refine (refLeft r v bs a false w HR.out).mono ?_
  rintro e w' ⟨rfl, q, rfl⟩
  go_wp2
  go_ret
  exact ⟨rfl, q, rfl⟩

theorem txt_num {bs : List UInt8} {a : Nat} (h : a + 2 ≤ bs.length) : txtN (bs.drop a) = (bs.getD a 0).toNat * 256 + (bs.getD (a + 1) 0).toNat := by
  have e : (bs.drop a).take 2 = [bs.getD a 0, bs.getD (a + 1) 0] := by
    rw [List.drop_eq_getElem_cons (by omega), List.drop_eq_getElem_cons (by omega), List.take_succ_cons, List.take_succ_cons, List.take_zero]
    simp [List.getD_eq_getElem?_getD, show a < bs.length by omega, show a + 1 < bs.length by omega]
  unfold txtN
  rw [e]
  simp [numB]

set_option maxHeartbeats 400000 in
theorem refText_shortN (r : Nat) (v : Value) (bs : List UInt8) (a : Nat) (w : World) (h : RefAt w r v bs a false) (h2' : a + 2 ≤ bs.length) (hn : bs.length < a + 2 + txtN (bs.drop a)) :
    Calls Tryd.prog 64 #[.pointer (some ⟨r, 0, none⟩)] w fun e w' => e = .returned (.string ⟨#[]⟩) ∧ ∃ q, (w.drewN q).setCell ⟨r, 2, none⟩ (.bool true) = w' := by
  rw [txt_num h2'] at hn
  have h2 := h.cell2
  have h1 := h.cell1
  have hf := h.free 2
  have hlen := h.len
  obtain ⟨ao, cap, rfl, _⟩ := h.sl.shape
  have h0 := h.cell0
  obtain ⟨g, off, rfl, hcell⟩ := h.sl.cells (k := a) (by omega)
  obtain ⟨g', off', hg, hcell'⟩ := h.sl.cells (k := a + 1) (by omega)
  simp only [Option.some.injEq, Addr.mk.injEq, and_true] at hg
  obtain ⟨rfl, rfl⟩ := hg
  obtain ⟨b, hb⟩ : ∃ b : UInt8, b = bs.getD a 0 := ⟨_, rfl⟩
  obtain ⟨c, hc⟩ : ∃ c : UInt8, c = bs.getD (a + 1) 0 := ⟨_, rfl⟩
  rw [← hb] at hcell hn
  rw [← hc] at hcell' hn
  have hbl := b.toNat_lt
  have hcl := c.toNat_lt
  clear hb hc
  have hge : ¬ (bs.length : Int) - (a : Int) < 2 := by omega
  have hd : decide ((bs.length : Int) - (a : Int) < 2) = false := by simp; omega
  have s3 : (0 : Int) ≤ (a : Int) := by omega
  have s4 : (a : Int) < (bs.length : Int) := by omega
  have s5 : (a : Int) + 1 < (bs.length : Int) := by omega
  have s6 : ((a : Int) + 1).toNat = a + 1 := by omega
  have hlt : (bs.length : Int) - (a : Int) < 2 + ((b.toNat : Int) * 256 + (c.toNat : Int)) := by omega
  have HR := Lib.hid h; clear h
  go_enter Tryd.func64, Tryd.ntmps64
  go_wp2_with fail
  refine (refLeft r _ bs a false w HR.out).mono ?_
  rintro e w' ⟨rfl, q, rfl⟩
  go_wp2_with fail
  go_quiet (fail)
  go_wp2_with fail
  refine (refLeft r _ bs a false _ (HR.out.drewN _)).mono ?_
  rintro e w' ⟨rfl, q2, rfl⟩
  go_wp2
  go_ret
  exact ⟨rfl, _, rfl⟩

set_option maxHeartbeats 400000 in
theorem refText_ok (r : Nat) (v : Value) (bs : List UInt8) (a : Nat) (w : World) (h : RefAt w r v bs a false) (h2' : a + 2 ≤ bs.length) (hn : a + 2 + txtN (bs.drop a) ≤ bs.length) :
    Calls Tryd.prog 64 #[.pointer (some ⟨r, 0, none⟩)] w fun e w' => e = .returned (.string ⟨(((bs.drop a).drop 2).take (txtN (bs.drop a))).toArray⟩) ∧ ∃ q q', ((w.drewN q).setCell ⟨r, 1, none⟩ (.int .i64 ((a + 2 + txtN (bs.drop a) : Nat) : Int))).drewN q' = w' := by
  have HT := Lib.hid (txt_num h2')
  obtain ⟨m, hm⟩ : ∃ m, m = txtN (bs.drop a) := ⟨_, rfl⟩
  rw [← hm] at hn ⊢
  have HMM := Lib.hid hm
  clear hm
  have h2 := h.cell2
  have h1 := h.cell1
  have hf := h.free 1
  have hlen := h.len
  obtain ⟨ao, cap, rfl, hlc, hcm⟩ := h.sl.shape
  have h0 := h.cell0
  obtain ⟨g, off, rfl, hcell⟩ := h.sl.cells (k := a) (by omega)
  obtain ⟨g', off', hg, hcell'⟩ := h.sl.cells (k := a + 1) (by omega)
  simp only [Option.some.injEq, Addr.mk.injEq, and_true] at hg
  obtain ⟨rfl, rfl⟩ := hg
  obtain ⟨b, hb⟩ : ∃ b : UInt8, b = bs.getD a 0 := ⟨_, rfl⟩
  obtain ⟨c, hc⟩ : ∃ c : UInt8, c = bs.getD (a + 1) 0 := ⟨_, rfl⟩
  rw [← hb] at hcell
  rw [← hc] at hcell'
  have HS : Hid ((b.toNat : Int) * 256 + (c.toNat : Int) = (m : Int)) := by show _ = _; rw [HMM.out, HT.out, hb, hc]; omega
  have hbl := b.toNat_lt
  have hcl := c.toNat_lt
  clear hb hc
  have hge : ¬ (bs.length : Int) - (a : Int) < 2 := by omega
  have hd : decide ((bs.length : Int) - (a : Int) < 2) = false := by simp; omega
  have s3 : (0 : Int) ≤ (a : Int) := by omega
  have s4 : (a : Int) < (bs.length : Int) := by omega
  have s5 : (a : Int) + 1 < (bs.length : Int) := by omega
  have s6 : ((a : Int) + 1).toNat = a + 1 := by omega
  have HR := Lib.hid h; clear h
  go_enter Tryd.func64, Tryd.ntmps64
  go_wp2_with fail
  refine (refLeft r _ bs a false w HR.out).mono ?_
  rintro e w' ⟨rfl, q, rfl⟩
  go_wp2_with fail
  go_quiet (fail)
  simp only [HS.out]
  have hge2 : ¬ (bs.length : Int) - (a : Int) < 2 + (m : Int) := by omega
  go_wp2_with fail
  refine (refLeft r _ bs a false _ (HR.out.drewN _)).mono ?_
  rintro e w' ⟨rfl, q2, rfl⟩
  go_wp2
  obtain ⟨q1, hq1⟩ : ∃ q1, q1 = q + nq + q2 := ⟨_, rfl⟩
  rw [← hq1]
  clear hq1
  have hm := Lib.hid ((HR.out.drewN q1).move (a + 2 + m) hn)
  clear h0 h1 h2 hf hcell hcell' hd hge hge2
  obtain ⟨wx, hwx⟩ : ∃ wx, wx = (w.drewN q1).setCell ⟨r, 1, none⟩ (.int .i64 ((a : Int) + (2 + (m : Int)))) := ⟨_, rfl⟩
  have HX := Lib.hid hwx
  rw [← hwx]
  have HE : Hid (((a + 2 + m : Nat) : Int) = (a : Int) + (2 + (m : Int))) := by show _ = _; omega
  have HM : Hid (RefAt wx r (.slice (some ⟨g, off, none⟩) bs.length cap) bs (a + 2 + m) false) := by
    show RefAt _ _ _ _ _ _
    rw [hwx, ← HE.out]
    exact hm.out
  clear hwx hm
  have h0 := HM.out.cell0
  have h1 : wx.cell? ⟨r, 1, none⟩ = some (.int .i64 ((a : Int) + (2 + (m : Int)))) := by rw [← HE.out]; exact HM.out.cell1
  have e1 : (a : Int) + (2 + (m : Int)) - (m : Int) = (a : Int) + 2 := by omega
  have e2 : ((a : Int) + 2).toNat = a + 2 := by omega
  have e3 : ((a : Int) + (2 + (m : Int))).toNat = a + 2 + m := by omega
  have e4 : (0 : Int) ≤ (a : Int) + 2 := by omega
  have e5 : (a : Int) + 2 ≤ (a : Int) + (2 + (m : Int)) := by omega
  have e6 : (a : Int) + (2 + (m : Int)) ≤ (cap : Int) := by omega
  have e7 : a + 2 + m - (a + 2) = m := by omega
  have hcv : ∀ q, (convert 49 9 (.slice (if cap = a + 2 then some ⟨g, off, none⟩ else some ⟨g, off + (a + 2), none⟩) m (cap - (a + 2)))).run Tryd.prog (wx.drewN q) = .ok (.string ⟨((bs.drop (a + 2)).take m).toArray⟩) (wx.drewN q) :=
    fun q => SlF.str (SlF.sub (HM.out.drewN q).sl hn)
  go_quiet (fail)
  go_wp2
  all_goals
    go_ret
    refine ⟨?_, q1, nq, by rw [HX.out, ← HE.out]; rfl⟩
    show Ending.returned (.string ⟨((bs.drop (a + 2)).take m).toArray⟩) = _
    first | rfl | rw [List.drop_drop]

def RTextPost (w : World) (r : Nat) (xs : List UInt8) (bad : Bool) (e : Ending) (w' : World) : Prop :=
  e = .returned (.string ⟨(txtR xs bad).toArray⟩) ∧ RefV w' r (txtL xs bad) (!txtOk xs bad) ∧ Only (fun k => k = r) w w'

theorem refText (r : Nat) (xs : List UInt8) (bad : Bool) (w : World) (h : RefV w r xs bad) :
    Calls Tryd.prog 64 #[.pointer (some ⟨r, 0, none⟩)] w (RTextPost w r xs bad) := by
  obtain ⟨v, bs, a, h, rfl⟩ := h
  cases bad with
  | true =>
    refine (refText_bad r v bs a w h).mono ?_
    rintro e w' ⟨rfl, rfl⟩
    exact ⟨by simp [txtR, txtOk, can], ⟨v, bs, a, by simpa [txtOk, can] using h.bad true, by simp [txtL, txtOk, can]⟩, Only.cell w r 2 _⟩
  | false =>
    have hc := can_iff (n := 2) h.le
    by_cases h2 : a + 2 ≤ bs.length
    · have hc2 : can 2 (bs.drop a) false = true := by rw [hc]; simpa using h2
      have hcn : can (txtN (bs.drop a)) ((bs.drop a).drop 2) false = decide (a + 2 + txtN (bs.drop a) ≤ bs.length) := by
        rw [List.drop_drop]; exact can_iff h2
      by_cases hn : a + 2 + txtN (bs.drop a) ≤ bs.length
      · have hok : txtOk (bs.drop a) false = true := by unfold txtOk; rw [hc2, hcn, decide_eq_true hn]; rfl
        refine (refText_ok r v bs a w h h2 hn).mono ?_
        rintro e w' ⟨rfl, q, q', rfl⟩
        refine ⟨by simp [txtR, hok], ⟨v, bs, a + 2 + txtN (bs.drop a), ?_, by simp [txtL, hok]⟩, ((only_drewN _ w q).trans (Only.cell _ r 1 _) (fun _ _ h => h)).drewN q'⟩
        rw [hok]
        exact ((h.drewN q).move _ hn).drewN q'
      · have hok : txtOk (bs.drop a) false = false := by unfold txtOk; rw [hc2, hcn, decide_eq_false hn]; rfl
        refine (refText_shortN r v bs a w h h2 (by omega)).mono ?_
        rintro e w' ⟨rfl, q, rfl⟩
        exact ⟨by simp [txtR, hok], ⟨v, bs, a, by rw [hok]; exact (h.drewN q).bad true, by simp [txtL, hok]⟩, (only_drewN _ w q).trans (Only.cell _ r 2 _) (fun _ _ h => h)⟩
    · have hc2 : can 2 (bs.drop a) false = false := by rw [hc]; simpa using h2
      have hok : txtOk (bs.drop a) false = false := by unfold txtOk; rw [hc2]; rfl
      refine (refText_short2 r v bs a w h (by omega)).mono ?_
      rintro e w' ⟨rfl, q, rfl⟩
      exact ⟨by simp [txtR, hok], ⟨v, bs, a, by rw [hok]; exact (h.drewN q).bad true, by simp [txtL, hok]⟩, (only_drewN _ w q).trans (Only.cell _ r 2 _) (fun _ _ h => h)⟩


end Go.Proofs.YtgkcflindenboaaDoor.RI
