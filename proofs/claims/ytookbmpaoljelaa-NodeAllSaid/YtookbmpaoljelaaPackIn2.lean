/-
  Contracts of package pack's In: next.
-/
import Derived.Test.YtookbmpaoljelaaPackIn
namespace Go.Proofs.Ytookbmpaoljelaa
open Go Go.RowKit
set_option linter.unusedVariables false
set_option linter.unusedSimpArgs false
set_option maxRecDepth 100000

set_option maxHeartbeats 400000 in
theorem next_nil (n : Int) (w : World) :
    Calls Try.prog 93 #[.pointer none, .int .i64 n] w fun e w' => e = .returned (.slice none 0 0) ∧ w = w' := by
  go_enter Try.func93, Try.ntmps93
  go_wp2_with (go_at_call 69; refine (bad_nil _).mono ?_; rintro e w' ⟨rfl, rfl⟩)
  go_ret
  exact ⟨rfl, rfl⟩

set_option maxHeartbeats 400000 in
theorem next_bad (p : Nat) (n : Int) (w : World) (hc : w.cell? ⟨p, 1, none⟩ = some (.bool true)) :
    Calls Try.prog 93 #[.pointer (some ⟨p, 0, none⟩), .int .i64 n] w fun e w' => e = .returned (.slice none 0 0) ∧ w = w' := by
  go_enter Try.func93, Try.ntmps93
  go_wp2_with (go_at_call 69; refine (bad_any _ _ _ hc).mono ?_; rintro e w' ⟨rfl, rfl⟩)
  go_ret
  exact ⟨rfl, rfl⟩

set_option maxHeartbeats 400000 in
theorem next_short (p : Nat) (ao : Option Addr) (l c n : Nat) (w : World) (hc : w.cell? ⟨p, 1, none⟩ = some (.bool false)) (hc0 : w.cell? ⟨p, 0, none⟩ = some (.slice ao l c))
    (hf : w.frozen? ⟨p, 1, none⟩ = false) (hn : l < n) :
    Calls Try.prog 93 #[.pointer (some ⟨p, 0, none⟩), .int .i64 n] w fun e w' => e = .returned (.slice none 0 0) ∧ w.setCell ⟨p, 1, none⟩ (.bool true) = w' := by
  go_enter Try.func93, Try.ntmps93
  go_wp2_with (go_at_call 69; refine (bad_any _ _ _ hc).mono ?_; rintro e w' ⟨rfl, rfl⟩)
  go_ret
  exact ⟨rfl, rfl⟩

set_option maxHeartbeats 400000 in
theorem next_ok (p g off l c n : Nat) (w : World) (hc : w.cell? ⟨p, 1, none⟩ = some (.bool false)) (hc0 : w.cell? ⟨p, 0, none⟩ = some (.slice (some ⟨g, off, none⟩) l c))
    (hf : w.frozen? ⟨p, 0, none⟩ = false) (hn : n ≤ l) (hlc : l ≤ c) (hm : c ≤ 9223372036854775807) :
    Calls Try.prog 93 #[.pointer (some ⟨p, 0, none⟩), .int .i64 n] w fun e w' => e = .returned (.slice (some ⟨g, off, none⟩) n c) ∧
      w.setCell ⟨p, 0, none⟩ (.slice (some (if n < c then ⟨g, off + n, none⟩ else ⟨g, off, none⟩)) (l - n) (c - n)) = w' := by
  have hn' : ¬ l < n := by omega
  go_enter Try.func93, Try.ntmps93
  go_wp2_with (go_at_call 69; refine (bad_any _ _ _ hc).mono ?_; rintro e w' ⟨rfl, rfl⟩)
  all_goals (go_ret; exact ⟨rfl, rfl⟩)

set_option maxHeartbeats 400000 in
theorem next_ok0 (p : Nat) (w : World) (hc : w.cell? ⟨p, 1, none⟩ = some (.bool false)) (hc0 : w.cell? ⟨p, 0, none⟩ = some (.slice none 0 0))
    (hf : w.frozen? ⟨p, 0, none⟩ = false) :
    Calls Try.prog 93 #[.pointer (some ⟨p, 0, none⟩), .int .i64 0] w fun e w' => e = .returned (.slice none 0 0) ∧
      w.setCell ⟨p, 0, none⟩ (.slice none 0 0) = w' := by
  go_enter Try.func93, Try.ntmps93
  go_wp2_with (go_at_call 69; refine (bad_any _ _ _ hc).mono ?_; rintro e w' ⟨rfl, rfl⟩)
  go_ret
  exact ⟨rfl, rfl⟩

/-- May n bytes be taken? -/
def can (n : Nat) (xs : List UInt8) (bad : Bool) : Bool := !bad && decide (n ≤ xs.length)
def nextR (n : Nat) (xs : List UInt8) (bad : Bool) : List UInt8 := if can n xs bad then xs.take n else []
def nextL (n : Nat) (xs : List UInt8) (bad : Bool) : List UInt8 := if can n xs bad then xs.drop n else xs

def NextPost (w : World) (p n : Nat) (xs : List UInt8) (bad : Bool) (e : Ending) (w' : World) : Prop :=
  ∃ r v', e = .returned r ∧ SlB w' r (nextR n xs bad) ∧ InV w' p v' (nextL n xs bad) (!can n xs bad) ∧ Only (fun k => k = p) w w'

theorem SlB.setCell {w : World} {v : Value} {xs : List UInt8} (h : SlB w v xs) {p : Nat} {cs : Array Value} {t : TypeId} (hp : w.heap[p]? = some (.cells cs t (0, 0))) (ht : t ≠ 5) (o : Nat) (u : Value) :
    SlB (w.setCell ⟨p, o, none⟩ u) v xs :=
  h.keep (S := fun k => k = p) (Only.cell w p o u) (fun k cur hk e => by subst e; rw [hk] at hp; simp at hp; exact ht hp.2.symm)

theorem InV.set0 {w : World} {p : Nat} {v u : Value} {xs ys : List UInt8} {bad : Bool} (h : InV w p v xs bad) (hu : SlB w u ys) : InV (w.setCell ⟨p, 0, none⟩ u) p u ys bad :=
  ⟨by rw [heap_set h.at']; rfl, hu.setCell h.at' (by decide) 0 u⟩
theorem InV.set1 {w : World} {p : Nat} {v : Value} {xs : List UInt8} {bad : Bool} (h : InV w p v xs bad) (b : Bool) : InV (w.setCell ⟨p, 1, none⟩ (.bool b)) p v xs b :=
  ⟨by rw [heap_set h.at']; rfl, h.sl.setCell h.at' (by decide) 1 _⟩

theorem SlB.take {w : World} {g off cap : Nat} {cur : Array Value} {xs : List UInt8} (hc : xs.length ≤ cap) (hm : cap ≤ maxLen) (hg : w.heap[g]? = some (.cells cur 5 (0, 0)))
    (hx : ∀ j, j < xs.length → cur[off + j]? = some (.int .u8 (xs.getD j 0).toNat)) {n : Nat} (hn : n ≤ xs.length) : SlB w (.slice (some ⟨g, off, none⟩) n cap) (xs.take n) := by
  refine .inr ⟨g, off, cap, cur, by simp [Nat.min_eq_left hn], by simp; omega, hm, hg, fun j hj => ?_⟩
  simp at hj
  rw [hx j (by omega)]
  rw [List.getD_eq_getElem?_getD, List.getD_eq_getElem?_getD, List.getElem?_take, if_pos (by omega)]

theorem SlB.drop {w : World} {g off cap : Nat} {cur : Array Value} {xs : List UInt8} (hc : xs.length ≤ cap) (hm : cap ≤ maxLen) (hg : w.heap[g]? = some (.cells cur 5 (0, 0)))
    (hx : ∀ j, j < xs.length → cur[off + j]? = some (.int .u8 (xs.getD j 0).toNat)) {n : Nat} (hn : n ≤ xs.length) :
    SlB w (.slice (some (if n < cap then ⟨g, off + n, none⟩ else ⟨g, off, none⟩)) (xs.length - n) (cap - n)) (xs.drop n) := by
  by_cases h : n < cap
  · refine .inr ⟨g, off + n, cap - n, cur, by simp [h], by simp; omega, by omega, hg, fun j hj => ?_⟩
    simp at hj
    rw [Nat.add_assoc, hx (n + j) (by omega)]
    simp [List.getD_eq_getElem?_getD]
  · refine .inr ⟨g, off, cap - n, cur, by simp [h], by simp; omega, by omega, hg, fun j hj => ?_⟩
    simp at hj
    omega

theorem next_any (p n : Nat) (v : Value) (xs : List UInt8) (bad : Bool) (w : World) (hI : InV w p v xs bad) :
    Calls Try.prog 93 #[.pointer (some ⟨p, 0, none⟩), .int .i64 n] w (NextPost w p n xs bad) := by
  cases bad with
  | true =>
    refine (next_bad p n w hI.cell1).mono ?_
    rintro e w' ⟨rfl, rfl⟩
    refine ⟨_, v, rfl, .inl ⟨rfl, by simp [nextR, can]⟩, by simpa [nextL, can] using hI, Only.refl _ _⟩
  | false =>
    by_cases hn : n ≤ xs.length
    · have hcan : can n xs false = true := by simp [can, hn]
      rcases hI.sl with ⟨rfl, rfl⟩ | ⟨g, off, cap, cur, rfl, h1, h2, h3, h4⟩
      · obtain rfl : n = 0 := by simpa using hn
        refine (next_ok0 p w hI.cell1 hI.cell0 (hI.free 0)).mono ?_
        rintro e w' ⟨rfl, rfl⟩
        refine ⟨_, .slice none 0 0, rfl, .inl ⟨rfl, by simp [nextR]⟩, ?_, Only.cell w p _ _⟩
        rw [hcan]
        simpa [nextL] using hI.set0 (u := .slice none 0 0) (ys := []) (.inl ⟨rfl, rfl⟩)
      · refine (next_ok p g off xs.length cap n w hI.cell1 hI.cell0 (hI.free 0) hn h1 (by unfold maxLen at h2; omega)).mono ?_
        rintro e w' ⟨rfl, rfl⟩
        have ht := (SlB.take h1 h2 h3 h4 hn).setCell hI.at' (by decide) 0 (.slice (some (if n < cap then ⟨g, off + n, none⟩ else ⟨g, off, none⟩)) (xs.length - n) (cap - n))
        have hd := hI.set0 (SlB.drop h1 h2 h3 h4 hn)
        refine ⟨_, _, rfl, by simpa [nextR, hcan] using ht, by simpa [nextL, hcan] using hd, Only.cell w p _ _⟩
    · have hcan : can n xs false = false := by simp [can]; omega
      obtain ⟨ao, cap, rfl, _⟩ := hI.sl.shape
      refine (next_short p ao xs.length cap n w hI.cell1 hI.cell0 (hI.free 1) (by omega)).mono ?_
      rintro e w' ⟨rfl, rfl⟩
      refine ⟨_, _, rfl, .inl ⟨rfl, by simp [nextR, hcan]⟩, by simpa [nextL, hcan] using hI.set1 true, Only.cell w p _ _⟩

end Go.Proofs.Ytookbmpaoljelaa
