/-
  A space in memory, and package extent's small calls: Index and Contains over flags, alike, has, turn.
-/
import Derived.Test.YtfclfmobmaemkaaRows
import Derived.Test.YtfclfmobmaemkaaExtSt
import Derived.Deep.QuietTactic
import Derived.BigQuiet
namespace Go.Proofs.Ytfclfmobmaemkaa
open Go Go.RowKit
set_option linter.unusedVariables false
set_option linter.unusedSimpArgs false
set_option maxRecDepth 100000

def bools (l : List Bool) : List Value := l.map Value.bool
theorem bools_length (l : List Bool) : (bools l).length = l.length := by simp [bools]
theorem bools_oneCell (l : List Bool) : ∀ u ∈ bools l, u.oneCell' = true := by
  intro u hu; simp [bools] at hu; rcases hu with ⟨_, rfl⟩ | ⟨_, rfl⟩ <;> rfl
/-- Flags that can be read from an address on. -/
def FlagsAt (w : World) (g off : Nat) (l : List Bool) : Prop := ∀ j, j < l.length → w.cell? ⟨g, off + j, none⟩ = some (.bool (l.getD j false))

def idxB (v : Bool) (l : List Bool) : Int := if runLen (!v) l < l.length then (runLen (!v) l : Int) else -1
theorem bool_other : ∀ {x y : Bool}, ¬ x = y → x = !y := by decide
theorem getD_of {l : List Bool} {j : Nat} (h : j < l.length) : l[j]? = some (l.getD j false) := by
  simp [List.getD_eq_getElem?_getD, h]

set_option maxHeartbeats 400000 in
theorem index_any {w : World} {g off cap : Nat} {l : List Bool} (hf : FlagsAt w g off l) (hl : l.length ≤ 4096) (v : Bool) :
    Calls Try.prog 30 #[.slice (some ⟨g, off, none⟩) l.length cap, .bool v] w fun e w' => e = .returned (.int .i64 (idxB v l)) ∧ w = w' := by
  have HF := Lib.hid hf
  obtain ⟨n, hn⟩ : ∃ n, n = l.length := ⟨_, rfl⟩
  have HN := Lib.hid hn
  rw [← hn] at hl ⊢
  have hle := runLen_le (!v) l
  rw [← hn] at hle
  obtain ⟨r, hr⟩ : ∃ r, r = runLen (!v) l := ⟨_, rfl⟩
  rw [← hr] at hle
  have HR := Lib.hid hr
  have HI : Hid (idxB v l = if r < n then (r : Int) else -1) := Lib.hid (by rw [idxB, ← hr, ← hn])
  clear hn hr hf
  go_enter Try.func30, Try.ntmps30
  go_wp2
  go_loop [8] (fun i => ∃ k : Nat, k ≤ n ∧ i = .int .i64 k ∧ k ≤ r) (fun i => n - (intOf i).toNat)
  case atStart => exact ⟨0, Nat.zero_le _, rfl, Nat.zero_le _⟩
  case round =>
    obtain ⟨k, hk, rfl, hkr⟩ := hrel
    by_cases hlt : k < n
    · have hx := HF.out k (by rw [← HN.out]; exact hlt)
      have hg := getD_of (l := l) (j := k) (by rw [← HN.out]; exact hlt)
      by_cases hv : l.getD k false = v
      · rw [hv] at hx hg
        have hrk : r = k := by
          have h1 := runLen_cap (x := !v) (l := l) (j := k) (by rw [hg]; simp)
          rw [← HR.out] at h1
          omega
        have HK := Lib.hid hrk
        have hlt' := hlt
        clear hg hv hrk hkr hle
        cases v
        all_goals
          go_wp2
          go_ret
          refine ⟨?_, rfl⟩
          rw [HI.out, HK.out, if_pos hlt']
          rfl
      · have hv' : l.getD k false = !v := bool_other hv
        rw [hv'] at hx hg
        have hrk : k < r := by
          refine Nat.lt_of_le_of_ne hkr fun e => ?_
          have h1 := runLen_end (x := !v) (l := l) (by rw [← HR.out, ← HN.out]; omega)
          rw [← HR.out, ← e, hg] at h1
          cases v <;> simp at h1
        clear hg hv hv'
        cases v
        all_goals
          simp only [Bool.not_true, Bool.not_false] at hx
          go_wp2
          go_round
          case rel => exact ⟨k + 1, by omega, by go_num, by omega⟩
          case measure => simp [intOf]; omega
    · have hge : ¬ r < n := by omega
      go_wp2
      go_ret
      refine ⟨?_, rfl⟩
      rw [HI.out, if_neg hge]
      try rfl

set_option maxHeartbeats 400000 in
theorem contains_any {w : World} {g off cap : Nat} {l : List Bool} (hf : FlagsAt w g off l) (hl : l.length ≤ 4096) (v : Bool) :
    Calls Try.prog 28 #[.slice (some ⟨g, off, none⟩) l.length cap, .bool v] w fun e w' => e = .returned (.bool (decide (v ∈ l))) ∧ w = w' := by
  have H := Lib.hid (index_any (cap := cap) hf hl v)
  by_cases h : runLen (!v) l < l.length
  · have e1 : idxB v l = (runLen (!v) l : Int) := if_pos h
    have e2 : decide (v ∈ l) = true := decide_eq_true (by
      have h1 := runLen_end h
      rw [Bool.not_not] at h1
      exact List.mem_of_getElem? h1)
    rw [e1] at H
    rw [e2]
    generalize runLen (!v) l = r at *
    clear e1 e2 h hf
    go_enter Try.func28, Try.ntmps28
    go_wp2_with (go_at_call 30; refine H.out.mono ?_; rintro e w' ⟨rfl, rfl⟩)
    go_ret
    exact ⟨rfl, rfl⟩
  · have e1 : idxB v l = -1 := if_neg h
    have e2 : decide (v ∈ l) = false := decide_eq_false (fun hm => by
      obtain ⟨j, hj, e⟩ := List.mem_iff_getElem.1 hm
      have h1 := runLen_lt (x := !v) (l := l) (j := j) (by omega)
      rw [List.getElem?_eq_getElem hj, e] at h1
      cases v <;> simp at h1)
    rw [e1] at H
    rw [e2]
    clear e1 e2 h hf
    go_enter Try.func28, Try.ntmps28
    go_wp2_with (go_at_call 30; refine H.out.mono ?_; rintro e w' ⟨rfl, rfl⟩)
    go_ret
    exact ⟨rfl, rfl⟩

set_option maxHeartbeats 400000 in
theorem alike_any {w : World} {g off cap : Nat} {b : Bool} {l : List Bool} (hf : FlagsAt w g off (b :: l)) (hl : (b :: l).length ≤ 4096) :
    Calls Try.prog 26 #[.slice (some ⟨g, off, none⟩) (b :: l).length cap] w fun e w' => e = .returned (.int .i64 (runLen b (b :: l))) ∧ w = w' := by
  have H := Lib.hid (index_any (cap := cap) hf hl (!b))
  have hc : w.cell? ⟨g, off, none⟩ = some (.bool b) := hf 0 (by simp)
  have hn0 : 0 < (b :: l).length := by simp
  have hle := runLen_le b (b :: l)
  have e0 : idxB (!b) (b :: l) = if runLen b (b :: l) < (b :: l).length then (runLen b (b :: l) : Int) else -1 := by rw [idxB, Bool.not_not]
  rw [e0] at H
  generalize (b :: l).length = n at *
  generalize runLen b (b :: l) = r at *
  clear hf e0
  by_cases h : r < n
  · rw [if_pos h] at H
    clear h
    go_enter Try.func26, Try.ntmps26
    go_wp2_with (go_at_call 30; refine H.out.mono ?_; rintro e w' ⟨rfl, rfl⟩)
    go_ret
    exact ⟨rfl, rfl⟩
  · rw [if_neg h] at H
    obtain rfl : r = n := by omega
    clear h
    go_enter Try.func26, Try.ntmps26
    go_wp2_with (go_at_call 30; refine H.out.mono ?_; rintro e w' ⟨rfl, rfl⟩)
    go_ret
    exact ⟨rfl, rfl⟩

/-- A space (or the reference's) in memory: its struct in block p, its flags in block g. -/
structure SpaceAt (t : TypeId) (w : World) (p g a : Nat) (l : List Bool) : Prop where
  at' : w.heap[p]? = some (.cells #[.int .i64 (a : Int), .slice (some ⟨g, 0, none⟩) l.length l.length] t (0, 0))
  row : w.heap[g]? = some (.cells (bools l).toArray 4 (0, 0))
  fits : a + l.length ≤ 4096
  ne : g ≠ p
theorem SpaceAt.keep {t : TypeId} {w w' : World} {p g a : Nat} {l : List Bool} (h : SpaceAt t w p g a l) (hk : ∀ k, k = p ∨ k = g → w'.heap[k]? = w.heap[k]?) : SpaceAt t w' p g a l :=
  ⟨(hk p (.inl rfl)).trans h.at', (hk g (.inr rfl)).trans h.row, h.fits, h.ne⟩
theorem SpaceAt.quiet {t : TypeId} {w w' : World} {p g a : Nat} {l : List Bool} (h : SpaceAt t w p g a l) (ho : Only (fun _ => False) w w') : SpaceAt t w' p g a l :=
  ⟨ho.keep h.at' (fun h => h), ho.keep h.row (fun h => h), h.fits, h.ne⟩
theorem SpaceAt.cell {t : TypeId} {w : World} {p g a : Nat} {l : List Bool} (h : SpaceAt t w p g a l) (j : Nat) :
    w.cell? ⟨p, j, none⟩ = (#[.int .i64 (a : Int), .slice (some ⟨g, 0, none⟩) l.length l.length] : Array Value)[j]? := by simp [World.cell?, h.at']
theorem SpaceAt.flag {t : TypeId} {w : World} {p g a : Nat} {l : List Bool} (h : SpaceAt t w p g a l) {j : Nat} (hj : j < l.length) : w.cell? ⟨g, j, none⟩ = some (.bool (l.getD j false)) := by
  simp [World.cell?, h.row, bools, List.getD_eq_getElem?_getD, hj]
theorem SpaceAt.free {t : TypeId} {w : World} {p g a : Nat} {l : List Bool} (h : SpaceAt t w p g a l) (j : Nat) : w.frozen? ⟨g, j, none⟩ = false := by simp [World.frozen?, h.row]
theorem SpaceAt.flags {t : TypeId} {w : World} {p g a : Nat} {l : List Bool} (h : SpaceAt t w p g a l) (i n : Nat) (hi : i + n ≤ l.length) : FlagsAt w g i ((l.drop i).take n) := by
  intro j hj
  simp at hj
  rw [h.flag (by omega)]
  congr 2
  simp [List.getD_eq_getElem?_getD, show j < n by omega]
theorem SpaceAt.set {t : TypeId} {w : World} {p g a : Nat} {l : List Bool} (h : SpaceAt t w p g a l) (j : Nat) (b : Bool) : SpaceAt t (w.setCell ⟨g, j, none⟩ (.bool b)) p g a (l.set j b) := by
  refine ⟨?_, ?_, by simpa using h.fits, h.ne⟩
  · rw [Below.heap_setCell _ _ _ _ (fun e => h.ne e.symm), List.length_set]; exact h.at'
  · rw [heap_set h.row]
    simp [bools, List.map_set]

def hasB (a : Nat) (len : Nat) (start n : Int) : Bool := decide (1 ≤ n ∧ (a : Int) ≤ start ∧ start - a ≤ len - n)
set_option maxHeartbeats 400000 in
theorem ext_has {w : World} {p g a : Nat} {l : List Bool} (h : SpaceAt 51 w p g a l) (start n : Int) (hs : -9223372036854775808 ≤ start ∧ start ≤ 9223372036854775807) (hn : -9223372036854775808 ≤ n ∧ n ≤ 9223372036854775807) :
    Calls Try.prog 27 #[.pointer (some ⟨p, 0, none⟩), .int .i64 start, .int .i64 n] w fun e w' => e = .returned (.bool (hasB a l.length start n)) ∧ Quiet w w' := by
  have hc0 : w.cell? ⟨p, 0, none⟩ = some (.int .i64 (a : Int)) := h.cell 0
  have hc1 : w.cell? ⟨p, 1, none⟩ = some (.slice (some ⟨g, 0, none⟩) l.length l.length) := h.cell 1
  have hfit := h.fits
  generalize l.length = m at *
  clear h
  by_cases h1 : 1 ≤ n
  · by_cases h2 : (a : Int) ≤ start
    · have e1 : IntKind.i64.wrap (start - a) = start - a := IntWalk.i64_in _ (by omega)
      have e2 : IntKind.i64.wrap ((m : Int) - n) = m - n := IntWalk.i64_in _ (by omega)
      have e3 : hasB a m start n = decide (start - a ≤ m - n) := by simp [hasB, h1, h2]
      rw [e3]
      clear e3
      go_enter Try.func27, Try.ntmps27
      go_wp2
      go_quiet (fail)
      go_wp2
      go_ret
      exact ⟨rfl, (Only.refl _ _).drewN _⟩
    · have h2' : start < (a : Int) := by omega
      have h2d : decide ((a : Int) ≤ start) = false := decide_eq_false h2
      have e3 : hasB a m start n = false := by simp [hasB]; omega
      rw [e3]
      clear e3
      go_enter Try.func27, Try.ntmps27
      go_wp2
      go_quiet (fail)
      go_wp2
      go_ret
      exact ⟨rfl, (Only.refl _ _).drewN _⟩
  · have h1d : decide (1 ≤ n) = false := decide_eq_false h1
    have e3 : hasB a m start n = false := by simp [hasB]; omega
    rw [e3]
    clear e3
    go_enter Try.func27, Try.ntmps27
    go_wp2
    go_quiet (fail)
    go_wp2
    go_ret
    exact ⟨rfl, (Only.refl _ _).drewN _⟩

end Go.Proofs.Ytfclfmobmaemkaa
