/-
  Joined: WalSt WalSt2 WalSt3 WalSt4 WalSt5 PackROut BlkR1 OpenCap WalR1 SepAc Range ExtBlk WalR2 RoundRegion RowV Apart.
-/
import Derived.Test.YtbimhiffcdhcaaaWalJ2
import Derived.Deep.QuietTactic
import Derived.BigQuiet
import Derived.IntWalk
import Derived.RangeFuncRecord
import Derived.RangeFuncLeaves
import Derived.RangeFuncCalls
import Derived.RangeFuncKeeps
import Derived.OwnWalkIn
import Derived.TacticsInMore
import Derived.LoopNIn
import Derived.LoopIn
import Derived.OrdersHeld
import Derived.Deep.RegionHeld3
import Derived.ArgAppend
import Derived.OwnWalk
import Derived.Deep.DeepCutAuto
import Derived.Deep.CutBlock

namespace Go.Proofs.Ytbimhiffcdhcaaa
open Go
set_option linter.unusedVariables false
set_option linter.unusedSimpArgs false
set_option maxRecDepth 100000

/-- A piece: its mount, its flags, its data. -/
structure Pc where
  m : Nat
  f : Nat
  d : List UInt8
def Pc.fits (x : Pc) (last mount : Nat) (begins : Bool) : Bool :=
  decide (last ≤ x.m) && decide (x.m ≤ mount) && (begins || decide (x.m = last)) && decide (x.f ≤ 3) && (decide (x.f % 2 = 1) == begins) && (decide (2 ≤ x.f) || decide (x.d.length = 50)) && decide (x.d.length ≤ 50) && (decide (x.f = 3) || decide (0 < x.d.length))
theorem Pc.fits_iff {x : Pc} {last mount : Nat} {b : Bool} : x.fits last mount b = true ↔ last ≤ x.m ∧ x.m ≤ mount ∧ (b = true ∨ x.m = last) ∧ x.f ≤ 3 ∧ (x.f % 2 = 1 ↔ b = true) ∧ (2 ≤ x.f ∨ x.d.length = 50) ∧ x.d.length ≤ 50 ∧ (x.f = 3 ∨ 0 < x.d.length) := by
  have e : ((decide (x.f % 2 = 1) == b) = true) ↔ (x.f % 2 = 1 ↔ b = true) := by cases b <;> by_cases h : x.f % 2 = 1 <;> simp [h]
  simp only [Pc.fits, Bool.and_eq_true, Bool.or_eq_true, decide_eq_true_eq, e, and_assoc]
theorem Pc.fits_m {x : Pc} {last mount : Nat} {b : Bool} (h : x.fits last mount b = true) : last ≤ x.m ∧ x.m ≤ mount ∧ (b = false → x.m = last) := by
  obtain ⟨h1, h2, h3, _⟩ := Pc.fits_iff.1 h
  exact ⟨h1, h2, fun e => by rcases h3 with h3 | h3; (· rw [e] at h3; cases h3); (· exact h3)⟩
theorem Pc.fits_other {x : Pc} {last mount mount' : Nat} {b : Bool} (h : x.fits last mount b = true) (hm : x.m ≤ mount') : x.fits last mount' b = true := by
  obtain ⟨h1, h2, h3⟩ := Pc.fits_iff.1 h
  exact Pc.fits_iff.2 ⟨h1, hm, h3⟩

/-- One record from a piece on: its mount, the piece behind it, its data. -/
def wOne (P : Nat → Option Pc) (mount : Nat) : Nat → Nat → Nat → Bool → List UInt8 → Option (Nat × Nat × List UInt8)
  | 0, _, _, _, _ => none
  | fuel + 1, s, last, b, data => match P s with
    | none => none
    | some x => if x.fits last mount b then if 2 ≤ x.f then if (data ++ x.d).length ≤ 32768 then some (x.m, s + 1, data ++ x.d) else none else wOne P mount fuel (s + 1) x.m false (data ++ x.d) else none
/-- All records: where each begins, the piece behind it, its data. -/
def wAll (P : Nat → Option Pc) (mount : Nat) : Nat → Nat → Nat → Bool → Nat → List UInt8 → List (Nat × Nat × List UInt8)
  | 0, _, _, _, _, _ => []
  | fuel + 1, s, last, b, from', data => match P s with
    | none => []
    | some x => if x.fits last mount b then if 2 ≤ x.f then if (data ++ x.d).length ≤ 32768 then (from', s + 1, data ++ x.d) :: wAll P mount fuel (s + 1) x.m true (s + 1) [] else [] else wAll P mount fuel (s + 1) x.m false from' (data ++ x.d) else []

theorem wAll_succ (P : Nat → Option Pc) (mount fuel s last : Nat) (b : Bool) (from' : Nat) (data : List UInt8) : wAll P mount (fuel + 1) s last b from' data = match P s with
    | none => []
    | some x => if x.fits last mount b then if 2 ≤ x.f then if (data ++ x.d).length ≤ 32768 then (from', s + 1, data ++ x.d) :: wAll P mount fuel (s + 1) x.m true (s + 1) [] else [] else wAll P mount fuel (s + 1) x.m false from' (data ++ x.d) else [] := rfl
theorem wOne_succ (P : Nat → Option Pc) (mount fuel s last : Nat) (b : Bool) (data : List UInt8) : wOne P mount (fuel + 1) s last b data = match P s with
    | none => none
    | some x => if x.fits last mount b then if 2 ≤ x.f then if (data ++ x.d).length ≤ 32768 then some (x.m, s + 1, data ++ x.d) else none else wOne P mount fuel (s + 1) x.m false (data ++ x.d) else none := rfl
theorem wAll_one (P : Nat → Option Pc) (mount : Nat) : ∀ (fuel s last : Nat) (b : Bool) (from' : Nat) (data : List UInt8),
    wAll P mount fuel s last b from' data = match wOne P mount fuel s last b data with
      | none => []
      | some (m, t, xs) => (from', t, xs) :: wAll P mount (s + fuel - t) t m true t []
  | 0, s, last, b, from', data => rfl
  | fuel + 1, s, last, b, from', data => by
    rw [wAll_succ, wOne_succ]
    cases P s with
    | none => rfl
    | some x =>
      simp only
      by_cases h1 : x.fits last mount b = true
      · rw [if_pos h1, if_pos h1]
        by_cases h2 : 2 ≤ x.f
        · rw [if_pos h2, if_pos h2]
          by_cases h3 : (data ++ x.d).length ≤ 32768
          · rw [if_pos h3, if_pos h3]
            simp only
            rw [show s + (fuel + 1) - (s + 1) = fuel by omega]
          · rw [if_neg h3, if_neg h3]
        · rw [if_neg h2, if_neg h2, wAll_one P mount fuel, show s + (fuel + 1) = s + 1 + fuel by omega]
      · rw [if_neg h1, if_neg h1]

theorem wOne_some {P : Nat → Option Pc} {mount : Nat} : ∀ {fuel s last : Nat} {b : Bool} {data : List UInt8} {m t : Nat} {xs : List UInt8}, wOne P mount fuel s last b data = some (m, t, xs) →
    s < t ∧ t ≤ s + fuel ∧ (∀ j, s ≤ j → j < t → ∃ x, P j = some x ∧ x.m = m) ∧ last ≤ m ∧ m ≤ mount ∧ (b = false → m = last) ∧ ∃ x, P (t - 1) = some x ∧ 2 ≤ x.f
  | 0, s, last, b, data, m, t, xs, h => by simp [wOne] at h
  | fuel + 1, s, last, b, data, m, t, xs, h => by
    unfold wOne at h
    cases hx : P s with
    | none => rw [hx] at h; simp at h
    | some x =>
      rw [hx] at h
      simp only at h
      by_cases h1 : x.fits last mount b = true
      · rw [if_pos h1] at h
        obtain ⟨f1, f2, f3⟩ := Pc.fits_m h1
        by_cases h2 : 2 ≤ x.f
        · rw [if_pos h2] at h
          by_cases h3 : (data ++ x.d).length ≤ 32768
          · rw [if_pos h3] at h
            simp at h
            obtain ⟨rfl, rfl, rfl⟩ := h
            refine ⟨by omega, by omega, fun j j1 j2 => ?_, f1, f2, f3, x, by simpa using hx, h2⟩
            obtain rfl : j = s := by omega
            exact ⟨x, hx, rfl⟩
          · rw [if_neg h3] at h; cases h
        · rw [if_neg h2] at h
          obtain ⟨g1, g2, g3, g4, g5, g6, g7⟩ := wOne_some h
          have g6 := g6 rfl
          refine ⟨by omega, by omega, fun j j1 j2 => ?_, by omega, g5, fun e => by rw [g6]; exact f3 e, g7⟩
          by_cases e : j = s
          · subst e; exact ⟨x, hx, g6.symm⟩
          · exact g3 j (by omega) j2
      · rw [if_neg h1] at h; cases h

theorem wOne_local {P Q : Nat → Option Pc} {mount mount' : Nat} : ∀ {fuel fuel' s last : Nat} {b : Bool} {data : List UInt8} {m t : Nat} {xs : List UInt8}, wOne P mount fuel s last b data = some (m, t, xs) →
    (∀ j, s ≤ j → j < t → Q j = P j) → m ≤ mount' → t ≤ s + fuel' → wOne Q mount' fuel' s last b data = some (m, t, xs)
  | 0, _, s, last, b, data, m, t, xs, h, _, _, _ => by simp [wOne] at h
  | fuel + 1, 0, s, last, b, data, m, t, xs, h, _, _, h0 => by have := (wOne_some h).1; omega
  | fuel + 1, fuel' + 1, s, last, b, data, m, t, xs, h, hq, hm, ht => by
    have hs := wOne_some h
    unfold wOne at h ⊢
    rw [hq s (Nat.le_refl _) hs.1]
    cases hx : P s with
    | none => rw [hx] at h; simp at h
    | some x =>
      rw [hx] at h
      simp only at h ⊢
      have hxm : x.m = m := by
        obtain ⟨y, hy, e⟩ := hs.2.2.1 s (Nat.le_refl _) hs.1
        rw [hx] at hy
        simp at hy
        subst hy
        exact e
      by_cases h1 : x.fits last mount b = true
      · rw [if_pos h1] at h
        rw [if_pos (Pc.fits_other h1 (by omega))]
        by_cases h2 : 2 ≤ x.f
        · rw [if_pos h2] at h ⊢
          exact h
        · rw [if_neg h2] at h ⊢
          exact wOne_local h (fun j j1 j2 => hq j (by omega) j2) hm (by omega)
      · rw [if_neg h1] at h; cases h

/-- The pieces of a record, as they are written by a mount. -/
def wFlag (n j : Nat) : Nat := (if j = 0 then 1 else 0) + (if j + 1 = n then 2 else 0)
def wPc (M : Nat) (xs : List UInt8) (j : Nat) : Pc := ⟨M, wFlag (cntN xs.length) j, pieceN xs j⟩
theorem pieceN_full {xs : List UInt8} {j : Nat} (h : j + 1 < cntN xs.length) : (pieceN xs j).length = 50 := by
  have h1 := (cntN_fits xs.length).2 (by omega)
  have h2 : j * 50 + 50 ≤ 50 * (cntN xs.length - 1) := by omega
  simp [pieceN]
  omega
theorem pieceN_some {xs : List UInt8} {j : Nat} (h : j < cntN xs.length) (h0 : j ≠ 0) : 0 < (pieceN xs j).length := by
  have h1 := (cntN_fits xs.length).2 (by omega)
  simp [pieceN]
  omega
theorem wPc_fits {M last mount : Nat} {xs : List UInt8} {j : Nat} (hj : j < cntN xs.length) (h1 : j = 0 → last ≤ M) (h2 : j ≠ 0 → last = M) (hm : M ≤ mount) : (wPc M xs j).fits last mount (decide (j = 0)) = true := by
  have hl := pieceN_length xs j
  have hf := pieceN_full (xs := xs) (j := j)
  have hs := pieceN_some (xs := xs) (j := j) hj
  have hfl : wFlag (cntN xs.length) j ≤ 3 ∧ (wFlag (cntN xs.length) j % 2 = 1 ↔ j = 0) ∧ (j + 1 = cntN xs.length → 2 ≤ wFlag (cntN xs.length) j) ∧ (j = 0 → j + 1 = cntN xs.length → wFlag (cntN xs.length) j = 3) := by
    unfold wFlag
    refine ⟨?_, ?_, ?_, ?_⟩
    · split <;> split <;> omega
    · split <;> split <;> omega
    · intro h; rw [if_pos h]; omega
    · intro h h'; rw [if_pos h, if_pos h']
  refine Pc.fits_iff.2 ⟨?_, hm, ?_, hfl.1, hfl.2.1.trans (by simp), ?_, hl, ?_⟩
  · by_cases h0 : j = 0
    · exact h1 h0
    · rw [h2 h0]; exact Nat.le_refl _
  · by_cases h0 : j = 0
    · exact .inl (by simp [h0])
    · exact .inr (h2 h0).symm
  · by_cases hn : j + 1 = cntN xs.length
    · exact .inl (hfl.2.2.1 hn)
    · exact .inr (hf (by omega))
  · by_cases h0 : j = 0
    · by_cases hn : j + 1 = cntN xs.length
      · exact .inl (hfl.2.2.2 h0 hn)
      · exact .inr (by show 0 < (pieceN xs j).length; rw [hf (by omega)]; omega)
    · exact .inr (hs h0)

theorem wOne_right_from {P : Nat → Option Pc} {mount M p : Nat} {xs : List UInt8} (hP : ∀ j, j < cntN xs.length → P (p + j) = some (wPc M xs j)) (hm : M ≤ mount) (hx : xs.length ≤ 32768) :
    ∀ (r k fuel last : Nat), k + r = cntN xs.length → 1 ≤ r → r ≤ fuel → (k = 0 → last ≤ M) → (k ≠ 0 → last = M) → wOne P mount fuel (p + k) last (decide (k = 0)) (xs.take (k * 50)) = some (M, p + cntN xs.length, xs)
  | 0, k, fuel, last, _, h1, _, _, _ => by omega
  | r + 1, k, 0, last, _, _, h, _, _ => by omega
  | r + 1, k, fuel + 1, last, hk, _, hf, ha, hb => by
    rw [wOne_succ, hP k (by omega)]
    simp only
    rw [if_pos (wPc_fits (by omega) ha hb hm)]
    have ht : xs.take (k * 50) ++ (wPc M xs k).d = xs.take ((k + 1) * 50) := by
      show xs.take (k * 50) ++ pieceN xs k = _
      rw [pieceN, show (k + 1) * 50 = k * 50 + 50 by omega, List.take_add]
    rw [ht]
    by_cases hn : k + 1 = cntN xs.length
    · have h2 : 2 ≤ (wPc M xs k).f := by simp only [wPc, wFlag, hn]; simp
      have hall : xs.take ((k + 1) * 50) = xs := List.take_of_length_le (by rw [hn]; have := (cntN_fits xs.length).1; omega)
      rw [if_pos h2, hall, if_pos hx, ← hn]
      rfl
    · have h2 : ¬ 2 ≤ (wPc M xs k).f := by simp only [wPc, wFlag, hn]; simp; split <;> omega
      rw [if_neg h2]
      have := wOne_right_from hP hm hx r (k + 1) fuel M (by omega) (by omega) (by omega) (fun h => by omega) (fun _ => rfl)
      rw [show decide (k + 1 = 0) = false by simp] at this
      exact this
theorem wOne_right {P : Nat → Option Pc} {mount M p fuel last : Nat} {xs : List UInt8} (hP : ∀ j, j < cntN xs.length → P (p + j) = some (wPc M xs j)) (hm : M ≤ mount) (hx : xs.length ≤ 32768) (hf : cntN xs.length ≤ fuel) (hl : last ≤ M) :
    wOne P mount fuel p last true [] = some (M, p + cntN xs.length, xs) := by
  have h := wOne_right_from hP hm hx (cntN xs.length) 0 fuel last (by omega) (cntN_pos _) hf (fun _ => hl) (fun h => absurd rfl h)
  simpa using h

end Go.Proofs.Ytbimhiffcdhcaaa

namespace Go.Proofs.Ytbimhiffcdhcaaa
open Go
set_option linter.unusedVariables false
set_option linter.unusedSimpArgs false
set_option maxRecDepth 100000

def pcnt (A : List (Nat × List UInt8)) : Nat := (A.map fun x => cntN x.2.length).sum
theorem pcnt_cons (x : Nat × List UInt8) (A : List (Nat × List UInt8)) : pcnt (x :: A) = cntN x.2.length + pcnt A := by simp [pcnt]
theorem pcnt_append (A B : List (Nat × List UInt8)) : pcnt (A ++ B) = pcnt A + pcnt B := by simp [pcnt]
def recsAt (s : Nat) : List (Nat × List UInt8) → List (Nat × Nat × List UInt8)
  | [] => []
  | x :: A => (s, s + cntN x.2.length, x.2) :: recsAt (s + cntN x.2.length) A
theorem recsAt_append (s : Nat) (A B : List (Nat × List UInt8)) : recsAt s (A ++ B) = recsAt s A ++ recsAt (s + pcnt A) B := by
  induction A generalizing s with
  | nil => simp [recsAt, pcnt]
  | cons x A ih => simp [recsAt, ih, pcnt_cons, Nat.add_assoc]
/-- The records stand from a piece on, each as its mount wrote it. -/
def Stand (P : Nat → Option Pc) (s : Nat) : List (Nat × List UInt8) → Prop
  | [] => True
  | x :: A => (∀ j, j < cntN x.2.length → P (s + j) = some (wPc x.1 x.2 j)) ∧ Stand P (s + cntN x.2.length) A
/-- Their mounts rise, and none is too long. -/
def Rise (last M : Nat) : List (Nat × List UInt8) → Prop
  | [] => True
  | x :: A => last ≤ x.1 ∧ x.1 ≤ M ∧ x.2.length ≤ 32768 ∧ Rise x.1 M A
def lastM (last : Nat) : List (Nat × List UInt8) → Nat
  | [] => last
  | x :: A => lastM x.1 A
theorem lastM_append (last : Nat) (A B : List (Nat × List UInt8)) : lastM last (A ++ B) = lastM (lastM last A) B := by
  induction A generalizing last with
  | nil => rfl
  | cons x A ih => exact ih x.1
theorem Rise.append {last M : Nat} {A B : List (Nat × List UInt8)} : Rise last M (A ++ B) ↔ Rise last M A ∧ Rise (lastM last A) M B := by
  induction A generalizing last with
  | nil => simp [Rise, lastM]
  | cons x A ih => simp only [List.cons_append, Rise, lastM, ih, and_assoc]
theorem Rise.more {last M M' : Nat} {A : List (Nat × List UInt8)} (h : Rise last M A) (hM : M ≤ M') : Rise last M' A := by
  induction A generalizing last with
  | nil => trivial
  | cons x A ih => exact ⟨h.1, Nat.le_trans h.2.1 hM, h.2.2.1, ih h.2.2.2⟩
theorem Rise.last {last M : Nat} {A : List (Nat × List UInt8)} (h : Rise last M A) (hl : last ≤ M) : lastM last A ≤ M := by
  induction A generalizing last with
  | nil => exact hl
  | cons x A ih => exact ih h.2.2.2 h.2.1
theorem Stand.append {P : Nat → Option Pc} {s : Nat} {A B : List (Nat × List UInt8)} : Stand P s (A ++ B) ↔ Stand P s A ∧ Stand P (s + pcnt A) B := by
  induction A generalizing s with
  | nil => simp [Stand, pcnt]
  | cons x A ih => simp only [List.cons_append, Stand, ih, and_assoc, pcnt_cons, Nat.add_assoc]
theorem Stand.same {P Q : Nat → Option Pc} {s : Nat} {A : List (Nat × List UInt8)} (h : Stand P s A) (hq : ∀ j, s ≤ j → j < s + pcnt A → Q j = P j) : Stand Q s A := by
  induction A generalizing s with
  | nil => trivial
  | cons x A ih =>
    rw [pcnt_cons] at hq
    exact ⟨fun j hj => (hq _ (by omega) (by omega)).trans (h.1 j hj), ih h.2 (fun j h1 h2 => hq j (by omega) (by omega))⟩
/-- Each piece that stands is of one of the records. -/
theorem Stand.some {P : Nat → Option Pc} {s : Nat} {A : List (Nat × List UInt8)} (h : Stand P s A) {j : Nat} (h1 : s ≤ j) (h2 : j < s + pcnt A) : ∃ x, P j = some x ∧ ∃ y ∈ A, x.m = y.1 := by
  induction A generalizing s with
  | nil => simp [pcnt] at h2; omega
  | cons x A ih =>
    rw [pcnt_cons] at h2
    by_cases hj : j < s + cntN x.2.length
    · have := h.1 (j - s) (by omega)
      rw [show s + (j - s) = j by omega] at this
      exact ⟨_, this, x, by simp, rfl⟩
    · obtain ⟨y, hy, z, hz, e⟩ := ih h.2 (by omega) (by omega)
      exact ⟨y, hy, z, by simp [hz], e⟩
theorem Rise.le {last M : Nat} {A : List (Nat × List UInt8)} (h : Rise last M A) : ∀ y ∈ A, last ≤ y.1 ∧ y.1 ≤ M := by
  induction A generalizing last with
  | nil => intro y hy; simp at hy
  | cons x A ih =>
    intro y hy
    rcases List.mem_cons.1 hy with rfl | hy
    · exact ⟨h.1, h.2.1⟩
    · have := ih h.2.2.2 y hy; exact ⟨Nat.le_trans h.1 this.1, this.2⟩

/-- What stands is found, and the search goes on behind it. -/
theorem wAll_stand {P : Nat → Option Pc} {mount M : Nat} (hm : M ≤ mount) : ∀ {A : List (Nat × List UInt8)} {s last fuel : Nat}, Stand P s A → Rise last M A → pcnt A ≤ fuel →
    wAll P mount fuel s last true s [] = recsAt s A ++ wAll P mount (fuel - pcnt A) (s + pcnt A) (lastM last A) true (s + pcnt A) []
  | [], s, last, fuel, _, _, _ => by simp [recsAt, pcnt, lastM]
  | x :: A, s, last, fuel, hs, hr, hf => by
    rw [pcnt_cons] at hf ⊢
    rw [wAll_one, wOne_right hs.1 (Nat.le_trans hr.2.1 hm) hr.2.2.1 (by omega) hr.1]
    simp only
    rw [wAll_stand hm hs.2 hr.2.2.2 (by omega)]
    simp only [recsAt, lastM, List.cons_append]
    rw [show s + fuel - (s + cntN x.2.length) - pcnt A = fuel - (cntN x.2.length + pcnt A) by omega, show s + cntN x.2.length + pcnt A = s + (cntN x.2.length + pcnt A) by omega]

/-- A log: the pieces from head on below lim; by mount M; A: what is synced; B: what was appended since; N: what is seen; V: what each piece may be behind a crash; X: what was there ahead. -/
structure LogV (head lim least M : Nat) (A : List (Nat × List UInt8)) (B : List (List UInt8)) (down : Bool) (N X : Nat → Option Pc) (V : Nat → Option Pc → Prop) : Prop where
  le : least ≤ M
  rise : Rise least M A
  len : ∀ xs ∈ B, xs.length ≤ 32768
  fit : head + pcnt A + pcnt (B.map (Prod.mk M)) ≤ lim
  stand : Stand N head (A ++ B.map (Prod.mk M))
  safe : ∀ s v, head ≤ s → s < head + pcnt A → V s v → v = N s
  mid : ∀ s v, head + pcnt A ≤ s → s < head + pcnt A + pcnt (B.map (Prod.mk M)) → V s v → v = N s ∨ v = X s
  behind : ∀ s v, head + pcnt A + pcnt (B.map (Prod.mk M)) ≤ s → V s v → v = X s ∨ (down = true ∧ ∃ x, v = some x ∧ x.m = M ∧ x.f < 2)
  old : ∀ s x, head + pcnt A ≤ s → X s = some x → x.m < M
  none' : lastM least A = M ∨ wOne X M (lim - (head + pcnt A)) (head + pcnt A) (lastM least A) true [] = none
  self : ∀ s, head ≤ s → V s (N s)
  far : ∀ s v, lim ≤ s → V s v → v = none

theorem pairs_rise {last M : Nat} {B : List (List UInt8)} (hl : last ≤ M) (h : ∀ xs ∈ B, xs.length ≤ 32768) : Rise last M (B.map (Prod.mk M)) := by
  induction B generalizing last with
  | nil => trivial
  | cons x B ih => exact ⟨hl, Nat.le_refl _, h x (by simp), ih (Nat.le_refl _) (fun y hy => h y (by simp [hy]))⟩
theorem pairs_last {last M : Nat} {B : List (List UInt8)} (h : B ≠ []) : lastM last (B.map (Prod.mk M)) = M := by
  induction B generalizing last with
  | nil => exact absurd rfl h
  | cons x B ih =>
    cases B with
    | nil => rfl
    | cons y B => exact ih (last := M) (by simp)

/-- From a place where the last mount is M: what is found is the first ones of B. -/
theorem crash_go {Y X : Nat → Option Pc} {M mount lim : Nat} (hm : M ≤ mount) : ∀ {B : List (List UInt8)} {p last : Nat} {N : Nat → Option Pc}, (∀ xs ∈ B, xs.length ≤ 32768) → last ≤ M → p + pcnt (B.map (Prod.mk M)) ≤ lim →
    Stand N p (B.map (Prod.mk M)) →
    (∀ s, p ≤ s → s < p + pcnt (B.map (Prod.mk M)) → Y s = N s ∨ Y s = X s) →
    (∀ s, p + pcnt (B.map (Prod.mk M)) ≤ s → Y s = X s ∨ ∃ x, Y s = some x ∧ x.m = M ∧ x.f < 2) →
    (∀ s x, p ≤ s → X s = some x → x.m < M) →
    (last = M ∨ wOne X M (lim - p) p last true [] = none) →
    ∃ B1 B2, B = B1 ++ B2 ∧ wAll Y mount (lim - p) p last true p [] = recsAt p (B1.map (Prod.mk M)) ∧ Stand Y p (B1.map (Prod.mk M)) ∧
      wOne Y mount (lim - (p + pcnt (B1.map (Prod.mk M)))) (p + pcnt (B1.map (Prod.mk M))) (lastM last (B1.map (Prod.mk M))) true [] = none := by
  intro B
  induction B with
  | nil =>
    intro p last N hlen hl hfit hst hmid hbeh hold hnone
    have hn : wOne Y mount (lim - p) p last true [] = none := by
      cases ho : wOne Y mount (lim - p) p last true [] with
      | none => rfl
      | some r =>
        obtain ⟨m, t, xs⟩ := r
        obtain ⟨g1, g2, g3, g4, g5, _, x, gx, gf⟩ := wOne_some ho
        exfalso
        have hY : ∀ s, p ≤ s → Y s = X s ∨ ∃ x, Y s = some x ∧ x.m = M ∧ x.f < 2 := fun s hs => hbeh s (by simpa [pcnt] using hs)
        obtain ⟨x0, hx0, e0⟩ := g3 (t - 1) (by omega) (by omega)
        rw [gx] at hx0
        simp at hx0
        subst hx0
        have hmM : m < M := by
          rcases hY (t - 1) (by omega) with h | ⟨y, h, _, hf⟩
          · rw [gx] at h; have := hold _ _ (by omega) h.symm; omega
          · rw [gx] at h; simp at h; subst h; omega
        rcases hnone with h | h
        · omega
        · have hloc := wOne_local (Q := X) (mount' := M) (fuel' := lim - p) ho (fun j j1 j2 => by
            rcases hY j j1 with h | ⟨y, h, hy, _⟩
            · exact h.symm
            · obtain ⟨z, hz, e⟩ := g3 j j1 j2
              rw [h] at hz; simp at hz; subst hz; omega) (by omega) g2
          rw [h] at hloc; cases hloc
    refine ⟨[], [], rfl, ?_, trivial, by simpa [pcnt, lastM] using hn⟩
    rw [wAll_one, hn]
    rfl
  | cons b B ih =>
    intro p last N hlen hl hfit hst hmid hbeh hold hnone
    simp only [List.map_cons, pcnt_cons] at hfit hmid hbeh
    have hst' : (∀ j, j < cntN b.length → N (p + j) = some (wPc M b j)) ∧ Stand N (p + cntN b.length) (B.map (Prod.mk M)) := hst
    by_cases hall : ∀ j, j < cntN b.length → Y (p + j) = some (wPc M b j)
    · obtain ⟨B1, B2, e, h1, h2, h3⟩ := ih (p := p + cntN b.length) (last := M) (fun xs hx => hlen xs (by simp [hx])) (Nat.le_refl _) (by omega) hst'.2
        (fun s s1 s2 => hmid s (by omega) (by omega)) (fun s s1 => hbeh s (by omega)) (fun s x s1 => hold s x (by omega)) (.inl rfl)
      refine ⟨b :: B1, B2, by rw [e]; rfl, ?_, ⟨hall, h2⟩, ?_⟩
      · rw [wAll_one, wOne_right hall hm (hlen b (by simp)) (by omega) hl]
        simp only
        rw [show p + (lim - p) - (p + cntN b.length) = lim - (p + cntN b.length) by omega, h1]
        rfl
      · simp only [List.map_cons, pcnt_cons, lastM]
        rw [← Nat.add_assoc]
        exact h3
    · refine ⟨[], b :: B, rfl, ?_, trivial, ?_⟩
      all_goals
        have hn : wOne Y mount (lim - p) p last true [] = none := by
          cases ho : wOne Y mount (lim - p) p last true [] with
          | none => rfl
          | some r =>
            obtain ⟨m, t, xs⟩ := r
            obtain ⟨g1, g2, g3, g4, g5, _, x, gx, gf⟩ := wOne_some ho
            exfalso
            -- some piece of b is an older one
            obtain ⟨j0, hj0, hne⟩ : ∃ j, j < cntN b.length ∧ Y (p + j) ≠ some (wPc M b j) := by
              apply Classical.byContradiction
              intro hno
              exact hall fun j hj => Classical.byContradiction fun h => hno ⟨j, hj, h⟩
            have hYX : ∀ s, p ≤ s → Y s = X s ∨ ∃ x, Y s = some x ∧ x.m = M ∧ (p + cntN b.length - 1 ≠ s → s < p + cntN b.length → x.f < 2) ∧ (p + cntN b.length + pcnt (B.map (Prod.mk M)) ≤ s → x.f < 2) := fun s hs => by
              by_cases hs2 : s < p + (cntN b.length + pcnt (B.map (Prod.mk M)))
              · rcases hmid s hs hs2 with h | h
                · right
                  by_cases hb : s < p + cntN b.length
                  · have := hst'.1 (s - p) (by omega)
                    rw [show p + (s - p) = s by omega] at this
                    refine ⟨_, h.trans this, rfl, fun e1 _ => ?_, fun e => by omega⟩
                    show wFlag _ _ < 2
                    unfold wFlag
                    split <;> split <;> omega
                  · obtain ⟨x, hx, y, hy, e⟩ := Stand.some hst'.2 (j := s) (by omega) (by omega)
                    obtain ⟨z, _, rfl⟩ := List.mem_map.1 hy
                    exact ⟨x, h.trans hx, e, fun _ e => by omega, fun e => by omega⟩
                · exact .inl h
              · rcases hbeh s (by omega) with h | ⟨x, h, hx, hf⟩
                · exact .inl h
                · exact .inr ⟨x, h, hx, fun _ _ => hf, fun _ => hf⟩
            obtain ⟨x0, hx0, e0⟩ := g3 (t - 1) (by omega) (by omega)
            rw [gx] at hx0
            simp at hx0
            subst hx0
            by_cases hmM : m = M
            · subst hmM
              -- the record ends ahead of the older piece
              have ht : t ≤ p + j0 := by
                apply Classical.byContradiction
                intro hgt
                obtain ⟨z, hz, ez⟩ := g3 (p + j0) (by omega) (by omega)
                rcases hmid (p + j0) (by omega) (by omega) with h | h
                · exact hne (h.trans (hst'.1 j0 hj0))
                · rw [hz] at h; have := hold _ _ (by omega) h.symm; omega
              rcases hYX (t - 1) (by omega) with h | ⟨y, h, _, hf, _⟩
              · rw [gx] at h; have := hold _ _ (by omega) h.symm; omega
              · rw [gx] at h; simp at h; subst h
                have := hf (by omega) (by omega)
                omega
            · have hlt : m < M := by
                obtain ⟨z, hz, ez⟩ := g3 p (Nat.le_refl _) g1
                rcases hYX p (Nat.le_refl _) with h | ⟨y, h, hy, _⟩
                · rw [hz] at h; have := hold _ _ (Nat.le_refl _) h.symm; omega
                · rw [hz] at h; simp at h; subst h; omega
              rcases hnone with h | h
              · omega
              · have hloc := wOne_local (Q := X) (mount' := M) (fuel' := lim - p) ho (fun j j1 j2 => by
                  rcases hYX j j1 with h | ⟨y, h, hy, _⟩
                  · exact h.symm
                  · obtain ⟨z, hz, e⟩ := g3 j j1 j2
                    rw [h] at hz; simp at hz; subst hz; omega) (by omega) g2
                rw [h] at hloc; cases hloc
      · rw [wAll_one, hn]; rfl
      · simpa [pcnt, lastM] using hn

/-- Behind a crash, to a later mount: the records that are found are the first ones, with all that were synced; and so on from there. -/
theorem LogV.crash {head lim least M mount : Nat} {A : List (Nat × List UInt8)} {B : List (List UInt8)} {down : Bool} {N X : Nat → Option Pc} {V : Nat → Option Pc → Prop}
    (h : LogV head lim least M A B down N X V) (Y : Nat → Option Pc) (hY : ∀ s, head ≤ s → V s (Y s)) (hm : M < mount) :
    ∃ B1 B2, B = B1 ++ B2 ∧ wAll Y mount (lim - head) head least true head [] = recsAt head (A ++ B1.map (Prod.mk M)) ∧
      LogV head lim least mount (A ++ B1.map (Prod.mk M)) [] false Y Y (fun s v => v = Y s) := by
  have hst := Stand.append.1 h.stand
  have hYA : Stand Y head A := hst.1.same fun j h1 h2 => h.safe j _ h1 h2 (hY j h1)
  have hl := h.rise.last h.le
  obtain ⟨B1, B2, e, h1, h2, h3⟩ := crash_go (Y := Y) (X := X) (M := M) (mount := mount) (lim := lim) (Nat.le_of_lt hm) (p := head + pcnt A) (last := lastM least A) (N := N) h.len hl h.fit hst.2
    (fun s s1 s2 => h.mid s _ s1 s2 (hY s (by omega)))
    (fun s s1 => by
      rcases h.behind s _ s1 (hY s (by omega)) with h | ⟨_, h⟩
      · exact .inl h
      · exact .inr h)
    h.old h.none'
  have hrB1 : Rise (lastM least A) M (B1.map (Prod.mk M)) := pairs_rise hl fun xs hx => h.len xs (by rw [e]; simp [hx])
  have hrise : Rise least M (A ++ B1.map (Prod.mk M)) := Rise.append.2 ⟨h.rise, hrB1⟩
  have hfit := h.fit
  have hpc : pcnt (B.map (Prod.mk M)) = pcnt (B1.map (Prod.mk M)) + pcnt (B2.map (Prod.mk M)) := by rw [e, List.map_append, pcnt_append]
  refine ⟨B1, B2, e, ?_, ?_⟩
  · rw [wAll_stand (M := M) (Nat.le_of_lt hm) hYA h.rise (by omega), show lim - head - pcnt A = lim - (head + pcnt A) by omega, h1, recsAt_append]
  · refine ⟨by have := h.le; omega, hrise.more (Nat.le_of_lt hm), fun xs hx => by simp at hx, ?_, ?_, fun s v _ _ hv => hv, fun s v _ _ hv => .inl hv, fun s v _ hv => .inl hv, ?_, ?_, fun s _ => rfl, ?_⟩
    · rw [pcnt_append]; simp [pcnt] at hfit hpc ⊢; omega
    · simpa using Stand.append.2 ⟨hYA, h2⟩
    · intro s x hs hx
      rw [pcnt_append] at hs
      have hv := hY s (by omega)
      rw [hx] at hv
      by_cases hs2 : s < head + pcnt A + pcnt (B.map (Prod.mk M))
      · rcases h.mid s _ (by omega) hs2 hv with h' | h'
        · obtain ⟨y, hy, z, hz, ez⟩ := Stand.some hst.2 (j := s) (by omega) hs2
          obtain ⟨u, _, rfl⟩ := List.mem_map.1 hz
          rw [← h'] at hy; simp at hy; subst hy; simp at ez; omega
        · have := h.old s x (by omega) h'.symm; omega
      · rcases h.behind s _ (by omega) hv with h' | ⟨_, y, h', hy, _⟩
        · have := h.old s x (by omega) h'.symm; omega
        · simp at h'; subst h'; omega
    · right
      rw [pcnt_append, lastM_append, ← Nat.add_assoc]
      cases ho : wOne Y mount (lim - (head + pcnt A + pcnt (B1.map (Prod.mk M)))) (head + pcnt A + pcnt (B1.map (Prod.mk M))) (lastM (lastM least A) (B1.map (Prod.mk M))) true [] with
      | none => rfl
      | some r => rw [h3] at ho; cases ho
    · intro s v hs hv
      have := h.far s _ hs (hY s (by omega))
      rw [hv]; exact this

/-- A record that is appended. -/
theorem LogV.append {head lim least M : Nat} {A : List (Nat × List UInt8)} {B : List (List UInt8)} {down : Bool} {N X N' : Nat → Option Pc} {V V' : Nat → Option Pc → Prop}
    (h : LogV head lim least M A B down N X V) (xs : List UInt8) (hx : xs.length ≤ 32768) (hd : down = false)
    (hfit : head + pcnt A + pcnt (B.map (Prod.mk M)) + cntN xs.length ≤ lim)
    (hN : ∀ s, head ≤ s → s < head + pcnt A + pcnt (B.map (Prod.mk M)) → N' s = N s)
    (hN2 : ∀ j, j < cntN xs.length → N' (head + pcnt A + pcnt (B.map (Prod.mk M)) + j) = some (wPc M xs j))
    (hself : ∀ s, head ≤ s → V' s (N' s))
    (hV : ∀ s v, head ≤ s → V' s v → V s v ∨ (lim ≤ s ∧ v = none) ∨ (head + pcnt A + pcnt (B.map (Prod.mk M)) ≤ s ∧ s < head + pcnt A + pcnt (B.map (Prod.mk M)) + cntN xs.length ∧ v = N' s)) :
    LogV head lim least M A (B ++ [xs]) false N' X V' := by
  have hp : pcnt ((B ++ [xs]).map (Prod.mk M)) = pcnt (B.map (Prod.mk M)) + cntN xs.length := by rw [List.map_append, pcnt_append]; simp [pcnt]
  have hst := Stand.append.1 h.stand
  have hs2 : Stand N' head (A ++ B.map (Prod.mk M)) := h.stand.same fun j h1 h2 => hN j h1 (by rw [pcnt_append] at h2; omega)
  have hfit0 := h.fit
  refine ⟨h.le, h.rise, ?_, by rw [hp]; omega, ?_, ?_, ?_, ?_, h.old, h.none', hself, ?_⟩
  · intro ys hy
    rcases List.mem_append.1 hy with hy | hy
    · exact h.len ys hy
    · rw [List.mem_singleton.1 hy]; exact hx
  · rw [List.map_append, ← List.append_assoc]
    refine Stand.append.2 ⟨hs2, ?_, trivial⟩
    intro j hj
    rw [pcnt_append, ← Nat.add_assoc]
    exact hN2 j hj
  · intro s v h1 h2 hv
    rcases hV s v h1 hv with hv | ⟨hv, _⟩ | ⟨hv, _⟩
    · rw [hN s h1 (by omega)]; exact h.safe s v h1 h2 hv
    · omega
    · omega
  · intro s v h1 h2 hv
    rw [hp] at h2
    rcases hV s v (by omega) hv with hv | ⟨hv, _⟩ | ⟨hv, _, e⟩
    · by_cases hs : s < head + pcnt A + pcnt (B.map (Prod.mk M))
      · rw [hN s (by omega) hs]; exact h.mid s v h1 hs hv
      · rcases h.behind s v (by omega) hv with e | ⟨e, _⟩
        · exact .inr e
        · rw [hd] at e; cases e
    · omega
    · exact .inl e
  · intro s v h1 hv
    rw [hp] at h1
    rcases hV s v (by omega) hv with hv | ⟨hl, rfl⟩ | ⟨hv, hv2, e⟩
    · rcases h.behind s v (by omega) hv with e | ⟨e, _⟩
      · exact .inl e
      · rw [hd] at e; cases e
    · rcases h.behind s _ (by omega) (h.self s (by omega)) with e | ⟨e, _⟩
      · exact .inl (by rw [← e]; exact (h.far s _ hl (h.self s (by omega))).symm)
      · rw [hd] at e; cases e
    · omega
  · intro s v h1 hv
    rcases hV s v (by omega) hv with hv | ⟨_, rfl⟩ | ⟨_, hv2, _⟩
    · exact h.far s v h1 hv
    · rfl
    · omega

/-- The power goes while a record is written. -/
theorem LogV.torn {head lim least M : Nat} {A : List (Nat × List UInt8)} {B : List (List UInt8)} {down : Bool} {N X N' : Nat → Option Pc} {V V' : Nat → Option Pc → Prop}
    (h : LogV head lim least M A B down N X V)
    (hN : ∀ s, head ≤ s → s < head + pcnt A + pcnt (B.map (Prod.mk M)) → N' s = N s)
    (hself : ∀ s, head ≤ s → V' s (N' s))
    (hV : ∀ s v, head ≤ s → V' s v → V s v ∨ (lim ≤ s ∧ v = none) ∨ (head + pcnt A + pcnt (B.map (Prod.mk M)) ≤ s ∧ s < lim ∧ ∃ x, v = some x ∧ x.m = M ∧ x.f < 2)) :
    LogV head lim least M A B true N' X V' := by
  have hfit0 := h.fit
  refine ⟨h.le, h.rise, h.len, h.fit, h.stand.same fun j h1 h2 => hN j h1 (by rw [pcnt_append] at h2; omega), ?_, ?_, ?_, h.old, h.none', hself, ?_⟩
  · intro s v h1 h2 hv
    rcases hV s v h1 hv with hv | ⟨hv, _⟩ | ⟨hv, _⟩
    · rw [hN s h1 (by omega)]; exact h.safe s v h1 h2 hv
    · omega
    · omega
  · intro s v h1 h2 hv
    rcases hV s v (by omega) hv with hv | ⟨hv, _⟩ | ⟨hv, _⟩
    · rw [hN s (by omega) h2]; exact h.mid s v h1 h2 hv
    · omega
    · omega
  · intro s v h1 hv
    rcases hV s v (by omega) hv with hv | ⟨hl, rfl⟩ | ⟨_, _, e⟩
    · rcases h.behind s v h1 hv with e | ⟨_, e⟩
      · exact .inl e
      · exact .inr ⟨rfl, e⟩
    · rcases h.behind s _ (by omega) (h.self s (by omega)) with e | ⟨_, x, e, _⟩
      · exact .inl (by rw [← e]; exact (h.far s _ hl (h.self s (by omega))).symm)
      · have := h.far s _ hl (h.self s (by omega)); rw [this] at e; cases e
    · exact .inr ⟨rfl, e⟩
  · intro s v h1 hv
    rcases hV s v (by omega) hv with hv | ⟨_, rfl⟩ | ⟨_, hv2, _⟩
    · exact h.far s v h1 hv
    · rfl
    · omega

/-- All is synced. -/
theorem LogV.sync {head lim least M : Nat} {A : List (Nat × List UInt8)} {B : List (List UInt8)} {down : Bool} {N X : Nat → Option Pc} {V : Nat → Option Pc → Prop}
    (h : LogV head lim least M A B down N X V) (hd : down = false) :
    LogV head lim least M (A ++ B.map (Prod.mk M)) [] false N N (fun s v => v = N s) := by
  have hfit := h.fit
  have hl := h.rise.last h.le
  have hN : ∀ s, head + pcnt A + pcnt (B.map (Prod.mk M)) ≤ s → N s = X s := fun s hs => by
    rcases h.behind s _ hs (h.self s (by omega)) with e | ⟨e, _⟩
    · exact e
    · rw [hd] at e; cases e
  refine ⟨h.le, Rise.append.2 ⟨h.rise, pairs_rise hl h.len⟩, fun xs hx => by simp at hx, ?_, by simpa using h.stand, fun s v _ _ hv => hv, fun s v _ _ hv => .inl hv, fun s v _ hv => .inl hv, ?_, ?_, fun s _ => rfl, ?_⟩
  · rw [pcnt_append]; simp [pcnt] at hfit ⊢; omega
  · intro s x hs hx
    rw [pcnt_append, ← Nat.add_assoc] at hs
    rw [hN s hs] at hx
    exact h.old s x (by omega) hx
  · rw [pcnt_append, lastM_append, ← Nat.add_assoc]
    by_cases hB : B = []
    · subst hB
      have hN := fun s hs => hN s (by simpa [pcnt] using hs)
      rcases h.none' with e | e
      · left; simpa [lastM] using e
      · right
        simp only [List.map_nil, lastM, show pcnt [] = 0 from rfl, Nat.add_zero]
        cases ho : wOne N M (lim - (head + pcnt A)) (head + pcnt A) (lastM least A) true [] with
        | none => rfl
        | some r =>
          obtain ⟨m, t, xs⟩ := r
          have hs := wOne_some ho
          have := wOne_local (Q := X) (mount' := M) (fuel' := lim - (head + pcnt A)) ho (fun j j1 j2 => (hN j j1).symm) hs.2.2.2.2.1 hs.2.1
          rw [e] at this; cases this
    · exact .inl (pairs_last hB)
  · intro s v hs hv
    rw [hv]
    exact h.far s _ hs (h.self s (by omega))

/-- The next piece is chosen for the head, all being synced. -/
theorem LogV.trim {head lim least M lim' : Nat} {A : List (Nat × List UInt8)} {N : Nat → Option Pc}
    (h : LogV head lim least M A [] false N N (fun s v => v = N s)) (hl : lim ≤ lim') :
    LogV (head + pcnt A) lim' M M [] [] false N N (fun s v => v = N s) := by
  have hfit := h.fit
  refine ⟨Nat.le_refl _, trivial, fun xs hx => by simp at hx, ?_, trivial, fun s v _ _ hv => hv, fun s v _ _ hv => .inl hv, fun s v _ hv => .inl hv, ?_, .inl rfl, fun s _ => rfl, ?_⟩
  · simp [pcnt] at hfit ⊢; omega
  · intro s x hs hx
    exact h.old s x (by simpa [pcnt] using hs) hx
  · intro s v hs hv
    exact h.far s v (by omega) hv
/-- A new log on a disk without pieces. -/
theorem LogV.start {head lim M : Nat} {N : Nat → Option Pc} (hl : head ≤ lim) (hN : ∀ s, head ≤ s → N s = none) : LogV head lim M M [] [] false N N (fun s v => v = N s) := by
  refine ⟨Nat.le_refl _, trivial, fun xs hx => by simp at hx, by simpa [pcnt] using hl, trivial, fun s v _ _ hv => hv, fun s v _ _ hv => .inl hv, fun s v _ hv => .inl hv, ?_, .inl rfl, fun s _ => rfl, ?_⟩
  · intro s x hs hx
    rw [hN s (by simpa [pcnt] using hs)] at hx; cases hx
  · intro s v hs hv
    rw [hv]; exact hN s (by omega)

end Go.Proofs.Ytbimhiffcdhcaaa

namespace Go.Proofs.Ytbimhiffcdhcaaa
open Go
set_option linter.unusedVariables false
set_option linter.unusedSimpArgs false
set_option maxRecDepth 100000

/-- A piece's bytes, up to the zeros; what a sector tells of the piece number s. -/
def pcB (s : Nat) (x : Pc) : List UInt8 := beB 8 s ++ (beB 4 x.m ++ (beB 1 x.f ++ (beB 1 x.d.length ++ x.d)))
def secPc (b : List UInt8) : Pc := ⟨numB ((b.drop 8).take 4), numB ((b.drop 12).take 1), (b.drop 14).take (numB ((b.drop 13).take 1))⟩
def rdP (s : Nat) (b : List UInt8) : Option Pc := if s < 18446744073709551616 ∧ (secPc b).d.length ≤ 50 ∧ b = pad (pcB s (secPc b)) then some (secPc b) else none
structure Pc.Ok (x : Pc) : Prop where
  m : x.m < 4294967296
  f : x.f < 256
  d : x.d.length ≤ 50
theorem pcB_length (s : Nat) (x : Pc) : (pcB s x).length = 14 + x.d.length := by simp [pcB, beB_length]; omega
theorem pcB_pad (s : Nat) (x : Pc) : pad (pcB s x) = beB 8 s ++ (beB 4 x.m ++ (beB 1 x.f ++ (beB 1 x.d.length ++ (x.d ++ List.replicate (50 - x.d.length) 0)))) := by
  unfold pad
  rw [pcB_length, show 64 - (14 + x.d.length) = 50 - x.d.length by omega]
  simp [pcB]
theorem secPc_pad (s : Nat) (x : Pc) (h : x.Ok) : secPc (pad (pcB s x)) = x := by
  rw [pcB_pad]
  obtain ⟨m, f, d⟩ := x
  obtain ⟨h1, h2, h3⟩ := h
  simp only at h1 h2 h3 ⊢
  have e8 : ∀ r : List UInt8, (beB 8 s ++ r).drop 8 = r := fun r => drop_l (beB_length 8 s)
  have e12 : ∀ r : List UInt8, (beB 8 s ++ (beB 4 m ++ r)).drop 12 = r := fun r => by
    rw [show (12 : Nat) = 8 + 4 from rfl, ← List.drop_drop, e8]; exact drop_l (beB_length 4 m)
  have e13 : ∀ r : List UInt8, (beB 8 s ++ (beB 4 m ++ (beB 1 f ++ r))).drop 13 = r := fun r => by
    rw [show (13 : Nat) = 12 + 1 from rfl, ← List.drop_drop, e12]; exact drop_l (beB_length 1 f)
  have e14 : ∀ r : List UInt8, (beB 8 s ++ (beB 4 m ++ (beB 1 f ++ (beB 1 d.length ++ r)))).drop 14 = r := fun r => by
    rw [show (14 : Nat) = 13 + 1 from rfl, ← List.drop_drop, e13]; exact drop_l (beB_length 1 _)
  unfold secPc
  rw [e8, e12, e13, e14, take_l (beB_length 4 m), take_l (beB_length 1 f), take_l (beB_length 1 d.length), numB_be' _ _ (by omega), numB_be' _ _ (by omega), numB_be' _ _ (by omega), take_l rfl]
theorem pad_num (s : Nat) (x : Pc) (hs : s < 18446744073709551616) : numB ((pad (pcB s x)).take 8) = s := by
  rw [pcB_pad, take_l (beB_length 8 s), numB_be' _ _ hs]
theorem rdP_num {s : Nat} {b : List UInt8} {x : Pc} (h : rdP s b = some x) : s < 18446744073709551616 ∧ numB (b.take 8) = s := by
  unfold rdP at h
  by_cases hc : s < 18446744073709551616 ∧ (secPc b).d.length ≤ 50 ∧ b = pad (pcB s (secPc b))
  · exact ⟨hc.1, by rw [hc.2.2, pad_num s _ hc.1]⟩
  · rw [if_neg hc] at h; cases h
theorem rdP_same {s : Nat} (hs : s < 18446744073709551616) (x : Pc) (h : x.Ok) : rdP s (pad (pcB s x)) = some x := by
  unfold rdP
  rw [secPc_pad s x h, if_pos ⟨hs, h.d, rfl⟩]
theorem rdP_other {s s' : Nat} (x : Pc) (hs' : s' < 18446744073709551616) (hne : s ≠ s') : rdP s (pad (pcB s' x)) = none := by
  cases hr : rdP s (pad (pcB s' x)) with
  | none => rfl
  | some y => have := (rdP_num hr).2; rw [pad_num s' x hs'] at this; omega
theorem rdP_zero {s : Nat} (h0 : s ≠ 0) : rdP s (List.replicate 64 0) = none := by
  cases hr : rdP s (List.replicate 64 0) with
  | none => rfl
  | some y =>
    have := (rdP_num hr).2
    rw [show numB ((List.replicate 64 (0 : UInt8)).take 8) = 0 by decide] at this
    omega
theorem wPc_ok {M : Nat} {xs : List UInt8} {j : Nat} (hM : M < 4294967296) : (wPc M xs j).Ok := ⟨hM, by show wFlag _ _ < 256; unfold wFlag; split <;> split <;> omega, pieceN_length xs j⟩

/-- The sector of a piece; what is seen there; what may be there behind a crash. -/
def ringS (base size s : Nat) : Nat := base + s % size
def lookP (N : List UInt8) (base size s : Nat) : Option Pc := rdP s (sec N (ringS base size s))
def mayB (D : DS) (i : Nat) (b : List UInt8) : Prop := b = sec D.K i ∨ ∃ x ∈ D.W, x.1 = i ∧ b = x.2
def mayP (D : DS) (base size s : Nat) (v : Option Pc) : Prop := ∃ b, mayB D (ringS base size s) b ∧ v = rdP s b
theorem ring_lt {base size s n : Nat} (h0 : 0 < size) (h : base + size ≤ n) : ringS base size s < n := by
  have := Nat.mod_lt s h0; unfold ringS; omega
theorem mod_apart {size s t : Nat} (h1 : s < t) (h2 : t < s + size) : s % size ≠ t % size := fun e => by
  have h3 := Nat.div_add_mod s size
  have h4 := Nat.div_add_mod t size
  rw [e] at h3
  rcases Nat.lt_or_ge (s / size) (t / size) with h | h
  · have := Nat.mul_le_mul_left size (Nat.succ_le_of_lt h)
    rw [Nat.mul_succ] at this
    omega
  · have := Nat.mul_le_mul_left size h
    omega
theorem ring_apart {base size s t : Nat} (h1 : s < t) (h2 : t < s + size) : ringS base size s ≠ ringS base size t := fun e => mod_apart h1 h2 (by unfold ringS at e; omega)

theorem lays_may {n i : Nat} : ∀ (W : List (Nat × List UInt8)) (K : List UInt8), K.length = n * 64 → (∀ x ∈ W, x.1 < n ∧ x.2.length = 64) → (sec (lays K W) i = sec K i ∨ ∃ x ∈ W, x.1 = i ∧ sec (lays K W) i = x.2)
  | [], K, hK, _ => .inl rfl
  | x :: W, K, hK, hW => by
    have hx := hW x (by simp)
    rcases lays_may (i := i) W (put K x.1 x.2) (put_length hK hx.1 hx.2) (fun y hy => hW y (by simp [hy])) with h | ⟨y, hy, h1, h2⟩
    · by_cases e : x.1 = i
      · subst e
        exact .inr ⟨x, by simp, rfl, h.trans (sec_put_same hK hx.1 hx.2)⟩
      · exact .inl (h.trans (sec_put_other hK hx.1 hx.2 (fun h => e h.symm)))
    · exact .inr ⟨y, by simp [hy], h1, h2⟩
theorem may_self {D : DS} (h : Coh D) (ok : D.Ok) (i : Nat) : mayB D i (sec D.N i) := by
  rw [show D.N = lays D.K D.W from h]
  exact lays_may D.W D.K ok.K ok.W
theorem may_crash {D : DS} (h : Coh D) (ok : D.Ok) (keep : List Int) (i : Nat) : mayB D i (sec (D.crash keep).N i) := by
  rw [h.crashed ok keep]
  rcases lays_may (i := i) (chosen D.W keep) D.K ok.K (fun x hx => ok.W x (chosen_sub _ _ x hx)) with e | ⟨x, hx, e⟩
  · exact .inl e
  · exact .inr ⟨x, chosen_sub _ _ x hx, e⟩
theorem may_still {D : DS} (h : Coh D) (hW : D.W = []) (i : Nat) (b : List UInt8) : mayB D i b ↔ b = sec D.N i := by
  have e : D.N = D.K := by rw [show D.N = lays D.K D.W from h, hW]; rfl
  unfold mayB
  rw [hW, e]
  simp
theorem mayP_still {D : DS} (h : Coh D) (hW : D.W = []) (base size : Nat) : mayP D base size = fun s v => v = lookP D.N base size s := by
  funext s v
  apply propext
  unfold mayP lookP
  simp only [may_still h hW]
  exact ⟨fun ⟨b, e, h⟩ => e ▸ h, fun h => ⟨_, rfl, h⟩⟩

/-- A write that is carried out; one that is not. -/
theorem lay_may {D : DS} {i : Nat} {s : List UInt8} {k : Nat} {c : List UInt8} (h : mayB (D.lay i s) k c) : mayB D k c ∨ (k = i ∧ c = s) := by
  rcases h with h | ⟨x, hx, h1, h2⟩
  · exact .inl (.inl h)
  · rcases List.mem_append.1 hx with hx | hx
    · exact .inl (.inr ⟨x, hx, h1, h2⟩)
    · rw [List.mem_singleton.1 hx] at h1 h2
      exact .inr ⟨h1.symm, h2⟩
theorem lay_more {D : DS} {i : Nat} {s : List UInt8} {k : Nat} {c : List UInt8} (h : mayB D k c) : mayB (D.lay i s) k c := by
  rcases h with h | ⟨x, hx, h⟩
  · exact .inl h
  · exact .inr ⟨x, List.mem_append.2 (.inl hx), h⟩
theorem last_may (D : DS) (k : Nat) (c : List UInt8) : mayB D.last k c ↔ mayB D k c := by
  obtain ⟨_, _, h3, h4, _⟩ := DS.last_same D
  unfold mayB
  rw [h3, h4]
theorem last_ok {D : DS} (ok : D.Ok) : D.last.Ok := by
  obtain ⟨h1, h2, h3, h4, _⟩ := DS.last_same D
  refine ⟨by rw [h1]; exact ok.n, by rw [h1, h2]; exact ok.N, by rw [h1, h3]; exact ok.K, by rw [h1, h4]; exact ok.W, ?_⟩
  have := ok.fuse
  unfold DS.last
  split
  · exact this
  · split
    · exact this
    · split
      · exact ⟨by show _ ≤ D.fuse - 1; omega, by show D.fuse - 1 ≤ _; omega⟩
      · exact this
theorem lay_ok {D : DS} (ok : D.Ok) {i : Nat} {s : List UInt8} (hi : i < D.n) (hs : s.length = 64) : (D.lay i s).Ok := by
  refine ⟨ok.n, put_length ok.N hi hs, ok.K, ?_, ok.fuse⟩
  intro x hx
  rcases List.mem_append.1 hx with hx | hx
  · exact ok.W x hx
  · rw [List.mem_singleton.1 hx]; exact ⟨hi, hs⟩

/-- The first k pieces of a record are written, as far as the power lasts. -/
def DS.app (D : DS) (base size M nxt : Nat) (xs : List UInt8) : Nat → DS
  | 0 => D
  | k + 1 => (D.app base size M nxt xs k).write ((ringS base size (nxt + k) : Nat) : Int) (pcB (nxt + k) (wPc M xs k))

/-- What k writes of a record's pieces leave: k0 of them were carried out. -/
structure Apped (D E : DS) (base size M nxt : Nat) (xs : List UInt8) (k k0 : Nat) : Prop where
  le : k0 ≤ k
  all : E.down = false → k0 = k
  part : E.down = true → k0 < k ∨ D.down = true
  n : E.n = D.n
  ok : E.Ok
  coh : Coh E
  new : ∀ j, j < k0 → sec E.N (ringS base size (nxt + j)) = pad (pcB (nxt + j) (wPc M xs j))
  rest : ∀ i, (∀ j, j < k0 → i ≠ ringS base size (nxt + j)) → sec E.N i = sec D.N i
  may : ∀ i c, mayB E i c → mayB D i c ∨ ∃ j, j < k0 ∧ i = ringS base size (nxt + j) ∧ c = pad (pcB (nxt + j) (wPc M xs j))

theorem write_down {D : DS} (h : D.down = true) (i : Int) (b : List UInt8) : D.write i b = D := by
  unfold DS.write DS.last DS.lastB
  split
  · rfl
  · simp [h]
theorem apped {D : DS} (ok : D.Ok) (coh : Coh D) {base size M nxt : Nat} {xs : List UInt8} (h0 : 0 < size) (hb : base + size ≤ D.n) : ∀ k, k ≤ size → ∃ k0, Apped D (D.app base size M nxt xs k) base size M nxt xs k k0
  | 0, _ => ⟨0, Nat.le_refl _, fun _ => rfl, fun h => .inr h, rfl, ok, coh, fun j hj => by omega, fun i _ => rfl, fun i c h => .inl h⟩
  | k + 1, hk => by
    obtain ⟨k0, h⟩ := apped ok coh h0 hb k (by omega)
    show ∃ k0, Apped D ((D.app base size M nxt xs k).write ((ringS base size (nxt + k) : Nat) : Int) (pcB (nxt + k) (wPc M xs k))) base size M nxt xs (k + 1) k0
    generalize hE : D.app base size M nxt xs k = E at *
    have hi : ringS base size (nxt + k) < E.n := by rw [h.n]; exact ring_lt h0 hb
    have hl64 : (pcB (nxt + k) (wPc M xs k)).length ≤ 64 := by rw [pcB_length]; have := pieceN_length xs k; show 14 + (pieceN xs k).length ≤ 64; omega
    have hpl := pad_length hl64
    have e0 : (!E.has ((ringS base size (nxt + k) : Nat) : Int) || decide (64 < (pcB (nxt + k) (wPc M xs k)).length)) = false := by
      simp [DS.has, hi]; exact hl64
    by_cases hd : E.down = true
    · rw [write_down hd]
      have hk0 : k0 < k + 1 ∨ D.down = true := by have := h.le; exact .inl (by omega)
      exact ⟨k0, by have := h.le; omega, (fun e => by rw [hd] at e; cases e), fun _ => hk0, h.n, h.ok, h.coh, h.new, h.rest, h.may⟩
    · have hd' : E.down = false := by simpa using hd
      obtain rfl := h.all hd'
      have hw : E.write ((ringS base size (nxt + k0) : Nat) : Int) (pcB (nxt + k0) (wPc M xs k0)) = if E.lastB then E.last.lay (ringS base size (nxt + k0)) (pad (pcB (nxt + k0) (wPc M xs k0))) else E.last := by
        unfold DS.write
        rw [if_neg (by rw [e0]; simp)]
        rfl
      rw [hw]
      obtain ⟨l1, l2, l3, l4, _⟩ := DS.last_same E
      have hwl := (write_here (D := E) (i := ((ringS base size (nxt + k0) : Nat) : Int)) (b := pcB (nxt + k0) (wPc M xs k0)) ⟨by omega, by omega⟩ hl64)
      rw [hw] at hwl
      by_cases hlast : E.lastB = true
      · have hdn := (hwl.1 hlast).2
        rw [if_pos hlast] at hdn ⊢
        refine ⟨k0 + 1, Nat.le_refl _, fun _ => rfl, (fun e => by rw [hdn] at e; cases e), ?_, lay_ok (last_ok h.ok) (by rw [l1]; exact hi) hpl, h.coh.last.lay _ _, ?_, ?_, ?_⟩
        · show E.last.n = _; rw [l1, h.n]
        · intro j hj
          show sec (put E.last.N _ _) _ = _
          rw [l2]
          by_cases e : j = k0
          · subst e; exact sec_put_same h.ok.N hi hpl
          · rw [sec_put_other h.ok.N hi hpl (ring_apart (by omega) (by omega))]
            exact h.new j (by omega)
        · intro i hno
          show sec (put E.last.N _ _) _ = _
          rw [l2, sec_put_other h.ok.N hi hpl (hno k0 (by omega))]
          exact h.rest i fun j hj => hno j (by omega)
        · intro i c hc
          rcases lay_may hc with hc | ⟨e1, e2⟩
          · rcases h.may i c ((last_may _ _ _).1 hc) with hc | ⟨j, hj, e⟩
            · exact .inl hc
            · exact .inr ⟨j, by omega, e⟩
          · exact .inr ⟨k0, by omega, e1, e2⟩
      · have hdn := (hwl.2 (by simpa using hlast)).2
        rw [if_neg hlast] at hdn ⊢
        refine ⟨k0, by omega, (fun e => by rw [hdn] at e; cases e), fun _ => .inl (by omega), ?_, last_ok h.ok, h.coh.last, ?_, ?_, ?_⟩
        · rw [l1, h.n]
        · intro j hj; rw [l2]; exact h.new j hj
        · intro i hno; rw [l2]; exact h.rest i hno
        · intro i c hc; exact h.may i c ((last_may _ _ _).1 hc)

end Go.Proofs.Ytbimhiffcdhcaaa

namespace Go.Proofs.Ytbimhiffcdhcaaa
open Go
set_option linter.unusedVariables false
set_option linter.unusedSimpArgs false
set_option maxRecDepth 100000

/-- What is found: where each record begins, the piece behind it, its data. -/
def DS.found (D : DS) (base size least mount head : Nat) : List (Nat × Nat × List UInt8) := wAll (lookP D.N base size) mount size head least true head []

structure WalOk (D : DS) (base size head least M : Nat) (A : List (Nat × List UInt8)) (B : List (List UInt8)) : Prop where
  ok : D.Ok
  coh : Coh D
  pos : 0 < size
  lies : base + size ≤ D.n
  num : head + size ≤ 9223372036854775808
  h0 : 0 < head
  m : M < 4294967296
  log : ∃ X, LogV head (head + size) least M A B D.down (lookP D.N base size) X (mayP D base size)

theorem wsec_zero {n i : Nat} (hi : i < n) : sec (List.replicate (n * 64) 0) i = List.replicate 64 0 := by
  unfold sec
  rw [List.drop_replicate, List.take_replicate]
  congr 1
  omega
theorem WalOk.start {n base size head M : Nat} (hn : n ≤ 4096) (hp : 0 < size) (hl : base + size ≤ n) (h1 : head + size ≤ 9223372036854775808) (h0 : 0 < head) (hM : M < 4294967296) : WalOk (DS.new n) base size head M M [] [] := by
  have ok : (DS.new n).Ok := ⟨hn, by simp [DS.new], by simp [DS.new], by simp [DS.new], by simp [DS.new]⟩
  refine ⟨ok, Coh.new n, hp, hl, h1, h0, hM, lookP (DS.new n).N base size, ?_⟩
  rw [mayP_still (Coh.new n) rfl]
  refine LogV.start (by omega) fun s hs => ?_
  unfold lookP
  rw [show (DS.new n).N = List.replicate (n * 64) 0 from rfl, wsec_zero (ring_lt hp hl)]
  exact rdP_zero (by omega)

/-- A fuse changes nothing that is seen. -/
theorem WalOk.fused {D : DS} {base size head least M : Nat} {A : List (Nat × List UInt8)} {B : List (List UInt8)} (h : WalOk D base size head least M A B) (z : Int) (hz : -9223372036854775808 ≤ z ∧ z ≤ 9223372036854775807) : WalOk (D.fused z) base size head least M A B := by
  obtain ⟨ok, coh, p, l, n, h0, m, X, hX⟩ := h
  by_cases hd : D.down = true
  · rw [show D.fused z = D by unfold DS.fused; rw [if_pos hd]]
    exact ⟨ok, coh, p, l, n, h0, m, X, hX⟩
  · have e : D.fused z = { D with fuse := z } := by unfold DS.fused; rw [if_neg hd]
    rw [e]
    exact ⟨⟨ok.n, ok.N, ok.K, ok.W, hz⟩, coh, p, l, n, h0, m, X, hX⟩

/-- A Sync that is carried out. -/
theorem WalOk.sync {D : DS} {base size head least M : Nat} {A : List (Nat × List UInt8)} {B : List (List UInt8)} (h : WalOk D base size head least M A B) (hd : D.down = false) : WalOk D.sync base size head least M (A ++ B.map (Prod.mk M)) [] := by
  obtain ⟨ok, coh, p, l, n, h0, m, X, hX⟩ := h
  have e : D.sync = { D with K := lays D.K D.W, W := [], sy := D.sy + 1 } := by unfold DS.sync; rw [if_neg (by rw [hd]; simp)]
  have coh' : Coh D.sync := by rw [e]; exact coh
  have ok' : D.sync.Ok := by
    rw [e]
    exact ⟨ok.n, ok.N, by have := lays_length (n := D.n) D.W D.K ok.K ok.W; exact this, fun x hx => by simp at hx, ok.fuse⟩
  have hN : D.sync.N = D.N := by rw [e]
  have hdn : D.sync.down = false := by rw [e]; exact hd
  have hnn : D.sync.n = D.n := by rw [e]
  refine ⟨ok', coh', p, by rw [hnn]; exact l, n, h0, m, lookP D.N base size, ?_⟩
  rw [mayP_still coh' (by rw [e]), hN, hdn]
  exact hX.sync hd

/-- A Crash: what a later mount finds are the first records, with all that were synced. -/
theorem WalOk.crash {D : DS} {base size head least M mount : Nat} {A : List (Nat × List UInt8)} {B : List (List UInt8)} (h : WalOk D base size head least M A B) (keep : List Int) (hm : M < mount) (hm2 : mount < 4294967296) :
    ∃ B1 B2, B = B1 ++ B2 ∧ (D.crash keep).found base size least mount head = recsAt head (A ++ B1.map (Prod.mk M)) ∧ WalOk (D.crash keep) base size head least mount (A ++ B1.map (Prod.mk M)) [] := by
  obtain ⟨ok, coh, p, l, n, h0, m, X, hX⟩ := h
  have coh' := coh.crash ok keep
  have hcW : ∀ x ∈ chosen D.W keep, x.1 < D.n ∧ x.2.length = 64 := fun x hx => ok.W x (chosen_sub _ _ x hx)
  have hl := lays_length (chosen D.W keep) D.K ok.K hcW
  have ok' : (D.crash keep).Ok := ⟨ok.n, by have := coh.crashed ok keep; rw [this]; exact hl, hl, fun x hx => by simp [DS.crash] at hx, by simp [DS.crash]⟩
  obtain ⟨B1, B2, e, h1, h2⟩ := hX.crash (lookP (D.crash keep).N base size) (fun s _ => ⟨_, may_crash coh ok keep _, rfl⟩) hm
  rw [show head + size - head = size by omega] at h1
  refine ⟨B1, B2, e, h1, ok', coh', p, l, n, h0, hm2, lookP (D.crash keep).N base size, ?_⟩
  rw [mayP_still coh' rfl]
  exact h2

/-- The next piece is chosen for the head, and the mount for the least one, all being synced. -/
theorem WalOk.trim {D : DS} {base size head least M : Nat} {A : List (Nat × List UInt8)} {B : List (List UInt8)} (h : WalOk D base size head least M A B) (hd : D.down = false) (hn : head + pcnt (A ++ B.map (Prod.mk M)) + size ≤ 9223372036854775808) :
    WalOk D.sync base size (head + pcnt (A ++ B.map (Prod.mk M))) M M [] [] := by
  have h' := h.sync hd
  obtain ⟨ok, coh, p, l, n, h0, m, X, hX⟩ := h
  have e : D.sync = { D with K := lays D.K D.W, W := [], sy := D.sy + 1 } := by unfold DS.sync; rw [if_neg (by rw [hd]; simp)]
  have hN : D.sync.N = D.N := by rw [e]
  have hdn : D.sync.down = false := by rw [e]; exact hd
  refine ⟨h'.ok, h'.coh, p, h'.lies, hn, by omega, m, lookP D.N base size, ?_⟩
  rw [mayP_still h'.coh (by rw [e]), hN, hdn]
  exact (hX.sync hd).trim (by omega)

/-- A record is appended, as far as the power lasts. -/
theorem WalOk.append {D : DS} {base size head least M : Nat} {A : List (Nat × List UInt8)} {B : List (List UInt8)} (h : WalOk D base size head least M A B) (xs : List UInt8) (hx : xs.length ≤ 32768) (hd : D.down = false)
    (nxt : Nat) (hn : nxt = head + pcnt A + pcnt (B.map (Prod.mk M))) (hfit : nxt + cntN xs.length ≤ head + size) :
    WalOk (D.app base size M nxt xs (cntN xs.length)) base size head least M A (if (D.app base size M nxt xs (cntN xs.length)).down then B else B ++ [xs]) := by
  obtain ⟨ok, coh, p, l, n, h0, m, X, hX⟩ := h
  obtain ⟨k0, hA⟩ := apped ok coh (M := M) (nxt := nxt) (xs := xs) p l (cntN xs.length) (by omega)
  generalize D.app base size M nxt xs (cntN xs.length) = E at *
  -- a piece ahead of the new ones is as it was
  have hold : ∀ s, head ≤ s → s < nxt → lookP E.N base size s = lookP D.N base size s := fun s h1 h2 => by
    unfold lookP
    rw [hA.rest _ fun j hj => ring_apart (by omega) (by have := hA.le; omega)]
  have hnew : ∀ j, j < k0 → lookP E.N base size (nxt + j) = some (wPc M xs j) := fun j hj => by
    unfold lookP
    rw [hA.new j hj]
    exact rdP_same (by have := hA.le; omega) _ (wPc_ok m)
  have hself : ∀ s, head ≤ s → mayP E base size s (lookP E.N base size s) := fun s _ => ⟨_, may_self hA.coh hA.ok _, rfl⟩
  have hmay : ∀ s v, head ≤ s → mayP E base size s v → mayP D base size s v ∨ (head + size ≤ s ∧ v = none) ∨ ∃ j, j < k0 ∧ s = nxt + j ∧ v = some (wPc M xs j) := by
    rintro s v hs ⟨b, hb, rfl⟩
    rcases hA.may _ b hb with hb | ⟨j, hj, e, rfl⟩
    · exact .inl ⟨b, hb, rfl⟩
    · right
      by_cases hse : s = nxt + j
      · right
        subst hse
        exact ⟨j, hj, rfl, rdP_same (by have := hA.le; omega) _ (wPc_ok m)⟩
      · left
        refine ⟨?_, rdP_other _ (by have := hA.le; omega) hse⟩
        apply Classical.byContradiction
        intro hlt
        have := hA.le
        rcases Nat.lt_or_ge s (nxt + j) with h1 | h1
        · exact ring_apart (base := base) (size := size) h1 (by omega) e
        · exact ring_apart (base := base) (size := size) (s := nxt + j) (t := s) (by omega) (by omega) e.symm
  refine ⟨hA.ok, hA.coh, p, by rw [hA.n]; exact l, n, h0, m, X, ?_⟩
  by_cases hE : E.down = true
  · rw [hE]
    simp only [if_true]
    have hk0 : k0 < cntN xs.length := by
      rcases hA.part hE with h | h
      · exact h
      · rw [hd] at h; cases h
    refine hX.torn (fun s h1 h2 => hold s h1 (by omega)) hself fun s v hs hv => ?_
    rcases hmay s v hs hv with h | h | ⟨j, hj, rfl, rfl⟩
    · exact .inl h
    · exact .inr (.inl h)
    · refine .inr (.inr ⟨by omega, by omega, _, rfl, rfl, ?_⟩)
      show wFlag _ _ < 2
      unfold wFlag
      split <;> split <;> omega
  · have hE' : E.down = false := by simpa using hE
    obtain rfl := hA.all hE'
    rw [hE']
    simp only [Bool.false_eq_true, if_false]
    rw [hn] at hfit hnew hmay hold
    refine hX.append xs hx hd hfit (fun s h1 h2 => hold s h1 (by omega)) hnew hself fun s v hs hv => ?_
    rcases hmay s v hs hv with h | h | ⟨j, hj, rfl, rfl⟩
    · exact .inl h
    · exact .inr (.inl h)
    · exact .inr (.inr ⟨by omega, by omega, (hnew j hj).symm⟩)

end Go.Proofs.Ytbimhiffcdhcaaa

namespace Go.Proofs.Ytbimhiffcdhcaaa
open Go
set_option linter.unusedVariables false
set_option linter.unusedSimpArgs false
set_option maxRecDepth 100000

def tagM (M : Nat) (A : List (List UInt8)) : List (Nat × List UInt8) := A.map (Prod.mk M)
theorem tagM_append (M : Nat) (A B : List (List UInt8)) : tagM M (A ++ B) = tagM M A ++ tagM M B := by simp [tagM]
theorem tagM_one (M : Nat) (xs : List UInt8) : tagM M [xs] = [(M, xs)] := rfl
theorem pcnt_one (x : Nat × List UInt8) : pcnt [x] = cntN x.2.length := by simp [pcnt]
/-- The power is there, and no fuse. -/
structure UpW (D : DS) : Prop where
  ok : D.Ok
  coh : Coh D
  d : D.down = false
  f : D.fuse < 0
theorem UpW.new {n : Nat} (hn : n ≤ 4096) : UpW (DS.new n) := ⟨⟨hn, by simp [DS.new], by simp [DS.new], by simp [DS.new], by simp [DS.new]⟩, Coh.new n, rfl, (by decide : (-1 : Int) < 0)⟩
theorem UpW.last {D : DS} (h : UpW D) : D.last = D ∧ D.lastB = true := by
  have hf : (D.fuse == 0) = false := by have := h.f; simp; omega
  have hp : ¬ 0 < D.fuse := by have := h.f; omega
  refine ⟨?_, by simp [DS.lastB, h.d, hf]⟩
  unfold DS.last
  rw [if_neg (by rw [h.d]; simp), if_neg (by rw [hf]; simp), if_neg hp]
theorem UpW.write {D : DS} (h : UpW D) {i : Nat} {b : List UInt8} (hi : i < D.n) (hb : b.length ≤ 64) : UpW (D.write (i : Int) b) := by
  have e0 : (!D.has (i : Int) || decide (64 < b.length)) = false := by simp [DS.has, hi]; exact hb
  have e : D.write (i : Int) b = D.lay i (pad b) := by
    unfold DS.write
    rw [if_neg (by rw [e0]; simp), if_pos h.last.2, h.last.1]
    rfl
  rw [e]
  exact ⟨lay_ok h.ok hi (pad_length hb), h.coh.lay _ _, h.d, h.f⟩
theorem UpW.app {D : DS} (h : UpW D) {base size M nxt : Nat} {xs : List UInt8} (h0 : 0 < size) (hb : base + size ≤ D.n) (k : Nat) : UpW (D.app base size M nxt xs k) ∧ (D.app base size M nxt xs k).n = D.n := by
  induction k with
  | zero => exact ⟨h, rfl⟩
  | succ k ih =>
    have hl64 : (pcB (nxt + k) (wPc M xs k)).length ≤ 64 := by rw [pcB_length]; have := pieceN_length xs k; show 14 + (pieceN xs k).length ≤ 64; omega
    exact ⟨ih.1.write (by rw [ih.2]; exact ring_lt h0 hb) hl64, (write_sz _ _ _).trans ih.2⟩

/-- From the head on stand the records A of the mount M, and nothing that reads as a piece is behind them. -/
structure RingOk (D : DS) (base size head M : Nat) (A : List (List UInt8)) : Prop where
  up : UpW D
  pos : 0 < size
  lies : base + size ≤ D.n
  h0 : 0 < head
  m : M < 4294967296
  num : head + size ≤ 9223372036854775808
  len : ∀ xs ∈ A, xs.length ≤ 32768
  fit : pcnt (tagM M A) ≤ size
  stand : Stand (lookP D.N base size) head (tagM M A)
  behind : ∀ s, head + pcnt (tagM M A) ≤ s → lookP D.N base size s = none

theorem RingOk.new {n base size head M : Nat} (hn : n ≤ 4096) (hp : 0 < size) (hl : base + size ≤ n) (h0 : 0 < head) (hM : M < 4294967296) (h1 : head + size ≤ 9223372036854775808) : RingOk (DS.new n) base size head M [] := by
  refine ⟨UpW.new hn, hp, hl, h0, hM, h1, fun xs hx => by simp at hx, by simp [tagM, pcnt], trivial, fun s hs => ?_⟩
  unfold lookP
  rw [show (DS.new n).N = List.replicate (n * 64) 0 from rfl, wsec_zero (ring_lt hp hl)]
  exact rdP_zero (by omega)
theorem RingOk.append {D : DS} {base size head M : Nat} {A : List (List UInt8)} (h : RingOk D base size head M A) (xs : List UInt8) (hx : xs.length ≤ 32768) (hfit : pcnt (tagM M A) + cntN xs.length ≤ size) {nxt : Nat} (hn : nxt = head + pcnt (tagM M A)) :
    RingOk (D.app base size M nxt xs (cntN xs.length)) base size head M (A ++ [xs]) := by
  obtain ⟨up, p, l, h0, m, num, len, fit, st, beh⟩ := h
  obtain ⟨k0, hA⟩ := apped up.ok up.coh (M := M) (nxt := nxt) (xs := xs) p l (cntN xs.length) (by omega)
  obtain ⟨hu, hnn⟩ := up.app (M := M) (nxt := nxt) (xs := xs) p l (cntN xs.length)
  obtain rfl := hA.all hu.d
  generalize D.app base size M nxt xs (cntN xs.length) = E at *
  have hpc : pcnt (tagM M (A ++ [xs])) = pcnt (tagM M A) + cntN xs.length := by rw [tagM_append, pcnt_append, tagM_one, pcnt_one]
  have hnew : ∀ j, j < cntN xs.length → lookP E.N base size (nxt + j) = some (wPc M xs j) := fun j hj => by
    unfold lookP
    rw [hA.new j hj]
    exact rdP_same (by omega) _ (wPc_ok m)
  refine ⟨hu, p, by rw [hnn]; exact l, h0, m, num, ?_, by rw [hpc]; exact hfit, ?_, ?_⟩
  · intro ys hy
    rcases List.mem_append.1 hy with hy | hy
    · exact len ys hy
    · rw [List.mem_singleton.1 hy]; exact hx
  · rw [tagM_append, tagM_one]
    refine Stand.append.2 ⟨st.same fun j h1 h2 => ?_, ?_, trivial⟩
    · unfold lookP
      rw [hA.rest _ fun i hi => ring_apart (by omega) (by omega)]
    · intro j hj
      rw [← hn]
      exact hnew j hj
  · intro s hs
    rw [hpc] at hs
    by_cases hany : ∃ j, j < cntN xs.length ∧ ringS base size s = ringS base size (nxt + j)
    · obtain ⟨j, hj, e⟩ := hany
      unfold lookP
      rw [e, hA.new j hj]
      exact rdP_other _ (by omega) (by omega)
    · have := hA.rest (ringS base size s) fun j hj e => hany ⟨j, hj, e⟩
      unfold lookP
      rw [this]
      exact beh s (by omega)
/-- The first record is given up. -/
theorem RingOk.drop {D : DS} {base size head M : Nat} {xs : List UInt8} {A : List (List UInt8)} (h : RingOk D base size head M (xs :: A)) (hn : head + cntN xs.length + size ≤ 9223372036854775808) : RingOk D base size (head + cntN xs.length) M A := by
  have hpc : pcnt (tagM M (xs :: A)) = cntN xs.length + pcnt (tagM M A) := by show pcnt ((M, xs) :: tagM M A) = _; rw [pcnt_cons]
  have hst : Stand (lookP D.N base size) (head + cntN xs.length) (tagM M A) := h.stand.2
  refine ⟨h.up, h.pos, h.lies, by have := h.h0; omega, h.m, hn, fun ys hy => h.len ys (by simp [hy]), by have := h.fit; omega, hst, fun s hs => h.behind s (by omega)⟩
/-- The records ahead of a place are passed over. -/
theorem RingOk.from' {D : DS} {base size head M : Nat} {A B : List (List UInt8)} (h : RingOk D base size head M (A ++ B)) (hn : head + pcnt (tagM M A) + size ≤ 9223372036854775808) : RingOk D base size (head + pcnt (tagM M A)) M B := by
  induction A generalizing head with
  | nil => simpa [tagM, pcnt] using h
  | cons x A ih =>
    have e : pcnt (tagM M (x :: A)) = cntN x.length + pcnt (tagM M A) := by show pcnt ((M, x) :: tagM M A) = _; rw [pcnt_cons]
    rw [e] at hn ⊢
    have := ih (head := head + cntN x.length) (h.drop (by omega)) (by omega)
    rwa [Nat.add_assoc] at this
theorem wAll_none {P : Nat → Option Pc} {mount fuel s last from' : Nat} {b : Bool} {data : List UInt8} (h : P s = none) : wAll P mount fuel s last b from' data = [] := by
  cases fuel with
  | zero => rfl
  | succ n => rw [wAll_succ, h]
/-- What is found from the head on. -/
theorem RingOk.found {D : DS} {base size head M : Nat} {A : List (List UInt8)} (h : RingOk D base size head M A) {least mount : Nat} (hl : least ≤ M) (hm : M ≤ mount) : D.found base size least mount head = recsAt head (tagM M A) := by
  unfold DS.found
  rw [wAll_stand hm h.stand (pairs_rise hl h.len) h.fit, wAll_none (h.behind _ (Nat.le_refl _)), List.append_nil]
/-- Appending in another ring leaves this one as it is. -/
theorem RingOk.other {D : DS} {base size head M : Nat} {A : List (List UInt8)} (h : RingOk D base size head M A) {base' size' M' nxt : Nat} {xs : List UInt8} (h0 : 0 < size') (hl : base' + size' ≤ D.n) (hap : base + size ≤ base' ∨ base' + size' ≤ base) (hx : cntN xs.length ≤ size') :
    RingOk (D.app base' size' M' nxt xs (cntN xs.length)) base size head M A := by
  obtain ⟨up, p, l, hh, m, num, len, fit, st, beh⟩ := h
  obtain ⟨k0, hA⟩ := apped up.ok up.coh (M := M') (nxt := nxt) (xs := xs) h0 hl (cntN xs.length) hx
  obtain ⟨hu, hnn⟩ := up.app (M := M') (nxt := nxt) (xs := xs) h0 hl (cntN xs.length)
  generalize D.app base' size' M' nxt xs (cntN xs.length) = E at *
  have hlk : ∀ s, lookP E.N base size s = lookP D.N base size s := fun s => by
    unfold lookP
    rw [hA.rest _ fun j hj e => by
      have h1 := Nat.mod_lt s p
      have h2 := Nat.mod_lt (nxt + j) h0
      unfold ringS at e
      omega]
  have hf : lookP E.N base size = lookP D.N base size := funext hlk
  exact ⟨hu, p, by rw [hnn]; exact l, hh, m, num, len, fit, by rw [hf]; exact st, fun s hs => by rw [hf]; exact beh s hs⟩

end Go.Proofs.Ytbimhiffcdhcaaa

namespace Go.Proofs.Ytbimhiffcdhcaaa.R
open Go Go.RowKit Go.Lib Go.Proofs.Ytbimhiffcdhcaaa
set_option linter.unusedVariables false
set_option linter.unusedSimpArgs false
set_option maxRecDepth 100000

/-- The document's Out in block p. -/
structure OutV (w : World) (p : Nat) (v : Value) (xs : List UInt8) : Prop where
  at' : w.heap[p]? = some (.cells #[v] 108 (0, 0))
  own : w.ownsRow 0 5 1 v xs.length (u8s xs)

def PutPost (w : World) (p : Nat) (v : Value) (xs : List UInt8) (e : Ending) (w' : World) : Prop :=
  e = .returned (.tuple #[]) ∧ ∃ v', OutV w' p v' xs ∧ (v'.ownBlock = v.ownBlock ∨ ∃ g, v'.ownBlock = some g ∧ w.heap.size ≤ g) ∧ Only (OutS p v) w w'

def NumInv (w : World) (p x n : Nat) (v : Value) (xs : List UInt8) (k : Nat) (wr : World) : Prop :=
  ∃ D v', D ++ beB k x = beB n x ∧ OutV wr p v' (xs ++ D) ∧ (v'.ownBlock = v.ownBlock ∨ ∃ g, v'.ownBlock = some g ∧ w.heap.size ≤ g) ∧ Only (OutS p v) w wr

theorem OutV.cell {w : World} {p : Nat} {v : Value} {xs : List UInt8} (h : OutV w p v xs) : w.cell? ⟨p, 0, none⟩ = some v := by simp [World.cell?, h.at']
theorem OutV.free {w : World} {p : Nat} {v : Value} {xs : List UInt8} (h : OutV w p v xs) : w.frozen? ⟨p, 0, none⟩ = false := by simp [World.frozen?, h.at']
theorem OutV.ne {w : World} {p : Nat} {v : Value} {xs : List UInt8} (h : OutV w p v xs) : v.ownBlock ≠ some p := by
  intro e
  have h1 := h.at'
  rcases h.own.2 with ⟨rfl, _⟩ | ⟨g, cap, cur, rfl, _, hg, _⟩
  · simp [Value.ownBlock] at e
  · simp [Value.ownBlock] at e
    subst e
    rw [hg] at h1
    simp at h1

/-- Behind the append of one byte, ahead of its store into the Out's field. -/
structure PutMid (wr : World) (p : Nat) (v : Value) (ys : List UInt8) (v1 : Value) (w1 : World) : Prop where
  at' : w1.heap[p]? = some (.cells #[v] 108 (0, 0))
  own : w1.ownsRow 0 5 1 v1 ys.length (u8s ys)
  row : v1.ownBlock = v.ownBlock ∨ ∃ g, v1.ownBlock = some g ∧ wr.heap.size ≤ g
  only : Only (OutS p v) wr w1

theorem PutMid.done {wr w1 : World} {p : Nat} {v v1 : Value} {ys : List UInt8} (h : PutMid wr p v ys v1 w1) : OutV (w1.setCell ⟨p, 0, none⟩ v1) p v1 ys := by
  have hne : v1.ownBlock ≠ some p := by
    intro e
    have h1 := h.at'
    rcases h.own.2 with ⟨rfl, _⟩ | ⟨g, cap, cur, rfl, _, hg, _⟩
    · simp [Value.ownBlock] at e
    · simp [Value.ownBlock] at e
      subst e
      rw [hg] at h1
      simp at h1
  exact ⟨one_setCell h.at', ownsRow_setCell_other h.own hne _⟩

/-- The append itself, in whatever world the new bytes lie. -/
theorem PutMid.mk' {wr w0 w1 : World} {p : Nat} {v : Value} {xs ys : List UInt8} (hV : OutV wr p v xs) (h0 : Only (fun _ => False) wr w0) {g cap n : Nat}
    (hown : w1.ownsRow 0 5 1 (.slice (some ⟨g, 0, none⟩) n cap) n (u8s ys)) (hn : n = ys.length) (hg : w0.grownBy w1 v.ownBlock) (hat : v.ownBlock = some g ∨ wr.heap.size ≤ g) :
    PutMid wr p v ys (.slice (some ⟨g, 0, none⟩) n cap) w1 := by
  have hp := h0.keep hV.at' (fun h => h)
  subst hn
  refine ⟨(hg.block p (lt_of_some hp) (fun e => hV.ne e.symm)).trans hp, hown, ?_, ?_⟩
  · rcases hat with h | h
    · exact .inl h.symm
    · exact .inr ⟨g, rfl, h⟩
  · exact (h0.mono (T := OutS p v) (fun _ _ h => h.elim)).grown hg (fun k _ e => .inr e)

theorem step_put {ops : Array Oper} {o : Oper} {a : Act} {K : Act → World → Prop} {Q : Exit → Act → World → Prop} {E : Prop} (wr : World) (p : Nat) (v : Value) (xs : List UInt8) (z : Int) (b : UInt8)
    (hV : OutV wr p v xs) (hz : z = (b.toNat : Int)) (hlen : xs.length + 1 ≤ 140737488355328) (hgd : o.guard = none) (s x : Operand)
    (ho : o.op = .call { callee := .builtin .append, args := #[s, x], argTypes := #[48, 48] })
    (hs : a.eval s = v) (hx : a.eval x = .slice (some ⟨wr.heap.size, 0, none⟩) 1 1)
    (h : ∀ g cap w1, w1.cell? ⟨p, 0, none⟩ = some v → w1.frozen? ⟨p, 0, none⟩ = false → Hid (PutMid wr p v (xs ++ [b]) (.slice (some ⟨g, 0, none⟩) (xs.length + 1) cap) w1) →
      K (a.put o.dst (.slice (some ⟨g, 0, none⟩) (xs.length + 1) cap)) w1) :
    if Region.wanted o (yielded ops a.tmps) = true then Oper.wp Try.prog o a (wr.alloc (.cells #[.int .u8 z] 5)).drew K Q else E := by
  obtain ⟨i0, hi, hz0, hz1, hz2⟩ := info_parts Try.infoU8
  subst hz
  refine step_append_lies (P := Try.prog) (wr.alloc (.cells #[.int .u8 (b.toNat : Int)] 5)).drew hgd s x 48 ho 0 5 i0 (.int .u8 0) 1 1 Try.underlying48 hi hz0 hz1 hz2 rfl (by decide) v xs.length (u8s xs) hs
    ((hV.own.alloc _).drew) ⟨wr.heap.size, 0, none⟩ 1 1 (u8s [b]) hx rfl (World.news_of_block (B := wr.heap.size) (heap_alloc_new wr _)) (u8s_oneCell _) Nat.zero_lt_one (by unfold maxLen; omega) (by omega) (Nat.zero_le _) (wr.heap.size + 1) (by simp) ?_
  intro g cap w1 hown hgrow hat hlt
  rw [← u8s_append] at hown
  have hm := PutMid.mk' (ys := xs ++ [b]) hV (((Only.refl _ wr).alloc (.cells #[.int .u8 (b.toNat : Int)] 5)).drew) hown (by simp) hgrow (hat.imp id (fun e => by omega))
  exact h g cap w1 (cell_of_one hm.at') (free_of_one hm.at') hm

theorem NumInv.step {w wr w1 : World} {p x n m q : Nat} {v v' v1 : Value} {xs ys D : List UInt8} (hys : ys = xs ++ D) (hD : D ++ beB (m + 1) x = beB n x)
    (hb : v'.ownBlock = v.ownBlock ∨ ∃ g, v'.ownBlock = some g ∧ w.heap.size ≤ g) (ho : Only (OutS p v) w wr) (hq : q = x / 256 ^ m) (hm : PutMid wr p v' (ys ++ [UInt8.ofNat q]) v1 w1) :
    NumInv w p x n v xs m (w1.setCell ⟨p, 0, none⟩ v1) := by
  subst hys hq
  refine ⟨D ++ [UInt8.ofNat (x / 256 ^ m)], v1, by rw [← hD]; simp [beB], by simpa using hm.done, row_trans ho.size hb hm.row, ?_⟩
  exact (ho.trans (hm.only.trans (Only.cell w1 p 0 v1) (fun k _ e => .inl e)) (fun k hk h => OutS.sub hb k hk h))

set_option maxHeartbeats 400000 in
theorem putNumber (p x n : Nat) (v : Value) (xs : List UInt8) (w : World) (hO : OutV w p v xs) (hn8 : n ≤ 8) (hx : x < 18446744073709551616) (hlen : xs.length + n ≤ 140737488355328) :
    Calls Try.prog 52 #[.pointer (some ⟨p, 0, none⟩), .int .u64 x, .int .i64 n] w (PutPost w p v (xs ++ beB n x)) := by
  have HX := Lib.hid hx
  clear hx
  have HO := Lib.hid hO
  clear hO
  obtain ⟨i0, hi, hz0, hz1, hz2⟩ := info_parts Try.infoU8
  go_enter Try.func52, Try.ntmps52
  go_wp2
  go_loopw [6] (fun i wr => ∃ k : Nat, k ≤ n ∧ i = .int .i64 ((k : Int) - 1) ∧ NumInv w p x n v xs k wr) (fun i _ => (intOf i + 1).toNat)
  case atStart => exact ⟨n, Nat.le_refl _, rfl, [], v, rfl, by rw [List.append_nil]; exact HO.out, .inl rfl, Only.refl _ _⟩
  case round =>
    obtain ⟨k, hk, rfl, hinv⟩ := hrel
    have HI := Lib.hid hinv; clear hinv
    match k, hk, HI with
    | 0, hk, HI =>
      go_wp2
      obtain ⟨D, v', hD, hV, hb, ho⟩ := HI.out
      exact bodyPost_end (results_none rfl _ _ _) rfl ⟨rfl, v', by rw [← hD]; simpa [beB] using hV, hb, ho⟩
    | m + 1, hk, HI =>
      obtain ⟨D, v', hD, hV, hb, ho⟩ := HI.out
      rw [show (((m + 1 : Nat) : Int) - 1) = (m : Int) from by omega]
      obtain ⟨ys, hys⟩ : ∃ ys, ys = xs ++ D := ⟨_, rfl⟩
      rw [← hys] at hV
      have hc0 := hV.cell
      have hf := hV.free
      obtain ⟨q, hq⟩ : ∃ q, q = x / 256 ^ m := ⟨_, rfl⟩
      have hsh := shift_at x m (by omega)
      rw [← hq] at hsh
      have hlen2 : ys.length + 1 ≤ 140737488355328 := by
        have h1 := congrArg List.length hD
        rw [hys]
        simp only [List.length_append, beB_length] at h1 ⊢
        omega
      have hz : IntKind.u8.wrap (q : Int) = ((UInt8.ofNat q).toNat : Int) := by rw [IntKind.wrap_u8']; simp
      have hc0' : (wr.alloc (.cells #[.int .u8 (IntKind.u8.wrap (q : Int))] 5)).cell? ⟨p, 0, none⟩ = some v' := cell_of_one ((Below.heap_alloc wr _ p (lt_of_some hV.at')).trans hV.at')
      have HV := Lib.hid hV; clear hV
      have HD := Lib.hid hD; clear hD
      have HB := Lib.hid hb; clear hb
      have HW := Lib.hid ho; clear ho
      have HQ := Lib.hid hq; clear hq
      have HYS := Lib.hid hys; clear hys
      have HZ := Lib.hid hz; clear hz
      clear HI HO
      go_wp2
      go_region_law ((refine step_put wr p v' ys (IntKind.u8.wrap (q : Int)) (UInt8.ofNat q) HV.out HZ.out hlen2 rfl (.tmp 17) (.tmp 23) rfl ?_ ?_ ?_; (go_must (simp [Act.eval])); (go_must (simp [Act.eval])); (go_must (intro g cap w1 c1 f1 HM))))
      all_goals
        have HN := Lib.hid (NumInv.step HYS.out HD.out HB.out HW.out HQ.out HM.out)
        clear HM HYS HD HB HW HQ HV HZ hc0 hf hsh hlen2 hc0' c1 f1
        go_wp2
        go_roundw
        case rel => exact ⟨m, by omega, by go_num, HN.out⟩
        case measure => (simp [intOf] <;> omega)

end Go.Proofs.Ytbimhiffcdhcaaa.R

namespace Go.Proofs.Ytbimhiffcdhcaaa.RI
open Go Go.RowKit Go.Lib Go.Proofs.Ytbimhiffcdhcaaa
set_option linter.unusedVariables false
set_option linter.unusedSimpArgs false
set_option maxRecDepth 100000

/-- The document's In in block r: its bytes, how many are taken, whether it is bad. -/
structure RefAt (w : World) (r : Nat) (v : Value) (bs : List UInt8) (at' : Nat) (bad : Bool) : Prop where
  cell : w.heap[r]? = some (.cells #[v, .int .i64 at', .bool bad] 85 (0, 0))
  sl : SlB w v bs
  le : at' ≤ bs.length
  len : bs.length ≤ 140737488355328

theorem RefAt.cell0 {w : World} {r : Nat} {v : Value} {bs : List UInt8} {a : Nat} {bad : Bool} (h : RefAt w r v bs a bad) : w.cell? ⟨r, 0, none⟩ = some v := by simp [World.cell?, h.cell]
theorem RefAt.cell1 {w : World} {r : Nat} {v : Value} {bs : List UInt8} {a : Nat} {bad : Bool} (h : RefAt w r v bs a bad) : w.cell? ⟨r, 1, none⟩ = some (.int .i64 a) := by simp [World.cell?, h.cell]
theorem RefAt.cell2 {w : World} {r : Nat} {v : Value} {bs : List UInt8} {a : Nat} {bad : Bool} (h : RefAt w r v bs a bad) : w.cell? ⟨r, 2, none⟩ = some (.bool bad) := by simp [World.cell?, h.cell]
theorem RefAt.free {w : World} {r : Nat} {v : Value} {bs : List UInt8} {a : Nat} {bad : Bool} (h : RefAt w r v bs a bad) (o : Nat) : w.frozen? ⟨r, o, none⟩ = false := by simp [World.frozen?, h.cell]

theorem only_drewN (S : Nat → Prop) (w : World) (n : Nat) : Only S w (w.drewN n) := (Only.refl S w).drewN n
theorem RefAt.keep {S : Nat → Prop} {w w' : World} {r : Nat} {v : Value} {bs : List UInt8} {a : Nat} {bad : Bool} (h : RefAt w r v bs a bad) (ho : Only S w w') (hr : ¬ S r) (hS : ∀ k cur, w.heap[k]? = some (.cells cur 5 (0, 0)) → ¬ S k) : RefAt w' r v bs a bad :=
  ⟨ho.keep h.cell hr, h.sl.keep ho hS, h.le, h.len⟩
theorem RefAt.bad {w : World} {r : Nat} {v : Value} {bs : List UInt8} {a : Nat} {bad : Bool} (h : RefAt w r v bs a bad) (b : Bool) : RefAt (w.setCell ⟨r, 2, none⟩ (.bool b)) r v bs a b :=
  ⟨by rw [heap_set h.cell]; rfl, h.sl.setCell h.cell (by decide) 2 _, h.le, h.len⟩
theorem RefAt.move {w : World} {r : Nat} {v : Value} {bs : List UInt8} {a : Nat} {bad : Bool} (h : RefAt w r v bs a bad) (n : Nat) (hn : n ≤ bs.length) : RefAt (w.setCell ⟨r, 1, none⟩ (.int .i64 n)) r v bs n bad :=
  ⟨by rw [heap_set h.cell]; rfl, h.sl.setCell h.cell (by decide) 1 _, hn, h.len⟩

set_option maxHeartbeats 400000 in
theorem refLeft (r : Nat) (v : Value) (bs : List UInt8) (a : Nat) (bad : Bool) (w : World) (h : RefAt w r v bs a bad) :
    Calls Try.prog 51 #[.pointer (some ⟨r, 0, none⟩)] w fun e w' => e = .returned (.int .i64 ((bs.length : Int) - (a : Int))) ∧ ∃ n, w' = w.drewN n := by
  obtain ⟨ao, cap, rfl, _⟩ := h.sl.shape
  have h0 := h.cell0
  have h1 := h.cell1
  have hle := h.le
  have hlen := h.len
  have HR := Lib.hid h; clear h
  go_enter Try.func51, Try.ntmps51
  go_wp2
  go_quiet (fail)
  go_wp2
  go_ret
  exact ⟨rfl, _, rfl⟩

theorem RefAt.drewN {w : World} {r : Nat} {v : Value} {bs : List UInt8} {a : Nat} {bad : Bool} (h : RefAt w r v bs a bad) (n : Nat) : RefAt (w.drewN n) r v bs a bad :=
  h.keep (only_drewN (fun _ => False) w n) (fun h => h) (fun _ _ _ h => h)

set_option maxHeartbeats 400000 in
theorem refNum_ok (r n : Nat) (v : Value) (bs : List UInt8) (a : Nat) (w : World) (h : RefAt w r v bs a false) (hn : a + n ≤ bs.length) (hn8 : n ≤ 8) :
    Calls Try.prog 41 #[.pointer (some ⟨r, 0, none⟩), .int .i64 n] w fun e w' => e = .returned (.int .u64 (numB ((bs.drop a).take n))) ∧ ∃ q, (w.drewN q).setCell ⟨r, 1, none⟩ (.int .i64 ((a + n : Nat) : Int)) = w' := by
  have h2 := h.cell2
  have h1 := h.cell1
  have hf := h.free 1
  have hlen := h.len
  obtain ⟨ao, cap, rfl, _⟩ := h.sl.shape
  have h0 := h.cell0
  have hge : ¬ (bs.length : Int) - (a : Int) < (n : Int) := by omega
  obtain ⟨ys, hys⟩ : ∃ ys, ys = (bs.drop a).take n := ⟨_, rfl⟩
  have HYL : Hid (ys.length = n) := by show _ = _; rw [hys]; simp; omega
  have HYG : Hid (∀ k, k < n → ys.getD k 0 = bs.getD (a + k) 0) := by
    intro k hk
    rw [hys]
    simp [List.getD_eq_getElem?_getD, List.getElem?_take, hk]
  rw [← hys]
  have HR := Lib.hid h; clear h hys
  go_enter Try.func41, Try.ntmps41
  go_wp2_with fail
  refine (refLeft r _ bs a false w HR.out).mono ?_
  rintro e w' ⟨rfl, q, rfl⟩
  go_wp2_with fail
  go_loopw [5, 6] (fun x i wr => ∃ (k q : Nat), k ≤ n ∧ i = .int .i64 k ∧ x = .int .u64 (numB (ys.take k)) ∧ wr = w.drewN q) (fun _ i _ => n - (intOf i).toNat)
  case atStart => exact ⟨0, _, Nat.zero_le _, rfl, rfl, rfl⟩
  case round =>
    obtain ⟨k, q, hk, rfl, rfl, rfl⟩ := hrel
    by_cases hlt : k < n
    · obtain ⟨g, off, hao, hcell⟩ := HR.out.sl.cells (k := a + k) (by omega)
      have hbd : (bs.getD (a + k) 0).toNat < 256 := (bs.getD (a + k) 0).toNat_lt
      have HNB := Lib.hid (numB_take_lt ys k (by rw [HYL.out]; exact hlt) (by rw [HYL.out]; exact hn8))
      obtain ⟨x, hx⟩ : ∃ x, x = numB (ys.take k) := ⟨_, rfl⟩
      rw [← hx]
      have hxb : x < 72057594037927936 := by rw [hx]; exact HNB.out
      obtain ⟨b, hb⟩ : ∃ b : UInt8, b = bs.getD (a + k) 0 := ⟨_, rfl⟩
      rw [← hb] at hcell hbd
      have HX := Lib.hid hx; clear hx
      have HB := Lib.hid hb; clear hb
      subst hao
      have s1 : IntKind.i64.wrap ((a : Int) + (k : Int)) = (a : Int) + (k : Int) := IntWalk.i64_in _ (by omega)
      have s2 : ((a : Int) + (k : Int)).toNat = a + k := by omega
      have s3 : (0 : Int) ≤ (a : Int) + (k : Int) := by omega
      have s4 : (a : Int) + (k : Int) < (bs.length : Int) := by omega
      go_wp2
      go_quiet (fail)
      have HV : Hid (Value.int .u64 ((x : Int) * 256 + (b.toNat : Int)) = .int .u64 (numB (ys.take (k + 1)))) := by
        show _ = _
        rw [take_snoc8 ys k (by rw [HYL.out]; exact hlt), numB_snoc, HYG.out k hlt, ← HB.out, ← HX.out]
        congr 1
      go_wp2
      go_roundw
      case rel => exact ⟨k + 1, q + nq, by omega, by go_num, HV.out, rfl⟩
      case measure => simp [intOf]; omega
    · have hke : k = n := by omega
      subst hke
      have HE : Hid (ys.take k = ys) := List.take_of_length_le (by rw [HYL.out]; exact Nat.le_refl _)
      rw [HE.out]
      go_wp2
      go_ret
      exact ⟨rfl, q, by first | rfl | (congr 2; omega)⟩
set_option maxHeartbeats 400000 in
theorem refNum_any (r n : Nat) (v : Value) (bs : List UInt8) (a : Nat) (w : World) (h : RefAt w r v bs a false) (hn : a + n ≤ bs.length) (hn8 : n ≤ 16) :
    Calls Try.prog 41 #[.pointer (some ⟨r, 0, none⟩), .int .i64 n] w fun e w' => (∃ z : Int, e = .returned (.int .u64 z)) ∧ ∃ q, (w.drewN q).setCell ⟨r, 1, none⟩ (.int .i64 ((a + n : Nat) : Int)) = w' := by
  have h2 := h.cell2
  have h1 := h.cell1
  have hf := h.free 1
  have hlen := h.len
  obtain ⟨ao, cap, rfl, _⟩ := h.sl.shape
  have h0 := h.cell0
  have hge : ¬ (bs.length : Int) - (a : Int) < (n : Int) := by omega
  have HR := Lib.hid h; clear h
  go_enter Try.func41, Try.ntmps41
  go_wp2_with fail
  refine (refLeft r _ bs a false w HR.out).mono ?_
  rintro e w' ⟨rfl, q, rfl⟩
  go_wp2_with fail
  go_loopw [5, 6] (fun x i wr => ∃ (k q : Nat) (z : Int), k ≤ n ∧ i = .int .i64 k ∧ x = .int .u64 z ∧ wr = w.drewN q) (fun _ i _ => n - (intOf i).toNat)
  case atStart => exact ⟨0, _, _, Nat.zero_le _, rfl, rfl, rfl⟩
  case round =>
    obtain ⟨k, q, z, hk, rfl, rfl, rfl⟩ := hrel
    by_cases hlt : k < n
    · obtain ⟨g, off, hao, hcell⟩ := HR.out.sl.cells (k := a + k) (by omega)
      have hbd : (bs.getD (a + k) 0).toNat < 256 := (bs.getD (a + k) 0).toNat_lt
      obtain ⟨b, hb⟩ : ∃ b : UInt8, b = bs.getD (a + k) 0 := ⟨_, rfl⟩
      rw [← hb] at hcell hbd
      have HB := Lib.hid hb; clear hb
      subst hao
      have s1 : IntKind.i64.wrap ((a : Int) + (k : Int)) = (a : Int) + (k : Int) := IntWalk.i64_in _ (by omega)
      have s2 : ((a : Int) + (k : Int)).toNat = a + k := by omega
      have s3 : (0 : Int) ≤ (a : Int) + (k : Int) := by omega
      have s4 : (a : Int) + (k : Int) < (bs.length : Int) := by omega
      go_wp2
      go_quiet (fail)
      go_wp2
      go_roundw
      case rel => exact ⟨k + 1, q + nq, _, by omega, by go_num, rfl, rfl⟩
      case measure => simp [intOf]; omega
    · have hke : k = n := by omega
      subst hke
      go_wp2
      go_ret
      exact ⟨⟨_, rfl⟩, q, by first | rfl | (congr 2; omega)⟩

end Go.Proofs.Ytbimhiffcdhcaaa.RI
namespace Go.Proofs.Ytbimhiffcdhcaaa
open Go Go.RowKit
theorem rcount_all (z : Int) (w : World) :
    Calls Try.prog 11 #[.int .i64 z] w fun e w' => e = .returned (.int .i64 (cnt z)) ∧ w = w' := by
  by_cases h0 : z < 0
  · have e : cnt z = 0 := (cnt_zero z).2 (.inl h0)
    rw [e]
    go_enter Try.func11, Try.ntmps11
    go_wp2
    go_ret
    exact ⟨rfl, rfl⟩
  · by_cases h1 : 32768 < z
    · have e : cnt z = 0 := (cnt_zero z).2 (.inr h1)
      rw [e]
      go_enter Try.func11, Try.ntmps11
      go_wp2
      go_ret
      exact ⟨rfl, rfl⟩
    · by_cases h2 : z = 0
      · subst h2
        rw [show ((cnt 0 : Nat) : Int) = 1 by decide]
        go_enter Try.func11, Try.ntmps11
        go_wp2
        go_ret
        exact ⟨rfl, rfl⟩
      · have hz0 : 0 ≤ z := by omega
        have hz1 : z ≤ 32768 := by omega
        have h2B : (z == 0) = false := by simpa using h2
        have e : (cnt z : Int) = (z + 49) / 50 := by
          obtain ⟨n, rfl⟩ := Int.eq_ofNat_of_zero_le hz0
          rw [cnt_nat (by omega)]
          unfold cntN
          split <;> omega
        have HE := Lib.hid e
        clear e
        go_enter Try.func11, Try.ntmps11
        go_wp2
        go_ret
        exact ⟨by rw [HE.out]; rfl, rfl⟩

/-- A sector that holds a part is the part's bytes with zeros behind them. -/
theorem beB_mod : ∀ (k a b : Nat), a % 256 ^ k = b % 256 ^ k → beB k a = beB k b
  | 0, _, _, _ => rfl
  | k + 1, a, b, h => by
    have h1 : a % 256 ^ k = b % 256 ^ k := by
      rw [← Nat.mod_mod_of_dvd a (Nat.pow_dvd_pow 256 (Nat.le_succ k)), h, Nat.mod_mod_of_dvd b (Nat.pow_dvd_pow 256 (Nat.le_succ k))]
    have h2 : a / 256 ^ k % 256 = b / 256 ^ k % 256 := by
      rw [Nat.pow_succ] at h
      rw [← Nat.mod_mul_right_div_self, ← Nat.mod_mul_right_div_self, h]
    rw [beB, beB, beB_mod k a b h1]
    congr 1
    rw [← UInt8.toNat_inj]
    simpa using h2
theorem beB_numB : ∀ (k : Nat) (l : List UInt8), l.length = k → beB k (numB l) = l
  | 0, l, h => by rw [List.eq_nil_of_length_eq_zero h]; rfl
  | k + 1, l, h => by
    match l, h with
    | b :: r, h =>
      have hr : r.length = k := by simpa using h
      have h1 := numB_append [b] r
      simp only [List.singleton_append] at h1
      have h2 : numB [b] = b.toNat := by simp [numB]
      rw [h2, hr] at h1
      have hlt := numB_lt k r hr
      rw [beB, h1]
      have e1 : (b.toNat * 256 ^ k + numB r) / 256 ^ k = b.toNat := by
        rw [Nat.mul_comm, Nat.mul_add_div (Nat.pow_pos (by decide)), Nat.div_eq_of_lt hlt, Nat.add_zero]
      rw [e1]
      have e2 : beB k (b.toNat * 256 ^ k + numB r) = beB k (numB r) := beB_mod k _ _ (by rw [Nat.mul_comm, Nat.mul_add_mod])
      rw [e2, beB_numB k r hr]
      simp

end Go.Proofs.Ytbimhiffcdhcaaa

namespace Go.Proofs.Ytbimhiffcdhcaaa
open Go Go.ChangeShapes Go.WideShapes Go.ChangeAt Go.RowKit
set_option linter.unusedVariables false
set_option linter.unusedSimpArgs false
set_option maxRecDepth 100000

def SlN (w : World) (v : Value) (xs : List UInt8) : Prop := SlC w v xs ∧ ∃ ao c, v = .slice ao xs.length c ∧ xs.length ≤ c
theorem cap_bytesArg {H : Type} {enc : TypeId × Value → H} {W : World} {base : Nat} {v : Value} {d : DataW H} {ps : List MemPlace}
    (hok : Value.okWide Try.prog W .any base 48 v) (h : DataW.Trod enc Try.prog W 0 (fun _ => true) true 48 v d ps) : ∃ ao n c, v = .slice ao n c ∧ n ≤ c := by
  obtain ⟨a0, len, cap, rfl⟩ := okWide_slice Try.underlying48 hok
  obtain ⟨fuel, hf⟩ := h
  rcases open_ints Try.underlying48 Try.underlying5 Try.cellsU8 hf with ⟨hcs, hx⟩ | ⟨a, len', cap', zs, hcs, _, hl, hm, hz, hx, hcell, hwz⟩
  · simp [Value.cells] at hcs
    obtain ⟨rfl, rfl, rfl⟩ := hcs
    exact ⟨_, _, _, rfl, Nat.le_refl _⟩
  · simp [Value.cells] at hcs
    obtain ⟨rfl, rfl, rfl⟩ := hcs
    exact ⟨_, _, _, rfl, hl⟩
theorem SlC.fits {W : World} {v : Value} {xs : List UInt8} (h : SlC W v xs) (hc : ∃ ao n c, v = .slice ao n c ∧ n ≤ c) : SlN W v xs := by
  obtain ⟨ao, n, c, rfl, hn⟩ := hc
  refine ⟨h, ao, c, ?_⟩
  rcases h with ⟨e, rfl⟩ | ⟨a, cap, e, _⟩
  · simp at e; obtain ⟨rfl, rfl, rfl⟩ := e; exact ⟨rfl, hn⟩
  · simp at e; obtain ⟨rfl, rfl, rfl⟩ := e; exact ⟨rfl, hn⟩

end Go.Proofs.Ytbimhiffcdhcaaa

namespace Go.Proofs.Ytbimhiffcdhcaaa
open Go Go.RowKit Go.Lib
set_option linter.unusedVariables false
set_option linter.unusedSimpArgs false
set_option maxRecDepth 100000

theorem own_rebase {w : World} {B : Nat} {e : TypeId} {size : Nat} {v : Value} {n : Nat} {xs : List Value} (h : w.ownsRow 0 e size v n xs) (hb : v.ownBlock = .none ∨ ∃ g, v.ownBlock = some g ∧ B ≤ g) : w.ownsRow B e size v n xs := by
  refine ⟨h.1, ?_⟩
  rcases h.2 with h0 | ⟨g, cap, cur, rfl, _, rest⟩
  · exact .inl h0
  · refine .inr ⟨g, cap, cur, rfl, ?_, rest⟩
    rcases hb with hb | ⟨g', hg, hB⟩
    · simp [Value.ownBlock] at hb
    · simp [Value.ownBlock] at hg; omega
/-- append of bytes onto an owned row. -/
theorem wp_more {ops : Array Oper} {rest : List Oper} {o : Oper} {a : Act} {Q : Exit → Act → World → Prop} (w : World) (B : Nat) (hB : B ≤ w.heap.size) (v : Value) (ys : List UInt8) (hown : w.ownsRow B 5 1 v ys.length (u8s ys)) (u : Value) (xs : List UInt8) (hC : SlC w u xs) (hlen : ys.length + xs.length ≤ 140737488355328)
    (hgd : o.guard = none) (s x : Operand) (ho : o.op = .call { callee := .builtin .append, args := #[s, x], argTypes := #[48, 48] })
    (hs : a.eval s = v) (hx : a.eval x = u) (m : Nat) (hm : (ys ++ xs).length = m)
    (h : ∀ ao cap w', Hid (w'.ownsRow B 5 1 (.slice ao m cap) m (u8s (ys ++ xs))) → Hid (w.grownBy w' v.ownBlock) → wpList Try.prog ops Q rest (a.put o.dst (.slice ao m cap)) w') :
    wpList Try.prog ops Q (o :: rest) a w := by
  subst hm
  obtain ⟨i0, hi, hz0, hz1, hz2⟩ := info_parts Try.infoU8
  rcases hC with ⟨rfl, rfl⟩ | ⟨ad, cap, rfl, hc⟩
  · obtain ⟨ao, cap, rfl⟩ := own_shape hown
    refine wpList_append_own_none hgd s x 48 ho B 5 i0 1 Try.underlying48 hi _ ys.length (u8s ys) hs hown hx ?_
    have h1 := h ao cap w
    rw [List.append_nil] at h1
    exact h1 (Lib.hid hown) (Lib.hid ⟨rfl, rfl, rfl, Nat.le_refl _, fun _ _ _ => rfl⟩)
  · refine wpList_append_own _ hgd s x 48 ho B 5 i0 (.int .u8 0) 1 1 Try.underlying48 hi hz0 hz1 hz2 rfl (by decide) v ys.length (u8s ys) hs hown ad xs.length cap (u8s xs) hx ?_ ?_ (u8s_oneCell xs) ?_ ?_ hB ?_
    · rw [u8s_length, Nat.mul_one]
    · intro j u hu
      obtain ⟨hj, rfl⟩ := u8s_get hu
      exact hc j hj
    · unfold maxLen; omega
    · omega
    · intro v' w1 hown' hg _
      rw [← u8s_append, ← List.length_append] at hown'
      obtain ⟨ao, cap', rfl⟩ := own_shape hown'
      exact h ao cap' w1 (Lib.hid hown') (Lib.hid hg)
structure ROc (w w1 : World) (po : Nat) (v : Value) (xs : List UInt8) : Prop where
  out : R.OutV w1 po v xs
  go : w.heap.size ≤ po
  row : v.ownBlock = .none ∨ ∃ g, v.ownBlock = some g ∧ w.heap.size ≤ g
  only : Only (fun _ => False) w w1
theorem ROc.put {w w1 w2 : World} {po : Nat} {v v' : Value} {xs ys : List UInt8} (h : ROc w w1 po v xs) (hO : R.OutV w2 po v' ys) (hr : v'.ownBlock = v.ownBlock ∨ ∃ g, v'.ownBlock = some g ∧ w1.heap.size ≤ g) (ho : Only (OutS po v) w1 w2) : ROc w w2 po v' ys :=
  ⟨hO, h.go, row_ge h.only.size h.row hr, h.only.none ho (OutS.ge h.go h.row)⟩
theorem ROc.start (w : World) : ROc w (w.alloc (.cells #[.slice none 0 0] 108)) w.heap.size (.slice none 0 0) [] :=
  ⟨⟨heap_alloc_new w _, World.ownsRow_nil _ _ _ _⟩, Nat.le_refl _, .inl rfl, (Only.refl (fun _ => False) w).alloc _⟩

def lenOf : Option Value → Nat
  | some (.slice _ n _) => n
  | _ => 0

set_option maxHeartbeats 4000000 in
theorem rsector (s : Nat) (x : Pc) (hs : s < 18446744073709551616) (hx : x.Ok) (v : Value) (w : World) (hv : SlC w v x.d) :
    Calls Try.prog 42 #[.int .u64 s, .int .u32 x.m, .int .i64 x.f, v] w fun e w' => ∃ v', e = .returned v' ∧ w'.ownsRow w.heap.size 5 1 v' 64 (u8s (pad (pcB s x))) ∧ Only (fun _ => False) w w' := by
  obtain ⟨m, f, dt⟩ := x
  obtain ⟨h1, h2, h3⟩ := hx
  simp only at h1 h2 h3 hv ⊢
  obtain ⟨vo, vc, rfl⟩ := hv.shape
  have HEK : Hid (IntKind.u64.wrap (m : Int) = (m : Int)) := by show _ = _; rw [IntKind.wrap_u64]; omega
  have HEC : Hid (IntKind.u64.wrap (f : Int) = (f : Int)) := by show _ = _; rw [IntKind.wrap_u64]; omega
  have HED : Hid (IntKind.u64.wrap (dt.length : Int) = (dt.length : Int)) := by show _ = _; rw [IntKind.wrap_u64]; omega
  have HS := Lib.hid hs
  have HM := Lib.hid h1
  have HF := Lib.hid h2
  have HD50 := Lib.hid h3
  have HV := Lib.hid hv
  obtain ⟨pb, hpb⟩ : ∃ pb, pb = pcB s ⟨m, f, dt⟩ := ⟨_, rfl⟩
  rw [← hpb]
  have HPB := Lib.hid hpb
  clear hs h1 h2 h3 hv hpb
  go_enter Try.func42, Try.ntmps42
  go_wp2_with fail
  have HO0 := Lib.hid (ROc.start w)
  obtain ⟨op, hop⟩ : ∃ op, op = w.heap.size := ⟨_, rfl⟩
  rw [← hop] at HO0 ⊢
  have HOP := Lib.hid hop
  clear hop
  refine (R.putNumber op s 8 _ [] _ HO0.out.out (by omega) HS.out (by simp)).mono ?_
  rintro e w1 ⟨rfl, v1, hV1, hr1, ho1⟩
  have HO1 := Lib.hid (HO0.out.put hV1 hr1 ho1)
  clear HO0 hV1 hr1 ho1
  go_wp2_with fail
  try rw [HEK.out]
  refine (R.putNumber op m 4 _ _ _ HO1.out.out (by omega) (by have := HM.out; omega) (by simp [beB_length])).mono ?_
  rintro e w2 ⟨rfl, v2, hV2, hr2, ho2⟩
  have HO2 := Lib.hid (HO1.out.put hV2 hr2 ho2)
  clear HO1 hV2 hr2 ho2
  go_wp2_with fail
  try rw [HEC.out]
  refine (R.putNumber op f 1 _ _ _ HO2.out.out (by omega) (by have := HF.out; omega) (by simp [beB_length])).mono ?_
  rintro e w3 ⟨rfl, v3, hV3, hr3, ho3⟩
  have HO3 := Lib.hid (HO2.out.put hV3 hr3 ho3)
  clear HO2 hV3 hr3 ho3
  go_wp2_with fail
  try rw [HED.out]
  refine (R.putNumber op dt.length 1 _ _ _ HO3.out.out (by omega) (by have := HD50.out; omega) (by simp [beB_length])).mono ?_
  rintro e w4 ⟨rfl, v4, hV4, hr4, ho4⟩
  have ho := HO3.out.put hV4 hr4 ho4
  obtain ⟨ys, hys⟩ : ∃ ys, ys = ((([] ++ beB 8 s) ++ beB 4 m) ++ beB 1 f) ++ beB 1 dt.length := ⟨_, rfl⟩
  rw [← hys] at ho
  have hyl : ys.length = 14 := by rw [hys]; simp [beB_length]
  have hpl : pb.length = 14 + dt.length := by rw [HPB.out, pcB_length]
  have hout : ys ++ dt = pb := by
    rw [hys, HPB.out]
    simp [pcB]
  obtain ⟨yo, yc, hv4⟩ := own_shape ho.out.own
  have c0 := ho.out.cell
  rw [hv4] at c0
  have hrow := own_rebase ho.out.own ho.row
  rw [hv4] at hrow
  have HROW := Lib.hid hrow
  have HONL := Lib.hid ho.only
  have HYL := Lib.hid hyl
  have HOUT := Lib.hid hout
  have HPL := Lib.hid hpl
  have HPW := Lib.hid (HV.out.keep ho.only)
  clear HO3 hV4 hr4 ho4 ho hys hyl hout hv4 hrow hpl HV HEK HEC HED HF HM HS
  go_upto_region 6 with fail
  go_wp2_with (with_reducible refine wp_more _ w.heap.size HONL.out.size _ ys HROW.out _ dt HPW.out (by have := HYL.out; have := HD50.out; omega) rfl (.tmp 32) (.tmp 33) rfl rfl rfl (14 + dt.length) (by rw [List.length_append, HYL.out]) ?_; intro bo bc w5 hb5 hg5)
  have hO5 : Only (fun _ => False) w w5 := HONL.out.grown hg5.out (fun q hq e => by have := (HROW.out.lt q e).1; omega)
  have hown5 : w5.ownsRow w.heap.size 5 1 (.slice bo (14 + dt.length) bc) (14 + dt.length) (u8s (pb ++ List.replicate 0 0)) := by
    have := hb5.out
    rw [HOUT.out] at this
    simpa using this
  have HB5 := Lib.hid hown5
  have HO5 := Lib.hid hO5
  clear hb5 hg5 hO5 hown5 HPW HROW HONL c0
  go_wp2_with fail
  go_loopw [10] (fun bv wz => ∃ (m : Nat) (ao : Option Addr) (cap : Nat), m ≤ 50 - dt.length ∧ bv = .slice ao (14 + dt.length + m) cap ∧ Hid (wz.ownsRow w.heap.size 5 1 (.slice ao (14 + dt.length + m) cap) (14 + dt.length + m) (u8s (pb ++ List.replicate m 0))) ∧ Hid (Only (fun _ => False) w wz)) (fun bv _ => 64 - lenOf bv)
  case atStart => exact ⟨0, bo, bc, Nat.zero_le _, rfl, HB5, HO5⟩
  case round =>
    clear HB5 HO5
    obtain ⟨m, zo, zc, hm, rfl, HZ, HZO⟩ := hrel
    obtain ⟨bl, hbl⟩ : ∃ bl, bl = 14 + dt.length + m := ⟨_, rfl⟩
    have hol : (pb ++ List.replicate m 0).length = bl := by rw [List.length_append, HPL.out, hbl, List.length_replicate]
    rw [← hbl] at HZ ⊢
    have HBL := Lib.hid hbl
    have HOL := Lib.hid hol
    clear hbl hol
    by_cases h64 : bl < 64
    · have h64I : (bl : Int) < 64 := by omega
      have hza : SlC (wr.alloc (.cells #[.int .u8 0] 5)) (.slice (some ⟨wr.heap.size, 0, none⟩) 1 1) [0] := row_bytes' (heap_alloc_new wr _) rfl
      have HZA := Lib.hid hza
      have hzr : (wr.alloc (.cells #[.int .u8 0] 5)).ownsRow w.heap.size 5 1 (.slice zo bl zc) (pb ++ List.replicate m 0).length (u8s (pb ++ List.replicate m 0)) := by
        rw [HOL.out]
        exact own_keep HZ.out ((Only.refl _ wr).alloc _)
      have HZR := Lib.hid hzr
      have H64 := Lib.hid h64
      clear hza hzr h64 hm
      go_wp2_with (at_builtin; refine wp_more (wr.alloc (.cells #[.int .u8 0] 5)) w.heap.size (HZO.out.alloc _).size _ (pb ++ List.replicate m 0) HZR.out _ [0] HZA.out (by rw [HOL.out]; have := H64.out; simp; omega) rfl (.tmp 38) (.tmp 39) rfl rfl rfl (bl + 1) (by rw [List.length_append, HOL.out]; rfl) ?_; intro bo2 bc2 w6 hb6 hg6)
      have hO6 : Only (fun _ => False) w w6 := (HZO.out.alloc _).grown hg6.out (fun q hq e => by have := (HZR.out.lt q e).1; omega)
      have HO6 := Lib.hid hO6
      have HB6 : Hid (w6.ownsRow w.heap.size 5 1 (.slice bo2 (14 + dt.length + (m + 1)) bc2) (14 + dt.length + (m + 1)) (u8s (pb ++ List.replicate (m + 1) 0))) := Lib.hid (by
        have := hb6.out
        rw [show 14 + dt.length + (m + 1) = bl + 1 by rw [HBL.out]; omega, List.replicate_succ', ← List.append_assoc]
        exact this)
      clear hb6 hg6 hO6 HZ HZO HZA HZR
      go_wp2
      go_roundw
      case rel => exact ⟨m + 1, bo2, bc2, by have := H64.out; have := HBL.out; omega, by rw [HBL.out]; rfl, HB6, HO6⟩
      case measure => have := H64.out; simp [lenOf]; omega
    · have hbe : bl = 64 := by have := HBL.out; have := HD50.out; omega
      have hpad : pb ++ List.replicate m 0 = pad pb := by
        unfold pad
        congr 2
        rw [HPL.out]
        have h1 := HBL.out
        omega
      subst hbe
      have HB : Hid (wr.ownsRow w.heap.size 5 1 (.slice zo 64 zc) 64 (u8s (pad pb))) := Lib.hid (by rw [← hpad]; exact HZ.out)
      clear hpad HZ HOL HBL
      go_wp2
      go_ret
      exact ⟨_, rfl, HB.out, HZO.out⟩

end Go.Proofs.Ytbimhiffcdhcaaa

namespace Go.Proofs.Ytbimhiffcdhcaaa
open Go Go.RowKit
set_option linter.unusedVariables false
set_option linter.unusedSimpArgs false
set_option maxRecDepth 100000

theorem Sep.comm_eq (I J : Res) : Sep I J = Sep J I := funext fun w => funext fun F => propext ⟨Sep.comm, Sep.comm⟩
theorem Sep.assoc_eq (I J K : Res) : Sep (Sep I J) K = Sep I (Sep J K) :=
  funext fun w => funext fun F => propext ⟨Sep.assoc, fun h => Sep.comm (Sep.assoc (Sep.comm (Sep.assoc (Sep.comm h))))⟩
instance : Std.Associative Sep := ⟨Sep.assoc_eq⟩
instance : Std.Commutative Sep := ⟨Sep.comm_eq⟩
theorem Own.ac {w0 w : World} {I J : Res} (h : Own w0 w I) (e : I = J) : Own w0 w J := e ▸ h

end Go.Proofs.Ytbimhiffcdhcaaa

namespace Go.Proofs.Ytbimhiffcdhcaaa
open Go Go.RowKit
set_option linter.unusedVariables false
set_option linter.unusedSimpArgs false
set_option maxRecDepth 100000

/-- One block of a part is turned. -/
theorem Own.put {w0 w : World} {k : Nat} {o : Obj} {J : Res} [Stab J] (h : Own w0 w (Sep (Blk k o) J)) (o' : Obj) : Own w0 (w.putObj k o') (Sep (Blk k o') J) := by
  obtain ⟨F, ⟨A, B, hA, hB, hd, hF⟩, h2, h3⟩ := h
  have hk : A k := (hA.2 k).2 rfl
  have hlt := lt_of_some hA.1
  refine ⟨F, ⟨A, B, ⟨World.putObj_heap_same hlt, hA.2⟩, Stab.keep hB (fun i hi => World.putObj_heap_other (fun e => hd k hk (e ▸ hi))), hd, hF⟩, h2, ?_⟩
  refine h3.trans (T := fun i => i = k) ⟨rfl, rfl, rfl, by simp, fun i _ hi => World.putObj_heap_other hi⟩ (fun i hi e => ?_)
  have := h2 k ((hF k).2 (.inl hk))
  omega
theorem Own.held {w0 w : World} {k : Nat} {o : Obj} {J : Res} (h : Own w0 w (Sep (Blk k o) J)) : w.heap[k]? = some o := by
  obtain ⟨F, ⟨A, B, hA, _⟩, _⟩ := h
  exact hA.1

/-- The loop's record and its block for deferred calls, behind a part. -/
abbrev Held (R : Res) (l D : Nat) (r : Loop) : Res := Sep R (Sep (Blk l (.loop r)) (Blk D (.deferred (some []))))
theorem Held.turn {w0 w : World} {R : Res} [Stab R] {l D : Nat} {r : Loop} (h : Own w0 w (Held R l D r)) (r' : Loop) : Own w0 (w.putObj l (.loop r')) (Held R l D r') :=
  (h.swap.put (.loop r')).swap
theorem Held.rec {w0 w : World} {R : Res} {l D : Nat} {r : Loop} (h : Own w0 w (Held R l D r)) : w.heap[l]? = some (.loop r) := h.swap.held

def YR {α : Type} (J Jx : List α → World → Prop) (xs : List α) (e : Ending) (W' : World) : Prop := (e = .returned (.bool true) ∧ J xs W') ∨ (e = .returned (.bool false) ∧ Jx xs W')
/-- What an iterator gives: all of 'all', one by one, as long as the rounds go on; between two rounds it finds what Rd says. -/
def Gives {α : Type} (P : Program) (n : Nat) (gf : Nat) (fst : Array Value) (enc : α → Value) (Rd : World → Prop) (all : List α) : Prop :=
  ∀ (l : Nat) (J Jx : List α → World → Prop) (W : World), (∀ pre W, J pre W → Rd W) →
    (∀ pre x W1, J pre W1 → pre ++ [x] <+: all → YieldAt Fence.wide n P l #[enc x] W1 (YR J Jx (pre ++ [x]))) →
    J [] W → Calls P gf (fst ++ #[.func (.yield l) #[] #[]]) W fun e W' => (∃ v, e = .returned v) ∧ (J all W' ∨ ∃ pre, pre <+: all ∧ Jx pre W')

/-- How a round may be left: at its end, or by a return. -/
def RoundPost {α : Type} (w0 : World) (R X : List α → Res) (xs : List α) (I : Res) : Exit → Act → World → Prop
  | .normal, _, W => Own w0 W (Sep (R xs) I)
  | .ret, _, W => Own w0 W (Sep (X xs) I)
  | _, _, _ => False

def Marked (a : Act) (D : Nat) : Act := { a with defers := { target := .collected D, args := #[] } :: a.defers }

theorem wp_range {α : Type} {P : Program} {n m : Nat} {Q : Exit → Act → World → Prop} {a : Act} {w0 w : World} {g : Operand} {ps : Array Tmp} {assign body : Code} {gf : Nat} {fst : Array Value} {enc : α → Value} {Rd : World → Prop} {all : List α}
    (hg : a.eval g = .func (.func gf) fst #[]) (eg : ∀ args w, (callFunc gf args).run P w = .ok (.enter gf args) w) (hps : ps.size = 1) (hit : Gives P m gf fst enc Rd all)
    (R X : List α → Res) (A : α → Act → List α → Res) [∀ l, Stab (R l)] [∀ l, Stab (X l)] [∀ x a' l, Stab (A x a' l)]
    (hRd : ∀ pre W I, Own w0 W (Sep (R pre) I) → Rd W) (h0 : Own w0 w (R []))
    (hassign : ∀ (l : Nat) (pre : List α) (x : α) (W : World) (I : Res) [Stab I], pre ++ [x] <+: all → Own w0 W (Sep (R pre) I) →
      assign.wpIn (Fence.wide.inRound l) m P (Exit.then (fun a' W' => Own w0 W' (Sep (A x a' pre) I)) (fun _ _ _ => False)) { tmps := (ps.zip #[enc x]).foldl (fun t (p, v) => t.setIfInBounds p v) a.tmps, defers := [] } W)
    (hbody : ∀ (l : Nat) (pre : List α) (x : α) (a' : Act) (W : World) (I : Res) [Stab I], pre ++ [x] <+: all → Own w0 W (Sep (A x a' pre) I) →
      body.wpIn (Fence.wide.inRound l) m P (RoundPost w0 R X (pre ++ [x]) I) a' W)
    (hdone : ∀ (D : Nat) (W : World), Own w0 W (Sep (R all) (Blk D (.deferred (some [])))) → Q .normal (Marked a D) W)
    (hstop : ∀ (D : Nat) (pre : List α) (W : World), pre <+: all → Own w0 W (Sep (X pre) (Blk D (.deferred (some [])))) → Q .ret (Marked a D) W) :
    (Code.rangeFunc g ps assign body).wpIn Fence.wide n P Q a w := by
  refine wpIn_rangeFunc fun fn _ => ?_
  obtain ⟨rc, hrc⟩ : ∃ rc : LoopState → Option Code → Loop, rc = fun st pe => { state := st, pending := pe, fn, tmps := a.tmps, params := ps, assign, body, defers := w.heap.size } := ⟨_, rfl⟩
  have hown : Own w0 ((w.alloc (.deferred (some []))).alloc (.loop (rc .ready none))) (Held (R []) (w.heap.size + 1) w.heap.size (rc .ready none)) := by
    have h1 := (h0.alloc (.deferred (some []))).alloc (.loop (rc .ready none))
    rw [World.size_alloc] at h1
    exact h1.assoc'.comm
  refine ⟨w.heap.size + 1, [{ target := .collected w.heap.size, args := #[] }], (w.alloc (.deferred (some []))).alloc (.loop (rc .ready none)), { target := .fn (.func gf) #[], args := fst ++ #[.func (.yield (w.heap.size + 1)) #[] #[]] }, (w.alloc (.deferred (some []))).alloc (.loop (rc .ready none)), gf,
    fst ++ #[.func (.yield (w.heap.size + 1)) #[] #[]], (w.alloc (.deferred (some []))).alloc (.loop (rc .ready none)), ?_, ?_, fun _ _ => trivial, ?_, (fun h => by cases h), ?_⟩
  · rw [hrc]; exact run_enterLoop_outer _ _ _ _ _
  · simp only [resolve, hg]
    simp [go_sem]
  · simp [invoke, go_sem, eg]
  refine (callsIn_wide (n := n - 1)).2 ((hit (w.heap.size + 1)
    (fun pre W => Own w0 W (Held (R pre) (w.heap.size + 1) w.heap.size (rc .ready none)))
    (fun pre W => Own w0 W (Held (X pre) (w.heap.size + 1) w.heap.size (rc .done (some .ret)))) _
    (fun pre W h => hRd pre W _ h) ?_ hown).mono ?_)
  · intro pre x W hJ hpre
    have hl := Held.rec hJ
    have hy := run_yield (P := P) (args := #[enc x]) hl (by rw [hrc]; simp [hps])
    rw [hrc] at hy
    refine ⟨fn, _, assign, body, hy, roundIn_of_wpIn trivial ?_⟩
    refine Code.wpIn_mono ?_ (hassign (w.heap.size + 1) pre x W _ hpre hJ)
    intro e a1 W1 h1
    cases e <;> try exact h1.elim
    have h1 : Own w0 W1 (Held (A x a1 pre) (w.heap.size + 1) w.heap.size (rc .ready none)) := h1
    refine ⟨_, run_beginRound (Held.rec h1) (by rw [hrc]), ?_⟩
    refine Code.wpIn_mono ?_ (hbody (w.heap.size + 1) pre x a1 _ _ hpre (Held.turn h1 { rc .ready none with state := .busy }))
    intro e a2 W2 h2
    cases e <;> try exact h2.elim
    · have h2 : Own w0 W2 (Held (R (pre ++ [x])) (w.heap.size + 1) w.heap.size { rc .ready none with state := .busy }) := h2
      refine ⟨_, _, run_endRound none (Held.rec h2), .inl ⟨rfl, ?_⟩⟩
      have h3 := Held.turn h2 (rc .ready none)
      rw [hrc] at h3 ⊢
      exact h3
    · have h2 : Own w0 W2 (Held (X (pre ++ [x])) (w.heap.size + 1) w.heap.size { rc .ready none with state := .busy }) := h2
      refine ⟨_, _, run_endRound (some .ret) (Held.rec h2), .inr ⟨rfl, ?_⟩⟩
      have h3 := Held.turn h2 (rc .done (some .ret))
      rw [hrc] at h3 ⊢
      exact h3
  · rintro e W ⟨⟨v, rfl⟩, hJ | ⟨pre, hpre, hJ⟩⟩
    · have he := run_endLoop (P := P) (Held.rec hJ) (by rw [hrc]; simp)
      have h3 := Held.turn hJ { rc .ready none with state := .exhausted }
      rw [hrc] at he h3
      exact ⟨none, _, he, hdone _ _ h3.drop2⟩
    · have he := run_endLoop (P := P) (Held.rec hJ) (by rw [hrc]; simp)
      have h3 := Held.turn hJ { rc .done (some .ret) with state := .exhausted }
      rw [hrc] at he h3
      exact ⟨some .ret, _, he, wpIn_ret (hstop _ pre _ hpre h3.drop2)⟩

end Go.Proofs.Ytbimhiffcdhcaaa

namespace Go.Proofs.Ytbimhiffcdhcaaa
open Go Go.RowKit
set_option linter.unusedVariables false
set_option linter.unusedSimpArgs false
set_option maxRecDepth 100000
theorem Own.exR {α : Type} {w0 w : World} {I : α → Res} {J : Res} (h : Own w0 w (Sep (ExR I) J)) : ∃ x, Own w0 w (Sep (I x) J) := by
  obtain ⟨F, ⟨A, B, ⟨x, hA⟩, hB, hd, hF⟩, h2, h3⟩ := h
  exact ⟨x, F, ⟨A, B, hA, hB, hd, hF⟩, h2, h3⟩
theorem Own.andR {p : Prop} {w0 w : World} {I J : Res} (h : Own w0 w (Sep (AndR p I) J)) : p ∧ Own w0 w (Sep I J) := by
  obtain ⟨F, ⟨A, B, ⟨hp, hA⟩, hB, hd, hF⟩, h2, h3⟩ := h
  exact ⟨hp, F, ⟨A, B, hA, hB, hd, hF⟩, h2, h3⟩
theorem blk_cell {w : World} {b : Nat} {cs : Array Value} {t : TypeId} {v : Value} (h : w.heap[b]? = some (.cells cs t (0, 0))) (j : Nat) (hv : cs[j]? = some v) : w.cell? ⟨b, j, none⟩ = some v := by simp [World.cell?, h, hv]
theorem blk_free {w : World} {b : Nat} {cs : Array Value} {t : TypeId} (h : w.heap[b]? = some (.cells cs t (0, 0))) (j : Nat) : w.frozen? ⟨b, j, none⟩ = false := by simp [World.frozen?, h]
/-- A store into a block of one's own. -/
theorem Own.store {w0 w : World} {k : Nat} {cs : Array Value} {t : TypeId} {J : Res} [Stab J] (h : Own w0 w (Sep (Blk k (.cells cs t (0, 0))) J)) (j : Nat) (u : Value) : Own w0 (w.setCell ⟨k, j, none⟩ u) (Sep (Blk k (.cells (cs.setIfInBounds j u) t (0, 0))) J) := by
  obtain ⟨F, ⟨A, B, hA, hB, hd, hF⟩, h2, h3⟩ := h
  have hk : A k := (hA.2 k).2 rfl
  refine ⟨F, ⟨A, B, ⟨heap_set hA.1 j u, hA.2⟩, Stab.keep hB (fun i hi => Below.heap_setCell _ _ _ _ (fun e => hd k hk (by have e : i = k := e; rwa [e] at hi))), hd, hF⟩, h2, ?_⟩
  refine h3.setCell (fun hlt => ?_) u
  have := h2 k ((hF k).2 (.inl hk))
  exact absurd hlt (by simp; omega)
theorem rowV_cell {w : World} {e : TypeId} {size : Nat} {ao : Option Addr} {n cap : Nat} {xs : List Value} (h : w.ownsRow 0 e size (.slice ao n cap) n xs) {j : Nat} {u : Value} (hj : xs[j]? = some u) :
    ∃ g, ao = some ⟨g, 0, none⟩ ∧ w.cell? ⟨g, j, none⟩ = some u ∧ w.frozen? ⟨g, j, none⟩ = false ∧ n ≤ cap := by
  rcases h.2 with ⟨e1, e2⟩ | ⟨g, cap', cur, e1, _, hg, hn, _, _, ht⟩
  · have hx := h.1
    rw [e2] at hx
    have := List.getElem?_eq_some_iff.1 hj
    obtain ⟨h1, _⟩ := this
    simp at hx
    subst hx
    simp at h1
  · simp at e1
    obtain ⟨rfl, rfl⟩ := e1
    refine ⟨g, rfl, ?_, by simp [World.frozen?, hg], hn⟩
    rw [← ht, List.getElem?_take] at hj
    split at hj
    · simpa [World.cell?, hg] using hj
    · cases hj
theorem own_base {w : World} {B B' : Nat} {e : TypeId} {size : Nat} {v : Value} {n : Nat} {xs : List Value} (h : w.ownsRow B e size v n xs) (hB : B' ≤ B) : w.ownsRow B' e size v n xs := by
  refine ⟨h.1, ?_⟩
  rcases h.2 with h0 | ⟨g, cap, cur, rfl, hb, rest⟩
  · exact .inl h0
  · exact .inr ⟨g, cap, cur, rfl, Nat.le_trans hB hb, rest⟩

end Go.Proofs.Ytbimhiffcdhcaaa

namespace Go.Proofs.Ytbimhiffcdhcaaa
open Go Go.RowKit Go.Lib
set_option linter.unusedVariables false
set_option linter.unusedSimpArgs false
set_option maxRecDepth 100000

/-- The reference's log in memory. -/
def rlogO (r base size M head nxt : Nat) : Obj := .cells #[.pointer (some ⟨r, 0, none⟩), .int .i64 base, .int .i64 size, .int .u32 M, .int .u64 head, .int .u64 nxt] 55 (0, 0)
abbrev RLogR (q r base size M head nxt : Nat) : Res := Blk q (rlogO r base size M head nxt)
theorem rlog_cells {w : World} {q r base size M head nxt : Nat} (h : w.heap[q]? = some (rlogO r base size M head nxt)) :
    w.cell? ⟨q, 0, none⟩ = some (.pointer (some ⟨r, 0, none⟩)) ∧ w.cell? ⟨q, 1, none⟩ = some (.int .i64 base) ∧ w.cell? ⟨q, 2, none⟩ = some (.int .i64 size) ∧ w.cell? ⟨q, 3, none⟩ = some (.int .u32 M) ∧ w.cell? ⟨q, 4, none⟩ = some (.int .u64 head) ∧ w.cell? ⟨q, 5, none⟩ = some (.int .u64 nxt) := by
  simp [World.cell?, h, rlogO]

set_option maxHeartbeats 1000000 in
theorem rlog_room {w : World} {q r base size M head nxt : Nat} (h : w.heap[q]? = some (rlogO r base size M head nxt)) (hh : head ≤ nxt) (hn : nxt < 9223372036854775808) (hs : size ≤ 4096) :
    Calls Try.prog 34 #[.pointer (some ⟨q, 0, none⟩)] w fun e w' => e = .returned (.int .i64 ((size : Int) - ((nxt : Int) - (head : Int)))) ∧ Only (fun _ => False) w w' := by
  obtain ⟨_, _, c2, _, c4, c5⟩ := rlog_cells h
  have e1 : IntKind.u64.wrap ((nxt : Int) - (head : Int)) = ((nxt : Int) - (head : Int)) := by rw [IntKind.wrap_u64]; omega
  obtain ⟨z, hz⟩ : ∃ z : Int, z = (nxt : Int) - (head : Int) := ⟨_, rfl⟩
  rw [← hz] at e1 ⊢
  have e2 : IntKind.i64.wrap z = z := IntWalk.i64_in _ (by omega)
  have e3 : IntKind.i64.wrap ((size : Int) - z) = (size : Int) - z := IntWalk.i64_in _ (by omega)
  have HZ := Lib.hid hz
  clear h
  rw [hz] at e1
  go_enter Try.func34, Try.ntmps34
  go_wp2_with fail
  go_quiet (fail)
  go_wp2_with fail
  go_ret
  refine ⟨?_, (Only.refl _ _).drewN _⟩
  rw [HZ.out]
  rfl

set_option maxHeartbeats 1000000 in
theorem rlog_trim {w0 w : World} {q r base size M head nxt : Nat} {J : Res} [Stab J] (h : Own w0 w (Sep (RLogR q r base size M head nxt) J)) (tn : Nat) (hh : head < 18446744073709551616) (hn : nxt < 18446744073709551616) (ht : tn < 18446744073709551616) :
    Calls Try.prog 25 #[.pointer (some ⟨q, 0, none⟩), .int .u64 tn] w fun e w' => e = .returned (.int .i64 (if tn < head ∨ nxt < tn then 1 else 0 : Nat)) ∧ Own w0 w' (Sep (RLogR q r base size M (if tn < head ∨ nxt < tn then head else tn) nxt) J) := by
  have hb := h.held
  obtain ⟨_, _, _, _, c4, c5⟩ := rlog_cells hb
  have f4 : w.frozen? ⟨q, 4, none⟩ = false := blk_free hb 4
  have HS := Lib.hid (h.store 4 (.int .u64 tn))
  have H := Lib.hid h
  clear h hb
  by_cases h1 : tn < head
  · have h1I : (tn : Int) < (head : Int) := by omega
    have h1d : decide ((tn : Int) < (head : Int)) = true := decide_eq_true h1I
    rw [if_pos (.inl h1), if_pos (.inl h1)]
    clear h1
    go_enter Try.func25, Try.ntmps25
    go_wp2_with fail
    go_ret
    exact ⟨rfl, H.out⟩
  · have h1I : ¬ (tn : Int) < (head : Int) := by omega
    have h1d : decide ((tn : Int) < (head : Int)) = false := decide_eq_false h1I
    by_cases h2 : nxt < tn
    · have h2I : (nxt : Int) < (tn : Int) := by omega
      have h2d : decide ((nxt : Int) < (tn : Int)) = true := decide_eq_true h2I
      rw [if_pos (.inr h2), if_pos (.inr h2)]
      clear h1 h2
      go_enter Try.func25, Try.ntmps25
      go_wp2_with fail
      go_ret
      exact ⟨rfl, H.out⟩
    · have h2I : ¬ (nxt : Int) < (tn : Int) := by omega
      have h2d : decide ((nxt : Int) < (tn : Int)) = false := decide_eq_false h2I
      rw [if_neg (fun e => e.elim h1 h2), if_neg (fun e => e.elim h1 h2)]
      clear h1 h2
      go_enter Try.func25, Try.ntmps25
      go_wp2_with fail
      go_ret
      exact ⟨rfl, HS.out⟩

end Go.Proofs.Ytbimhiffcdhcaaa

namespace Go.Proofs.Ytbimhiffcdhcaaa
open Go Go.RowKit
set_option linter.unusedVariables false
set_option linter.unusedSimpArgs false
set_option maxRecDepth 100000

theorem rows_round {l n : Nat} {P : Program} {row : String} {args : Array Value} {w : World} {R : Value → World → Prop} (h : Rows P row args w R) : RowsIn (Fence.wide.inRound l) n P row args w R :=
  fun c cs _ => let ⟨v, w', r, s⟩ := h c cs; ⟨v, w', r, stepsIn_wide.2 s⟩
theorem upon_round {l n : Nat} {P : Program} {o : Oper} {a : Act} {K K' : Act → World → Prop} {Q : Exit → Act → World → Prop} (hK : ∀ a w, K a w → K' a w) {r : Result Next} (h : o.upon P a K Q r) : o.uponIn (Fence.wide.inRound l) n P a K' Q r := by
  cases r with
  | ok x w' =>
    cases x <;> simp only [Oper.upon, Oper.uponIn] at h ⊢
    case value v => exact hK _ _ h
    case skip => exact hK _ _ h
    case defer d => exact hK _ _ h
    case enter f args => exact ⟨(fun h => by cases h), (CallsIn.inRound l (callsIn_wide.2 h)).mono (fun e w'' he => by cases e <;> first | exact hK _ _ he | exact he)⟩
    case row row args => exact ⟨(fun h => by cases h), rows_round (h.mono fun v w'' he => hK _ _ he)⟩
  | halt x w' =>
    cases x <;> simp only [Oper.upon, Oper.uponIn] at h ⊢ <;> exact h
theorem ops_round {l n : Nat} {P : Program} {ops : Array Oper} {Q : Exit → Act → World → Prop} (hd : ∀ (i : Nat) (o : Oper) (c : Call), ops[i]? = some o → o.op ≠ .defer c) (hq : ¬ LetsOut Q) :
    ∀ (is : List Nat) (a : Act) (w : World), wpOps P ops Q is a w → wpOpsIn (Fence.wide.inRound l) n P ops Q is a w
  | [], a, w, h => h
  | i :: is, a, w, h => by
    simp only [wpOps, wpOpsIn] at h ⊢
    cases ho : ops[i]? with
    | none => rw [ho] at h; exact ops_round hd hq is a w h
    | some o =>
      rw [ho] at h
      simp only at h ⊢
      split
      · rename_i hw
        rw [if_pos hw] at h
        rcases h with h | h
        · refine ⟨fun _ _ => trivial, ?_⟩
          have e : o.semAt (Fence.wide.inRound l).round a.eval = execOp a.eval o := Oper.semAt_some l _ _ (fun c => hd i o c ho)
          rw [e]
          exact upon_round (ops_round hd hq is) h
        · exact absurd h.2 hq
      · rename_i hw
        rw [if_neg hw] at h
        exact ⟨fun _ _ => trivial, ops_round hd hq is _ w h⟩
def noDefer (ops : Array Oper) : Bool := ops.toList.all fun o => match o.op with | .defer _ => false | _ => true
theorem noDefer_spec {ops : Array Oper} (h : noDefer ops = true) : ∀ (i : Nat) (o : Oper) (c : Call), ops[i]? = some o → o.op ≠ .defer c := by
  intro i o c ho e
  have h1 := List.all_eq_true.1 h o (by
    obtain ⟨hi, rfl⟩ := Array.getElem?_eq_some_iff.1 ho
    simp)
  rw [e] at h1
  simp at h1
/-- A region that draws, in a round: by the plain walk under S. -/
theorem wp_round_held {l n id : Nat} {P : Program} {ops : Array Oper} {Q : Exit → Act → World → Prop} {S : World → Prop} {a : Act} {w : World} (hm : P.follows .mixedOrders = true) (hd : noDefer ops = true) (hq : ¬ LetsOut Q) (hS : S w.drew)
    (h : S w.drew → wpAnyH P .any ops Q S ops.size (Array.replicate ops.size false) a w.drew) : (Code.region id ops true).wpIn (Fence.wide.inRound l) n P Q a w :=
  wpIn_region_draw fun t => ops_round (noDefer_spec hd) hq _ _ _ (by
    simp only [Region.schedule, hm, Bool.true_or, if_true]
    exact wpAny_sound ops.size t _ a _ (wpAny_of_held _ _ _ _ (h hS)))

end Go.Proofs.Ytbimhiffcdhcaaa

namespace Go.Proofs.Ytbimhiffcdhcaaa
open Go Go.RowKit
set_option linter.unusedVariables false
set_option linter.unusedSimpArgs false
set_option maxRecDepth 100000

def RowV (e : TypeId) (size : Nat) (v : Value) (n : Nat) (xs : List Value) : Res := fun w F => w.ownsRow 0 e size v n xs ∧ ∀ k, F k ↔ v.ownBlock = some k
instance {e : TypeId} {size : Nat} {v : Value} {n : Nat} {xs : List Value} : Stab (RowV e size v n xs) where
  lt := fun h k hk => own_lt h.1 ((h.2 k).1 hk)
  keep := fun h hk => ⟨own_keepAt h.1 (fun k e => hk k ((h.2 k).2 e)), h.2⟩
theorem RowV.nil (e : TypeId) (size : Nat) (w : World) : RowV e size (.slice none 0 0) 0 [] w (fun _ => False) :=
  ⟨World.ownsRow_nil _ _ _ _, fun k => by simp [Value.ownBlock]⟩
theorem Own.row_nil {w0 w : World} {I : Res} (h : Own w0 w I) (e : TypeId) (size : Nat) : Own w0 w (Sep (RowV e size (.slice none 0 0) 0 []) I) := by
  obtain ⟨F, h1, h2, h3⟩ := h
  exact ⟨F, ⟨fun _ => False, F, RowV.nil e size w, h1, fun _ h => h.elim, fun k => by simp⟩, h2, h3⟩
theorem Own.owns {w0 w : World} {e : TypeId} {size : Nat} {v : Value} {n : Nat} {xs : List Value} {J : Res} (h : Own w0 w (Sep (RowV e size v n xs) J)) : w.ownsRow 0 e size v n xs := by
  obtain ⟨F, ⟨A, B, hA, _⟩, _⟩ := h
  exact hA.1
/-- What append leaves. -/
theorem Own.appended {w0 w w' : World} {e : TypeId} {size : Nat} {v : Value} {n n' g cap : Nat} {xs xs' : List Value} {J : Res} [Stab J] (h : Own w0 w (Sep (RowV e size v n xs) J))
    (hown : w'.ownsRow 0 e size (.slice (some ⟨g, 0, none⟩) n' cap) n' xs') (hg : w.grownBy w' v.ownBlock) (hor : v.ownBlock = some g ∨ w.heap.size ≤ g) : Own w0 w' (Sep (RowV e size (.slice (some ⟨g, 0, none⟩) n' cap) n' xs') J) := by
  obtain ⟨F, ⟨A, B, hA, hB, hd, hF⟩, h2, h3⟩ := h
  have hv : ∀ k, v.ownBlock = some k → A k := fun k hk => (hA.2 k).2 hk
  refine ⟨fun k => k = g ∨ B k, ⟨fun k => k = g, B, ⟨hown, fun k => by simp [Value.ownBlock, eq_comm]⟩, Stab.keep hB (fun k hk => hg.block k (Stab.lt hB k hk) (fun e => hd k (hv k e.symm) hk)), ?_, fun k => Iff.rfl⟩, ?_, ?_⟩
  · rintro k rfl hk
    rcases hor with e | e
    · exact hd _ (hv _ e) hk
    · have := Stab.lt hB _ hk; omega
  · rintro k (rfl | hk)
    · rcases hor with e | e
      · exact h2 _ ((hF _).2 (.inl (hv _ e)))
      · have := h3.size; omega
    · exact h2 _ ((hF _).2 (.inr hk))
  · exact h3.grown hg (fun k hk e => by have := h2 k ((hF k).2 (.inl (hv k e))); omega)

/-- A region in the text's order, in a round: by the plain walk. -/
theorem wp_round_lit {l n id : Nat} {P : Program} {ops : List Oper} {Q : Exit → Act → World → Prop} {a : Act} {w : World} (hd : noDefer ops.toArray = true) (hq : ¬ LetsOut Q)
    (h : wpList P ops.toArray Q ops a w) : (Code.region id ops.toArray false).wpIn (Fence.wide.inRound l) n P Q a w := by
  refine wpIn_region (ops_round (noDefer_spec hd) hq _ _ _ ?_)
  rw [List.range_eq_range', List.size_toArray, wpOps_eq_wpList ops 0 (by simp)]
  exact h

end Go.Proofs.Ytbimhiffcdhcaaa

namespace Go.Proofs.Ytbimhiffcdhcaaa
open Go Go.RowKit
set_option linter.unusedVariables false
set_option linter.unusedSimpArgs false
set_option maxRecDepth 100000

/-- Bytes in a row of their own, with its spare room. -/
def OwnB (v : Value) (xs : List UInt8) : Res := fun w F => w.ownsRow 0 5 1 v xs.length (u8s xs) ∧ ∀ k, F k ↔ v.ownBlock = some k
instance {v : Value} {xs : List UInt8} : Stab (OwnB v xs) where
  lt := fun h k hk => own_lt h.1 ((h.2 k).1 hk)
  keep := fun h hk => ⟨own_keepAt h.1 (fun k e => hk k ((h.2 k).2 e)), h.2⟩
/-- A slice whose n bytes are all c, and another one, of m, that has grown out of it. -/
def PairB (v : Value) (n : Nat) (x : Value) (m : Nat) (c : UInt8) : Res := fun w F => w.ownsRow 0 5 1 x m (u8s (List.replicate m c)) ∧ SlC w v (List.replicate n c) ∧ n ≤ m ∧
  ((v = .slice none 0 0 ∧ n = 0) ∨ ∃ g cv, v = .slice (some ⟨g, 0, none⟩) n cv ∧ g < w.heap.size) ∧ ∀ k, F k ↔ x.ownBlock = some k ∨ v.ownBlock = some k
theorem own_at {v : Value} {k : Nat} (h : v.ownBlock = some k) : ∃ a n c, v = .slice (some a) n c ∧ a.block = k := by
  unfold Value.ownBlock at h
  split at h
  · simp at h; exact ⟨_, _, _, rfl, h⟩
  · cases h
instance {v x : Value} {n m : Nat} {c : UInt8} : Stab (PairB v n x m c) where
  lt := by
    rintro w F ⟨h1, h2, h3, h4, h5⟩ k hk
    rcases (h5 k).1 hk with hk | hk
    · exact own_lt h1 hk
    · rcases h4 with ⟨rfl, _⟩ | ⟨g, cv, rfl, hg⟩
      · cases hk
      · simp [Value.ownBlock] at hk; omega
  keep := by
    rintro w w' F ⟨h1, h2, h3, h4, h5⟩ hk
    have hv : ∀ k, v.ownBlock = some k → w'.heap[k]? = w.heap[k]? := fun k e => hk k ((h5 k).2 (.inr e))
    refine ⟨own_keepAt h1 (fun k e => hk k ((h5 k).2 (.inl e))), ?_, h3, ?_, h5⟩
    · rcases h2 with h2 | ⟨a, cap, rfl, hc⟩
      · exact .inl h2
      · refine .inr ⟨a, cap, rfl, fun j hj => ?_⟩
        exact (World.cell?_of_block (show w'.heap[(a.add j).block]? = w.heap[(a.add j).block]? by rw [add_block]; exact hv a.block rfl)).trans (hc j hj)
    · rcases h4 with h4 | ⟨g, cv, rfl, hg⟩
      · exact .inl h4
      · have e := hv g rfl
        rw [Array.getElem?_eq_getElem hg] at e
        exact .inr ⟨g, cv, rfl, lt_of_some e⟩

theorem rep_drop (xs : List UInt8) (c : UInt8) {k : Nat} (hk : k < xs.length) : (List.replicate k c ++ xs.drop k).set k c = List.replicate (k + 1) c ++ xs.drop (k + 1) := by
  rw [List.set_append_right _ _ (by simp), List.length_replicate, Nat.sub_self, List.drop_eq_getElem_cons hk, List.set_cons_zero, List.replicate_succ', List.append_assoc]
  rfl
/-- A byte of such a row is written over. -/
theorem own_put {w0 w : World} {v : Value} {ys : List UInt8} {J : Res} [Stab J] (h : Own w0 w (Sep (OwnB v ys) J)) {k : Nat} (hk : k < ys.length) (c : UInt8) :
    ∃ g cap, v = .slice (some ⟨g, 0, none⟩) ys.length cap ∧ ys.length ≤ cap ∧ (∃ u, w.cell? ⟨g, k, none⟩ = some u) ∧ w.frozen? ⟨g, k, none⟩ = false ∧ Own w0 (w.setCell ⟨g, k, none⟩ (.int .u8 c.toNat)) (Sep (OwnB v (ys.set k c)) J) := by
  obtain ⟨F, ⟨A, B, hA, hB, hd, hF⟩, h2, h3⟩ := h
  have hA' := hA
  rcases hA.1.2 with ⟨rfl, h0⟩ | ⟨g, cap, cur, rfl, _, hg, hc, hm, hs, ht⟩
  · omega
  · have hAg : A g := (hA.2 g).2 rfl
    have hcell : w.cell? ⟨g, k, none⟩ = some (cur[k]'(by omega)) := by simp [World.cell?, hg]
    have hj : ∀ i, i ≠ g → (w.setCell ⟨g, k, none⟩ (.int .u8 c.toNat)).heap[i]? = w.heap[i]? := fun i hi => Below.heap_setCell _ _ _ _ hi
    refine ⟨g, cap, rfl, hc, ⟨_, hcell⟩, by simp [World.frozen?, hg], F, ⟨A, B, ⟨⟨by simp [u8s], .inr ⟨g, cap, cur.setIfInBounds k (.int .u8 c.toNat), by simp, Nat.zero_le _, heap_set hg k _, by simpa using hc, hm, by simpa using hs, ?_⟩⟩, hA.2⟩,
      Stab.keep hB (fun i hi => hj i (fun e => hd g hAg (e ▸ hi))), hd, hF⟩, h2, h3.trans (Only.cell w g k _) (fun i hi e => by have := h2 g ((hF g).2 (.inl hAg)); omega)⟩
    simp only [Nat.mul_one] at ht ⊢
    simp only [List.length_set, Array.toList_setIfInBounds]
    rw [List.take_set, ht]
    simp [u8s, List.map_set]
theorem pair_start {v : Value} {n : Nat} {c : UInt8} {w : World} {F : Nat → Prop} (h : OwnB v (List.replicate n c) w F) : PairB v n v n c w F := by
  obtain ⟨h1, h2⟩ := h
  simp only [List.length_replicate] at h1
  refine ⟨h1, ?_, Nat.le_refl _, ?_, fun k => by rw [h2]; simp⟩
  · rcases h1.2 with ⟨rfl, h0⟩ | ⟨g, cap, cur, rfl, _, hg, hc, hm, hs, ht⟩
    · subst h0; exact .inl ⟨rfl, rfl⟩
    · refine .inr ⟨⟨g, 0, none⟩, cap, by simp, fun j hj => ?_⟩
      simp at hj
      rw [add_lit, Nat.zero_add, h1.cellAt j (by simpa using hj)]
      exact u8s_at (by simpa using hj)
  · rcases h1.2 with ⟨rfl, h0⟩ | ⟨g, cap, cur, rfl, _, hg, _⟩
    · exact .inl ⟨rfl, h0⟩
    · exact .inr ⟨g, cap, rfl, lt_of_some hg⟩
/-- The longer one has grown by one: in its own row, or in a new one. -/
theorem pair_fits {w0 w w1 : World} {v : Value} {n m g cap : Nat} {c : UInt8} {J : Res} [Stab J] {o : Obj} (h : Own w0 w (Sep (PairB v n (.slice (some ⟨g, 0, none⟩) m cap) m c) J))
    (hown : w1.ownsRow 0 5 1 (.slice (some ⟨g, 0, none⟩) (m + 1) cap) (m + 1) (u8s (List.replicate (m + 1) c))) (hg : (w.alloc o).grownBy w1 (some g)) : Own w0 w1 (Sep (PairB v n (.slice (some ⟨g, 0, none⟩) (m + 1) cap) (m + 1) c) J) := by
  obtain ⟨F, ⟨A, B, ⟨a1, a2, a3, a4, a5⟩, hB, hd, hF⟩, h2, h3⟩ := h
  have ho : Only (fun k => k = g) w w1 := (((Only.refl (fun _ => False) w).alloc o).mono (T := fun k => k = g) (fun _ _ h => h.elim)).grown hg (fun k _ e => by simp at e; exact e.symm)
  have hAg : A g := (a5 g).2 (.inl rfl)
  refine ⟨F, ⟨A, B, ⟨hown, ?_, by omega, ?_, a5⟩, Stab.keep hB (fun i hi => ho.block i (Stab.lt hB i hi) (fun e => hd g hAg (e ▸ hi))), hd, hF⟩, h2, h3.trans ho (fun i hi e => by have := h2 g ((hF g).2 (.inl hAg)); omega)⟩
  · rcases a4 with ⟨rfl, rfl⟩ | ⟨gv, cv, rfl, hgv⟩
    · exact .inl ⟨rfl, rfl⟩
    · by_cases e : gv = g
      · subst e
        refine .inr ⟨⟨gv, 0, none⟩, cv, by simp, fun j hj => ?_⟩
        simp at hj
        rw [add_lit, Nat.zero_add, hown.cellAt j (by omega), u8s_at (by simp; omega)]
        simp [List.getD_eq_getElem?_getD, List.getElem?_replicate, hj, show j < m + 1 by omega]
      · rcases a2 with a2 | ⟨a, cap', e2, hc⟩
        · exact .inl a2
        · simp at e2
          obtain ⟨rfl, _, _⟩ := e2
          refine .inr ⟨⟨gv, 0, none⟩, cv, by simp, fun j hj => ?_⟩
          exact (World.cell?_of_block (show w1.heap[((⟨gv, 0, none⟩ : Addr).add j).block]? = w.heap[((⟨gv, 0, none⟩ : Addr).add j).block]? by rw [add_block]; exact ho.block gv hgv e)).trans (hc j hj)
  · rcases a4 with a4 | ⟨gv, cv, rfl, hgv⟩
    · exact .inl a4
    · exact .inr ⟨gv, cv, rfl, ho.lt hgv⟩
theorem pair_grows {w0 w w1 : World} {v x x' : Value} {n m : Nat} {c : UInt8} {J : Res} [Stab J] {o : Obj} (h : Own w0 w (Sep (PairB v n x m c) J))
    (hown : w1.ownsRow (w.alloc o).heap.size 5 1 x' (m + 1) (u8s (List.replicate (m + 1) c))) (hg : (w.alloc o).grownBy w1 none) : Own w0 w1 (Sep (PairB v n x' (m + 1) c) J) := by
  obtain ⟨F, ⟨A, B, ⟨a1, a2, a3, a4, a5⟩, hB, hd, hF⟩, h2, h3⟩ := h
  have ho : Only (fun _ => False) w w1 := ((Only.refl (fun _ => False) w).alloc o).grown hg (fun k _ e => by cases e)
  have hx : ∀ k, x'.ownBlock = some k → w.heap.size ≤ k := fun k e => by
    rcases hown.2 with ⟨rfl, _⟩ | ⟨g, cap, cur, rfl, hb, _⟩
    · cases e
    · simp [Value.ownBlock] at e; simp at hb; omega
  have hown0 : w1.ownsRow 0 5 1 x' (m + 1) (u8s (List.replicate (m + 1) c)) := by
    refine ⟨hown.1, ?_⟩
    rcases hown.2 with h0 | ⟨g, cap, cur, e, hb, rest⟩
    · exact .inl h0
    · exact .inr ⟨g, cap, cur, e, Nat.zero_le _, rest⟩
  refine ⟨fun k => (x'.ownBlock = some k ∨ v.ownBlock = some k) ∨ B k, ⟨fun k => x'.ownBlock = some k ∨ v.ownBlock = some k, B, ⟨hown0, a2.keep ho, by omega, ?_, fun _ => Iff.rfl⟩, Stab.keep hB (fun i hi => ho.block i (Stab.lt hB i hi) (fun h => h)), ?_, fun _ => Iff.rfl⟩, ?_, h3.trans ho (fun _ _ h => h)⟩
  · rcases a4 with a4 | ⟨gv, cv, rfl, hgv⟩
    · exact .inl a4
    · exact .inr ⟨gv, cv, rfl, ho.lt hgv⟩
  · rintro k (e | e) hk
    · have := hx k e; have := Stab.lt hB k hk; omega
    · exact hd k ((a5 k).2 (.inr e)) hk
  · rintro k ((e | e) | hk)
    · have := hx k e; have := h3.size; omega
    · exact h2 k ((hF k).2 (.inl ((a5 k).2 (.inr e))))
    · exact h2 k ((hF k).2 (.inr hk))
/-- A cell of a block of one's own is written over. -/
theorem blk_put {w0 w : World} {g : Nat} {cs : Array Value} {t : TypeId} {J : Res} [Stab J] (h : Own w0 w (Sep (Blk g (.cells cs t)) J)) (k : Nat) (u : Value) :
    Own w0 (w.setCell ⟨g, k, none⟩ u) (Sep (Blk g (.cells (cs.setIfInBounds k u) t)) J) := by
  obtain ⟨F, ⟨A, B, hA, hB, hd, hF⟩, h2, h3⟩ := h
  have hAg : A g := (hA.2 g).2 rfl
  exact ⟨F, ⟨A, B, ⟨heap_set hA.1 k u, hA.2⟩, Stab.keep hB (fun i hi => Below.heap_setCell _ _ _ _ (fun e => hd g hAg (by have e' : i = g := e; exact e' ▸ hi))), hd, hF⟩, h2, h3.trans (Only.cell w g k u) (fun i hi e => by have := h2 g ((hF g).2 (.inl hAg)); omega)⟩
theorem Own.blk {w0 w : World} {g : Nat} {o : Obj} {J : Res} (h : Own w0 w (Sep (Blk g o) J)) : w.heap[g]? = some o := by
  obtain ⟨F, h1, _⟩ := h.fst
  exact h1.1

/-- Where the walk stands: which of the two slices have been written over and grown. -/
def ApSt (w0 : World) (gl gL : Nat) (ol : Obj) (J : Res) (va : Value) (xs : List UInt8) (vb : Value) (ys : List UInt8) (s : Nat) (w : World) : Prop :=
  ∃ cs : Array Value, cs.size = 2 ∧
    ((s = 0 ∧ Own w0 w (Sep (OwnB va xs) (Sep (Blk gL (.cells cs 48)) (Sep (OwnB vb ys) (Sep (Blk gl ol) J))))) ∨
     (s = 1 ∧ ∃ xa, cs[0]? = some xa ∧ Own w0 w (Sep (OwnB vb ys) (Sep (Blk gL (.cells cs 48)) (Sep (PairB va xs.length xa (xs.length + 20) 1) (Sep (Blk gl ol) J))))) ∨
     (s = 2 ∧ ∃ xa xb, cs[0]? = some xa ∧ cs[1]? = some xb ∧ Own w0 w (Sep (PairB vb ys.length xb (ys.length + 20) 2) (Sep (Blk gL (.cells cs 48)) (Sep (PairB va xs.length xa (xs.length + 20) 1) (Sep (Blk gl ol) J))))))
theorem ApSt.round {w0 w : World} {gl gL s : Nat} {fr : Nat × Nat} {J : Res} {va vb : Value} {xs ys : List UInt8} (h : ApSt w0 gl gL (.cells #[va, vb] 48 fr) J va xs vb ys s w) (hs : s < 2) (hx : xs.length ≤ 1000000000) (hy : ys.length ≤ 1000000000) :
    ∃ (v : Value) (zs : List UInt8) (c : UInt8) (M : Res) (_ : Stab M) (cs : Array Value), cs.size = 2 ∧ (#[va, vb] : Array Value)[s]? = some v ∧ c.toNat = s + 1 ∧ zs.length ≤ 1000000000 ∧
      Own w0 w (Sep (OwnB v zs) (Sep (Blk gL (.cells cs 48)) (Sep M (Sep (Blk gl (.cells #[va, vb] 48 fr)) J)))) ∧
      ∀ w' x, Own w0 w' (Sep (PairB v zs.length x (zs.length + 20) c) (Sep (Blk gL (.cells (cs.setIfInBounds s x) 48)) (Sep M (Sep (Blk gl (.cells #[va, vb] 48 fr)) J)))) → ApSt w0 gl gL (.cells #[va, vb] 48 fr) J va xs vb ys (s + 1) w' := by
  obtain ⟨cs, hcs, ⟨rfl, h⟩ | ⟨rfl, xa, h0, h⟩ | ⟨rfl, _⟩⟩ := h
  · refine ⟨va, xs, 1, OwnB vb ys, inferInstance, cs, hcs, rfl, rfl, hx, h, fun w' x hw => ⟨cs.setIfInBounds 0 x, by simpa using hcs, .inr (.inl ⟨rfl, x, by simp [hcs], ?_⟩)⟩⟩
    exact hw.rot.swap.rot
  · refine ⟨vb, ys, 2, PairB va xs.length xa (xs.length + 20) 1, inferInstance, cs, hcs, rfl, rfl, hy, h, fun w' x hw => ⟨cs.setIfInBounds 1 x, by simpa using hcs, .inr (.inr ⟨rfl, xa, x, by rw [Array.getElem?_setIfInBounds_ne (by decide)]; exact h0, by simp [hcs], hw⟩)⟩⟩
  · omega
theorem ApSt.reads {w0 w : World} {gl gL s : Nat} {fr : Nat × Nat} {J : Res} {va vb : Value} {xs ys : List UInt8} (h : ApSt w0 gl gL (.cells #[va, vb] 48 fr) J va xs vb ys 2 w) (hs : s < 2) (hx : xs.length ≤ 1000000000) (hy : ys.length ≤ 1000000000) :
    ∃ (v x : Value) (n : Nat) (c : UInt8), n ≤ 1000000000 ∧ w.cell? ⟨gl, s, none⟩ = some v ∧ w.cell? ⟨gL, s, none⟩ = some x ∧ SlC w v (List.replicate n c) ∧ SlC w x (List.replicate (n + 20) c) ∧ c.toNat = s + 1 := by
  obtain ⟨cs, hcs, ⟨h0, _⟩ | ⟨h0, _⟩ | ⟨_, xa, xb, ha, hb, h⟩⟩ := h
  · omega
  · omega
  · have hl := h.snd.snd.snd.blk
    have hL := h.snd.blk
    obtain ⟨Fb, pb, _⟩ := h.fst
    obtain ⟨Fa, pa, _⟩ := h.snd.snd.fst
    have row : ∀ {x : Value} {m : Nat} {c : UInt8}, w.ownsRow 0 5 1 x m (u8s (List.replicate m c)) → SlC w x (List.replicate m c) := fun {x m c} ho => by
      rcases ho.2 with ⟨rfl, rfl⟩ | ⟨g, cap, cur, rfl, _⟩
      · exact .inl ⟨rfl, rfl⟩
      · refine .inr ⟨⟨g, 0, none⟩, cap, by simp, fun j hj => ?_⟩
        simp at hj
        rw [add_lit, Nat.zero_add, ho.cellAt j (by simpa using hj)]
        exact u8s_at (by simpa using hj)
    match s, hs with
    | 0, _ => exact ⟨va, xa, xs.length, 1, hx, by simp [World.cell?, hl], by simp [World.cell?, hL, ha], pa.2.1, row pa.1, rfl⟩
    | 1, _ => exact ⟨vb, xb, ys.length, 2, hy, by simp [World.cell?, hl], by simp [World.cell?, hL, hb], pb.2.1, row pb.1, rfl⟩

theorem ApSt.only {w0 w : World} {gl gL s : Nat} {ol : Obj} {J : Res} {va vb : Value} {xs ys : List UInt8} (h : ApSt w0 gl gL ol J va xs vb ys s w) : Only (fun _ => False) w0 w := by
  obtain ⟨cs, _, ⟨_, h⟩ | ⟨_, _, _, h⟩ | ⟨_, _, _, _, _, h⟩⟩ := h
  · exact h.only
  · exact h.only
  · exact h.only
theorem slc_rep {w : World} {ao : Option Addr} {n m cp : Nat} {c : UInt8} (h : SlC w (.slice ao m cp) (List.replicate n c)) {j : Nat} (hj : j < n) : ∃ g off, ao = some ⟨g, off, none⟩ ∧ w.cell? ⟨g, off + j, none⟩ = some (.int .u8 (c.toNat : Int)) := by
  rcases h with ⟨_, h0⟩ | ⟨a, cap, e, hc⟩
  · have := congrArg List.length h0
    simp at this
    omega
  · simp at e
    obtain ⟨rfl, _, _⟩ := e
    have h0 := hc 0 (by simp; omega)
    have h1 := hc j (by simpa using hj)
    obtain ⟨b, off, spot⟩ := a
    have hspot : spot = none := by simpa [Addr.add] using World.cell?_spot h0
    subst hspot
    refine ⟨b, off, rfl, ?_⟩
    rw [← add_lit, h1]
    simp [List.getD_eq_getElem?_getD, List.getElem?_replicate, hj]

theorem Try.infoSlB : (Try.prog.info? 48).map (fun i => (i.zero, i.size, i.bytes)) = some (some (.slice none 0 0), 1, 24) := by kernel_rfl
theorem run_make2 (w : World) : (Instr.makeSlice 62 (.int .i64 2) (.int .i64 2)).run Try.prog w = .ok (.slice (some ⟨w.heap.size, 0, none⟩) 2 2) (w.alloc (.cells #[.slice none 0 0, .slice none 0 0] 48)) := by
  obtain ⟨i, hi, hz, hs, hb⟩ := info_parts Try.infoSlB
  have := run_make (P := Try.prog) w 62 48 i (.slice none 0 0) Try.underlying62 hi hz .i64 .i64 2 2 (by omega) (Int.le_refl _) (by rw [hb]; omega) (by omega)
  have e : madeCells #[Value.slice none 0 0] 2 = #[.slice none 0 0, .slice none 0 0] := Array.toList_inj.1 (by rw [toList_madeCells_one]; rfl)
  rw [this]
  simp only [hs, Value.cells, Nat.mul_one]
  exact congrArg (fun c => Result.ok (Value.slice (some ⟨w.heap.size, 0, none⟩) 2 2) (w.alloc (.cells c 48))) e


end Go.Proofs.Ytbimhiffcdhcaaa
