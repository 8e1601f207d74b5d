/-
  Keys of lists of values, on lists of bytes: their bytes, how they are read back, how two of them part (pure, for stage 7).
-/
import Derived.Test.YtpedcpehomkikaaDoorValSt
import Derived.Test.YtpedcpehomkikaaDoorBeB
namespace Go.Proofs.YtpedcpehomkikaaDoor
open Go Go.RowKit
set_option linter.unusedVariables false
set_option linter.unusedSimpArgs false
set_option maxRecDepth 100000

/-! ### How two byte strings part -/
/-- At the first byte where they differ. -/
def Parts (x y : List UInt8) (c : Int) : Prop := ∃ p a b r s, x = p ++ a :: r ∧ y = p ++ b :: s ∧ a ≠ b ∧ c = if a.toNat < b.toNat then -1 else 1
theorem bcmp_front : ∀ (p x y : List UInt8), bcmp (p ++ x) (p ++ y) = bcmp x y
  | [], _, _ => rfl
  | a :: p, x, y => by simp [bcmp, bcmp_front p x y]
theorem Parts.cmp {x y : List UInt8} {c : Int} (h : Parts x y c) : bcmp x y = c := by
  obtain ⟨p, a, b, r, s, rfl, rfl, hne, rfl⟩ := h
  rw [bcmp_front, bcmp]
  by_cases h1 : a.toNat < b.toNat
  · rw [if_pos h1, if_pos h1]
  · have h2 : b.toNat < a.toNat := by
      have : a.toNat ≠ b.toNat := fun e => hne (UInt8.toNat_inj.1 e)
      omega
    rw [if_neg h1, if_neg h1, if_pos h2]
theorem Parts.post {x y : List UInt8} {c : Int} (h : Parts x y c) (r s : List UInt8) : Parts (x ++ r) (y ++ s) c := by
  obtain ⟨p, a, b, r', s', rfl, rfl, hne, rfl⟩ := h
  exact ⟨p, a, b, r' ++ r, s' ++ s, by simp, by simp, hne, rfl⟩
theorem Parts.pre {x y : List UInt8} {c : Int} (h : Parts x y c) (q : List UInt8) : Parts (q ++ x) (q ++ y) c := by
  obtain ⟨p, a, b, r', s', rfl, rfl, hne, rfl⟩ := h
  exact ⟨q ++ p, a, b, r', s', by simp, by simp, hne, rfl⟩
theorem Parts.cons {x y : List UInt8} {c : Int} (h : Parts x y c) (a : UInt8) : Parts (a :: x) (a :: y) c := h.pre [a]
theorem Parts.lt {a b : UInt8} (r s : List UInt8) (h : a.toNat < b.toNat) : Parts (a :: r) (b :: s) (-1) :=
  ⟨[], a, b, r, s, rfl, rfl, fun e => by subst e; omega, by rw [if_pos h]⟩
theorem Parts.gt {a b : UInt8} (r s : List UInt8) (h : b.toNat < a.toNat) : Parts (a :: r) (b :: s) 1 :=
  ⟨[], a, b, r, s, rfl, rfl, fun e => by subst e; omega, by rw [if_neg (by omega)]⟩
theorem Parts.range {x y : List UInt8} {c : Int} (h : Parts x y c) : c = -1 ∨ c = 1 := by
  obtain ⟨p, a, b, r', s', rfl, rfl, hne, rfl⟩ := h
  split
  · exact .inl rfl
  · exact .inr rfl
theorem Parts.ne {x y : List UInt8} {c : Int} (h : Parts x y c) : x ≠ y := by
  intro e
  have h1 := h.cmp
  rw [e, bcmp_self] at h1
  rcases h.range with h2 | h2 <;> omega
/-- Neither begins with the other. -/
theorem Parts.front {x y : List UInt8} {c : Int} (h : Parts x y c) : ¬ x <+: y := by
  rintro ⟨t, rfl⟩
  obtain ⟨p, a, b, r', s', rfl, e, hne, _⟩ := h
  simp only [List.append_assoc, List.cons_append] at e
  have := List.append_cancel_left e
  simp only [List.cons.injEq] at this
  exact hne this.1
def not8 (b : UInt8) : UInt8 := UInt8.ofNat (255 - b.toNat)
theorem not8_toNat (b : UInt8) : (not8 b).toNat = 255 - b.toNat := by
  have := b.toNat_lt
  unfold not8
  rw [UInt8.toNat_ofNat']
  omega
theorem not8_not8 (b : UInt8) : not8 (not8 b) = b := by
  apply UInt8.toNat_inj.1
  rw [not8_toNat, not8_toNat]
  have := b.toNat_lt
  omega
theorem not8_inj {a b : UInt8} (h : not8 a = not8 b) : a = b := by rw [← not8_not8 a, h, not8_not8]
theorem Parts.neg {x y : List UInt8} {c : Int} (h : Parts x y c) : Parts (x.map not8) (y.map not8) (-c) := by
  obtain ⟨p, a, b, r, s, rfl, rfl, hne, rfl⟩ := h
  refine ⟨p.map not8, not8 a, not8 b, r.map not8, s.map not8, by simp, by simp, fun e => hne (not8_inj e), ?_⟩
  rw [not8_toNat, not8_toNat]
  have := a.toNat_lt; have := b.toNat_lt
  have : a.toNat ≠ b.toNat := fun e => hne (UInt8.toNat_inj.1 e)
  by_cases h1 : a.toNat < b.toNat
  · rw [if_pos h1, if_neg (by omega)]; rfl
  · rw [if_neg h1, if_pos (by omega)]
def turnL (d : Bool) (l : List UInt8) : List UInt8 := if d = true then l.map not8 else l
theorem turnL_turnL (d : Bool) (l : List UInt8) : turnL d (turnL d l) = l := by
  cases d
  · rfl
  · show (l.map not8).map not8 = l
    rw [List.map_map]
    have : (not8 ∘ not8) = id := funext not8_not8
    rw [this, List.map_id]
theorem turnL_length (d : Bool) (l : List UInt8) : (turnL d l).length = l.length := by cases d <;> simp [turnL]
theorem turnL_append (d : Bool) (l m : List UInt8) : turnL d (l ++ m) = turnL d l ++ turnL d m := by cases d <;> simp [turnL]
theorem turnL_nil (d : Bool) : turnL d [] = [] := by cases d <;> rfl
theorem Parts.turn {x y : List UInt8} {c : Int} (h : Parts x y c) (d : Bool) : Parts (turnL d x) (turnL d y) (if d = true then -c else c) := by
  cases d
  · exact h
  · exact h.neg

/-! ### The bytes of a value -/
theorem be_parts : ∀ (k x y : Nat), x < 256 ^ k → y < 256 ^ k → x ≠ y → Parts (beB k x) (beB k y) (if x < y then -1 else 1)
  | 0, x, y, hx, hy, hne => by simp at hx hy; omega
  | k + 1, x, y, hx, hy, hne => by
    have hk : 0 < 256 ^ k := Nat.pow_pos (by decide)
    have ex := Nat.div_add_mod x (256 ^ k)
    have ey := Nat.div_add_mod y (256 ^ k)
    have lx := Nat.mod_lt x hk
    have ly := Nat.mod_lt y hk
    rw [Nat.pow_succ] at hx hy
    have qx : x / 256 ^ k < 256 := (Nat.div_lt_iff_lt_mul hk).2 (by rw [Nat.mul_comm]; exact hx)
    have qy : y / 256 ^ k < 256 := (Nat.div_lt_iff_lt_mul hk).2 (by rw [Nat.mul_comm]; exact hy)
    have tx : (UInt8.ofNat (x / 256 ^ k)).toNat = x / 256 ^ k := by rw [UInt8.toNat_ofNat']; exact Nat.mod_eq_of_lt qx
    have ty : (UInt8.ofNat (y / 256 ^ k)).toNat = y / 256 ^ k := by rw [UInt8.toNat_ofNat']; exact Nat.mod_eq_of_lt qy
    rw [beB, beB]
    by_cases hq : x / 256 ^ k = y / 256 ^ k
    · rw [hq] at ex ⊢
      have hm : x % 256 ^ k ≠ y % 256 ^ k := fun e => hne (by omega)
      have ih := be_parts k (x % 256 ^ k) (y % 256 ^ k) lx ly hm
      rw [beB_mod k (x % 256 ^ k) x (Nat.mod_mod _ _), beB_mod k (y % 256 ^ k) y (Nat.mod_mod _ _)] at ih
      have e : (if x < y then (-1 : Int) else 1) = if x % 256 ^ k < y % 256 ^ k then -1 else 1 := by
        by_cases h1 : x < y
        · rw [if_pos h1, if_pos (by omega)]
        · rw [if_neg h1, if_neg (by omega)]
      rw [e]
      exact ih.cons _
    · by_cases h1 : x / 256 ^ k < y / 256 ^ k
      · have : x < y := by
          have := Nat.mul_le_mul_left (256 ^ k) (show x / 256 ^ k + 1 ≤ y / 256 ^ k from h1)
          rw [Nat.mul_add, Nat.mul_one] at this
          omega
        rw [if_pos this]
        exact Parts.lt _ _ (by rw [tx, ty]; exact h1)
      · have h2 : y / 256 ^ k < x / 256 ^ k := by omega
        have : ¬ x < y := by
          have := Nat.mul_le_mul_left (256 ^ k) (show y / 256 ^ k + 1 ≤ x / 256 ^ k from h2)
          rw [Nat.mul_add, Nat.mul_one] at this
          omega
        rw [if_neg this]
        exact Parts.gt _ _ (by rw [tx, ty]; exact h2)

def escK : List UInt8 → List UInt8
  | [] => []
  | b :: r => if b = 0 then 0 :: 255 :: escK r else b :: escK r
theorem escK_snoc : ∀ (l : List UInt8) (b : UInt8), escK (l ++ [b]) = escK l ++ (if b = 0 then [0, 255] else [b])
  | [], b => by simp only [List.nil_append, escK]
  | c :: r, b => by
    rw [List.cons_append, escK, escK_snoc r b, escK]
    split <;> simp
theorem escK_length : ∀ l : List UInt8, (escK l).length ≤ 2 * l.length
  | [] => Nat.le_refl _
  | c :: r => by
    have := escK_length r
    rw [escK]
    split <;> simp only [List.length_cons] <;> omega
theorem pos_of_ne {b : UInt8} (h : b ≠ 0) : (0 : UInt8).toNat < b.toNat := by
  have : b.toNat ≠ 0 := fun e => h (UInt8.toNat_inj.1 e)
  show 0 < b.toNat
  omega
theorem esc_parts : ∀ (s t : List UInt8), s ≠ t → Parts (escK s ++ [0, 0]) (escK t ++ [0, 0]) (bcmp s t)
  | [], [], h => absurd rfl h
  | [], b :: r, _ => by
    rw [escK, escK, bcmp]
    split
    · exact (Parts.lt _ _ (by decide)).cons 0
    · next h => exact Parts.lt _ _ (pos_of_ne h)
  | a :: r, [], _ => by
    rw [escK, escK, bcmp]
    split
    · exact (Parts.gt _ _ (by decide)).cons 0
    · next h => exact Parts.gt _ _ (pos_of_ne h)
  | a :: r, b :: s, hne => by
    rw [escK, escK, bcmp]
    by_cases hab : a = b
    · subst hab
      have ih := esc_parts r s (fun e => hne (by rw [e]))
      rw [if_neg (Nat.lt_irrefl _), if_neg (Nat.lt_irrefl _)]
      by_cases h0 : a = 0
      · rw [if_pos h0, if_pos h0]
        exact (ih.cons 255).cons 0
      · rw [if_neg h0, if_neg h0]
        exact ih.cons a
    · have hn : a.toNat ≠ b.toNat := fun e => hab (UInt8.toNat_inj.1 e)
      by_cases h1 : a.toNat < b.toNat
      · rw [if_pos h1]
        by_cases h0 : a = 0
        · have hb : b ≠ 0 := fun e => hab (h0.trans e.symm)
          rw [if_pos h0, if_neg hb]
          exact Parts.lt _ _ (pos_of_ne hb)
        · have hb : b ≠ 0 := fun e => by subst e; simp at h1
          rw [if_neg h0, if_neg hb]
          exact Parts.lt _ _ h1
      · have h2 : b.toNat < a.toNat := by omega
        rw [if_neg h1, if_pos h2]
        by_cases h0 : b = 0
        · have ha : a ≠ 0 := fun e => hab (e.trans h0.symm)
          rw [if_neg ha, if_pos h0]
          exact Parts.gt _ _ (pos_of_ne ha)
        · have ha : a ≠ 0 := fun e => by subst e; simp at h2
          rw [if_neg ha, if_neg h0]
          exact Parts.gt _ _ h2

/-- An Int's number with its highest bit turned. -/
def flipN (n : Nat) : Nat := if n < 9223372036854775808 then n + 9223372036854775808 else n - 9223372036854775808
theorem flipN_flipN {n : Nat} (h : n < 18446744073709551616) : flipN (flipN n) = n := by
  unfold flipN
  split <;> split <;> omega
theorem flipN_lt {n : Nat} (h : n < 18446744073709551616) : flipN n < 18446744073709551616 := by
  unfold flipN
  split <;> omega
theorem flipN_sgn {n m : Nat} (hn : n < 18446744073709551616) (hm : m < 18446744073709551616) : (flipN n < flipN m) ↔ sgn n < sgn m := by
  unfold flipN sgn
  split <;> split <;> omega
def kNum (v : Vl) : Nat := if v.K = 1 then flipN v.N else v.N
def kb0 (v : Vl) : List UInt8 :=
  if v.K = 0 then [0] else 1 :: (if v.K = 1 ∨ v.K = 2 then beB 8 (kNum v) else if v.K = 3 then [UInt8.ofNat v.N] else escK v.S ++ [0, 0])
def kb (v : Vl) (d : Bool) : List UInt8 := turnL d (kb0 v)
def keyL : List Vl → List Bool → List UInt8
  | v :: l, d :: ds => kb v d ++ keyL l ds
  | _, _ => []
/-- A value whose number a uint64 holds. -/
def Vl.good (v : Vl) : Prop := v.okB = true ∧ v.N < 18446744073709551616
theorem ok_kinds {v : Vl} (h : v.okB = true) :
    (v.K = 0 ∧ v.N = 0 ∧ v.S = []) ∨ ((v.K = 1 ∨ v.K = 2) ∧ v.S = []) ∨ (v.K = 3 ∧ v.N < 2 ∧ v.S = []) ∨ ((v.K = 4 ∨ v.K = 5) ∧ v.N = 0 ∧ v.S.length ≤ 64) := by
  unfold Vl.okB at h
  split at h
  · next e => simp at h; exact .inl ⟨e, h.1, h.2⟩
  · split at h
    · next e => simp at h; exact .inr (.inl ⟨e, h⟩)
    · split at h
      · next e => simp at h; exact .inr (.inr (.inl ⟨e, h.1, h.2⟩))
      · split at h
        · next e => simp at h; exact .inr (.inr (.inr ⟨.inl e, h.1, h.2⟩))
        · split at h
          · next e => simp at h; exact .inr (.inr (.inr ⟨.inr e, h.1, h.2.1⟩))
          · cases h
theorem kb0_length {v : Vl} (h : v.okB = true) : 1 ≤ (kb0 v).length ∧ (kb0 v).length ≤ 131 := by
  unfold kb0
  split
  · exact ⟨by simp, by simp⟩
  · split
    · simp [beB_length]
    · split
      · simp
      · have := escK_length v.S
        rcases ok_kinds h with ⟨e, _⟩ | ⟨e, _⟩ | ⟨e, _⟩ | ⟨e, _, hs⟩
        · omega
        · omega
        · omega
        · simp; omega
theorem vl_ext {a b : Vl} (h1 : a.K = b.K) (h2 : a.N = b.N) (h3 : a.S = b.S) : a = b := by cases a; cases b; simp_all
/-- Two values of one kind, or one of them null: unless they are the same their bytes part as they stand. -/
theorem kb0_parts {a b : Vl} (ha : a.good) (hb : b.good) (hk : a.K = b.K ∨ a.K = 0 ∨ b.K = 0) (hne : a ≠ b) : Parts (kb0 a) (kb0 b) (vcmp a b) := by
  obtain ⟨ha, hna⟩ := ha
  obtain ⟨hb, hnb⟩ := hb
  have oa := ok_kinds ha
  have ob := ok_kinds hb
  by_cases hK : a.K = b.K
  · have e : vcmp a b = if a.N ≠ b.N then (if (if a.K = 1 then decide (sgn a.N < sgn b.N) else decide (a.N < b.N)) = true then -1 else 1) else bcmp a.S b.S := by
      unfold vcmp
      rw [if_neg (by simpa using hK)]
    rw [e]
    unfold kb0
    rw [← hK]
    rcases oa with ⟨e0, hN, hS⟩ | ⟨e0, hS⟩ | ⟨e0, hN, hS⟩ | ⟨e0, hN, hS⟩
    · rcases ob with ⟨f0, hN', hS'⟩ | ⟨f0, _⟩ | ⟨f0, _⟩ | ⟨f0, _⟩
      · exact absurd (vl_ext hK (hN.trans hN'.symm) (hS.trans hS'.symm)) hne
      all_goals omega
    · have hS' : b.S = [] := by
        rcases ob with ⟨f0, _⟩ | ⟨f0, h⟩ | ⟨f0, _⟩ | ⟨f0, _⟩
        · omega
        · exact h
        all_goals omega
      have hN : a.N ≠ b.N := fun h => hne (vl_ext hK h (hS.trans hS'.symm))
      simp only [if_neg (show ¬ a.K = 0 by omega), if_pos e0, if_pos hN]
      refine Parts.cons ?_ 1
      have hw : kNum a ≠ kNum b := by
        unfold kNum
        rw [← hK]
        split
        · intro h; apply hN; rw [← flipN_flipN hna, h, flipN_flipN hnb]
        · exact hN
      have la : kNum a < 256 ^ 8 := by
        unfold kNum
        split
        · exact flipN_lt hna
        · exact hna
      have lb : kNum b < 256 ^ 8 := by
        unfold kNum
        split
        · exact flipN_lt hnb
        · exact hnb
      have hc : (if (if a.K = 1 then decide (sgn a.N < sgn b.N) else decide (a.N < b.N)) = true then (-1 : Int) else 1) = if kNum a < kNum b then -1 else 1 := by
        unfold kNum
        rw [← hK]
        by_cases h1 : a.K = 1
        · rw [if_pos h1, if_pos h1, if_pos h1]
          by_cases h2 : sgn a.N < sgn b.N
          · rw [if_pos (by simpa using h2), if_pos ((flipN_sgn hna hnb).2 h2)]
          · rw [if_neg (by simpa using h2), if_neg (fun h => h2 ((flipN_sgn hna hnb).1 h))]
        · rw [if_neg h1, if_neg h1, if_neg h1]
          by_cases h2 : a.N < b.N
          · rw [if_pos (by simpa using h2), if_pos h2]
          · rw [if_neg (by simpa using h2), if_neg h2]
      rw [hc]
      exact be_parts 8 _ _ la lb hw
    · have hb' : b.N < 2 ∧ b.S = [] := by
        rcases ob with ⟨f0, _⟩ | ⟨f0, h⟩ | ⟨f0, h⟩ | ⟨f0, _⟩
        · omega
        · omega
        · exact h
        · omega
      have hN' : a.N ≠ b.N := fun h => hne (vl_ext hK h (hS.trans hb'.2.symm))
      simp only [if_neg (show ¬ a.K = 0 by omega), if_neg (show ¬ (a.K = 1 ∨ a.K = 2) by omega), if_pos e0, if_pos hN', if_neg (show ¬ a.K = 1 by omega)]
      refine Parts.cons ?_ 1
      have ta : (UInt8.ofNat a.N).toNat = a.N := by rw [UInt8.toNat_ofNat']; omega
      have tb : (UInt8.ofNat b.N).toNat = b.N := by rw [UInt8.toNat_ofNat']; omega
      by_cases h2 : a.N < b.N
      · rw [if_pos (by simpa using h2)]
        exact Parts.lt _ _ (by rw [ta, tb]; exact h2)
      · rw [if_neg (by simpa using h2)]
        exact Parts.gt _ _ (by rw [ta, tb]; omega)
    · have hN' : b.N = 0 := by
        rcases ob with ⟨f0, _⟩ | ⟨f0, h⟩ | ⟨f0, h⟩ | ⟨f0, h, _⟩
        · omega
        · omega
        · omega
        · exact h
      have hS' : a.S ≠ b.S := fun h => hne (vl_ext hK (hN.trans hN'.symm) h)
      simp only [if_neg (show ¬ a.K = 0 by omega), if_neg (show ¬ (a.K = 1 ∨ a.K = 2) by omega), if_neg (show ¬ a.K = 3 by omega), if_neg (show ¬ a.N ≠ b.N by omega)]
      exact (esc_parts _ _ hS').cons 1
  · have e : vcmp a b = if a.K < b.K then -1 else 1 := by
      unfold vcmp
      rw [if_pos hK]
    rw [e]
    have ra : 0 ≤ a.K := by omega
    have rb : 0 ≤ b.K := by omega
    rcases hk with h | h | h
    · exact absurd h hK
    · have : b.K ≠ 0 := fun e => hK (h.trans e.symm)
      rw [if_pos (by omega)]
      unfold kb0
      rw [if_pos h, if_neg this]
      exact Parts.lt _ _ (by decide)
    · have : a.K ≠ 0 := fun e => hK (e.trans h.symm)
      rw [if_neg (by omega)]
      unfold kb0
      rw [if_neg this, if_pos h]
      exact Parts.gt _ _ (by decide)

end Go.Proofs.YtpedcpehomkikaaDoor
