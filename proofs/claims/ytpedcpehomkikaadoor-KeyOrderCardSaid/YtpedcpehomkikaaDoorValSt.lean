/-
  Values of columns and their texts, on lists of bytes (pure, for stage 6).
-/
import Derived.Lib.Hide
namespace Go.Proofs.YtpedcpehomkikaaDoor
set_option linter.unusedVariables false
set_option linter.unusedSimpArgs false
set_option maxRecDepth 100000

/-- A value: its kind, its number, its bytes. -/
structure Vl where
  K : Int
  N : Nat
  S : List UInt8
deriving DecidableEq

/-- Of valid UTF-8's first piece: how many bytes it takes (0: none). -/
def u8len (l : List UInt8) : Nat :=
  match l with
  | [] => 0
  | c :: r =>
    let c := c.toNat
    if c < 128 then 1
    else
      let n := if 194 ≤ c ∧ c < 224 then 2 else if 224 ≤ c ∧ c < 240 then 3 else if 240 ≤ c ∧ c < 245 then 4 else 0
      let low := if n = 2 then 128 else if n = 3 then 2048 else 65536
      let x0 := if n = 2 then c - 192 else if n = 3 then c - 224 else c - 240
      if n = 0 ∨ r.length + 1 < n then 0
      else if ((r.take (n - 1)).all fun d => decide (128 ≤ d.toNat) && decide (d.toNat < 192)) = true then
        let x := (r.take (n - 1)).foldl (fun x d => x * 64 + d.toNat - 128) x0
        if x < low ∨ 1114111 < x ∨ (55296 ≤ x ∧ x < 57344) then 0 else n
      else 0
def utf8F : Nat → List UInt8 → Bool
  | _, [] => true
  | 0, _ :: _ => false
  | f + 1, l => if u8len l = 0 then false else utf8F f (l.drop (u8len l))
def utf8B (l : List UInt8) : Bool := utf8F l.length l

def Vl.okB (v : Vl) : Bool :=
  if v.K = 0 then decide (v.N = 0) && v.S.isEmpty
  else if v.K = 1 ∨ v.K = 2 then v.S.isEmpty
  else if v.K = 3 then decide (v.N < 2) && v.S.isEmpty
  else if v.K = 4 then decide (v.N = 0) && decide (v.S.length ≤ 64)
  else if v.K = 5 then decide (v.N = 0) && (decide (v.S.length ≤ 64) && utf8B v.S)
  else false

/-- A number as a signed one. -/
def sgn (n : Nat) : Int := if n < 9223372036854775808 then (n : Int) else (n : Int) - 18446744073709551616
/-- The order of byte strings. -/
def bcmp : List UInt8 → List UInt8 → Int
  | [], [] => 0
  | [], _ :: _ => -1
  | _ :: _, [] => 1
  | a :: x, b :: y => if a.toNat < b.toNat then -1 else if b.toNat < a.toNat then 1 else bcmp x y
def vcmp (a b : Vl) : Int :=
  if a.K ≠ b.K then (if a.K < b.K then -1 else 1)
  else if a.N ≠ b.N then (if (if a.K = 1 then decide (sgn a.N < sgn b.N) else decide (a.N < b.N)) = true then -1 else 1)
  else bcmp a.S b.S

theorem bcmp_self : ∀ x, bcmp x x = 0
  | [] => rfl
  | a :: x => by simp [bcmp, bcmp_self x]
theorem bcmp_neg : ∀ x y, bcmp x y = - bcmp y x
  | [], [] => rfl
  | [], _ :: _ => rfl
  | _ :: _, [] => rfl
  | a :: x, b :: y => by
    simp only [bcmp]
    by_cases h1 : a.toNat < b.toNat
    · rw [if_pos h1, if_neg (by omega), if_pos h1]
    · rw [if_neg h1]
      by_cases h2 : b.toNat < a.toNat
      · rw [if_pos h2, if_pos h2]; rfl
      · rw [if_neg h2, if_neg h2, if_neg h1]
        exact bcmp_neg x y
theorem bcmp_range : ∀ x y, bcmp x y = -1 ∨ bcmp x y = 0 ∨ bcmp x y = 1
  | [], [] => .inr (.inl rfl)
  | [], _ :: _ => .inl rfl
  | _ :: _, [] => .inr (.inr rfl)
  | a :: x, b :: y => by
    simp only [bcmp]
    split
    · exact .inl rfl
    · split
      · exact .inr (.inr rfl)
      · exact bcmp_range x y
theorem bcmp_eq : ∀ x y, bcmp x y = 0 ↔ x = y
  | [], [] => by simp [bcmp]
  | [], _ :: _ => by simp [bcmp]
  | _ :: _, [] => by simp [bcmp]
  | a :: x, b :: y => by
    simp only [bcmp]
    by_cases h1 : a.toNat < b.toNat
    · rw [if_pos h1]
      constructor
      · intro h; cases h
      · intro h; cases h; omega
    · rw [if_neg h1]
      by_cases h2 : b.toNat < a.toNat
      · rw [if_pos h2]
        constructor
        · intro h; cases h
        · intro h; cases h; omega
      · rw [if_neg h2, bcmp_eq x y]
        have : a = b := UInt8.toNat_inj.1 (by omega)
        simp [this]
theorem bcmp_trans : ∀ x y z, bcmp x y ≤ 0 → bcmp y z ≤ 0 → bcmp x z ≤ 0
  | [], y, [], _, _ => by simp [bcmp]
  | [], y, _ :: _, _, _ => by simp [bcmp]
  | _ :: _, [], z, h, _ => by simp [bcmp] at h
  | _ :: _, _ :: _, [], _, h => by simp [bcmp] at h
  | a :: x, b :: y, c :: z, h1, h2 => by
    simp only [bcmp] at h1 h2 ⊢
    by_cases k1 : a.toNat < b.toNat
    · by_cases k2 : b.toNat < c.toNat
      · rw [if_pos (by omega)]; decide
      · rw [if_neg k2] at h2
        by_cases k3 : c.toNat < b.toNat
        · rw [if_pos k3] at h2; exact absurd h2 (by decide)
        · rw [if_pos (by omega)]; decide
    · rw [if_neg k1] at h1
      by_cases k4 : b.toNat < a.toNat
      · rw [if_pos k4] at h1; exact absurd h1 (by decide)
      · rw [if_neg k4] at h1
        by_cases k2 : b.toNat < c.toNat
        · rw [if_pos (by omega)]; decide
        · rw [if_neg k2] at h2
          by_cases k3 : c.toNat < b.toNat
          · rw [if_pos k3] at h2; exact absurd h2 (by decide)
          · rw [if_neg k3] at h2
            rw [if_neg (by omega), if_neg (by omega)]
            exact bcmp_trans x y z h1 h2

theorem sgn_inj {a b : Nat} (ha : a < 18446744073709551616) (hb : b < 18446744073709551616) (h : sgn a = sgn b) : a = b := by
  unfold sgn at h
  split at h <;> split at h <;> omega
theorem ite_pm (c : Prop) [Decidable c] : (if c then (-1 : Int) else 1) = -1 ∨ (if c then (-1 : Int) else 1) = 1 := by
  by_cases h : c
  · exact .inl (if_pos h)
  · exact .inr (if_neg h)
theorem vcmp_range (a b : Vl) : vcmp a b = -1 ∨ vcmp a b = 0 ∨ vcmp a b = 1 := by
  unfold vcmp
  by_cases hk : a.K ≠ b.K
  · rw [if_pos hk]
    exact (ite_pm _).imp id .inr
  · rw [if_neg hk]
    by_cases hn : a.N ≠ b.N
    · rw [if_pos hn]
      exact (ite_pm _).imp id .inr
    · rw [if_neg hn]
      exact bcmp_range _ _
theorem vcmp_self (a : Vl) : vcmp a a = 0 := by
  unfold vcmp
  rw [if_neg (by simp), if_neg (by simp), bcmp_self]
/-- The place of a value's number in its kind's order. -/
def ordN (v : Vl) : Int := if v.K = 1 then sgn v.N else (v.N : Int)
theorem ordN_inj {a b : Vl} (hk : a.K = b.K) (ha : a.N < 18446744073709551616) (hb : b.N < 18446744073709551616) (h : ordN a = ordN b) : a.N = b.N := by
  unfold ordN at h
  rw [← hk] at h
  split at h
  · exact sgn_inj ha hb h
  · omega
theorem vcmp_iff (a b : Vl) (ha : a.N < 18446744073709551616) (hb : b.N < 18446744073709551616) :
    vcmp a b = if a.K < b.K then -1 else if b.K < a.K then 1 else if ordN a < ordN b then -1 else if ordN b < ordN a then 1 else bcmp a.S b.S := by
  unfold vcmp
  by_cases hk : a.K = b.K
  · rw [if_neg (show ¬ a.K ≠ b.K by simpa using hk), if_neg (show ¬ a.K < b.K by omega), if_neg (show ¬ b.K < a.K by omega)]
    by_cases hn : a.N = b.N
    · have : ordN a = ordN b := by unfold ordN; rw [hk, hn]
      rw [if_neg (show ¬ a.N ≠ b.N by simpa using hn), if_neg (show ¬ ordN a < ordN b by omega), if_neg (show ¬ ordN b < ordN a by omega)]
    · rw [if_pos (show a.N ≠ b.N from hn)]
      have hne : ordN a ≠ ordN b := fun e => hn (ordN_inj hk ha hb e)
      have e : (if a.K = 1 then decide (sgn a.N < sgn b.N) else decide (a.N < b.N)) = decide (ordN a < ordN b) := by
        unfold ordN
        rw [← hk]
        by_cases h1 : a.K = 1
        · simp [h1]
        · simp [h1]
      rw [e]
      by_cases hl : ordN a < ordN b
      · rw [if_pos (show decide (ordN a < ordN b) = true by simpa using hl), if_pos hl]
      · rw [if_neg (show ¬ decide (ordN a < ordN b) = true by simpa using hl), if_neg hl, if_pos (show ordN b < ordN a by omega)]
  · rw [if_pos (show a.K ≠ b.K from hk)]
    by_cases hl : a.K < b.K
    · rw [if_pos hl, if_pos hl]
    · rw [if_neg hl, if_neg hl, if_pos (show b.K < a.K by omega)]
theorem vcmp_neg (a b : Vl) (ha : a.N < 18446744073709551616) (hb : b.N < 18446744073709551616) : vcmp a b = - vcmp b a := by
  rw [vcmp_iff a b ha hb, vcmp_iff b a hb ha]
  by_cases h1 : a.K < b.K
  · rw [if_pos h1, if_neg (show ¬ b.K < a.K by omega), if_pos h1]
  rw [if_neg h1]
  by_cases h2 : b.K < a.K
  · rw [if_pos h2, if_pos h2]; rfl
  rw [if_neg h2, if_neg h2, if_neg h1]
  by_cases h3 : ordN a < ordN b
  · rw [if_pos h3, if_neg (show ¬ ordN b < ordN a by omega), if_pos h3]
  rw [if_neg h3]
  by_cases h4 : ordN b < ordN a
  · rw [if_pos h4, if_pos h4]; rfl
  rw [if_neg h4, if_neg h4, if_neg h3]
  exact bcmp_neg _ _
theorem vcmp_eq (a b : Vl) (ha : a.N < 18446744073709551616) (hb : b.N < 18446744073709551616) : vcmp a b = 0 ↔ a = b := by
  constructor
  · intro h
    unfold vcmp at h
    by_cases hk : a.K ≠ b.K
    · rw [if_pos hk] at h
      rcases ite_pm (a.K < b.K) with e | e <;> rw [e] at h <;> cases h
    · rw [if_neg hk] at h
      by_cases hn : a.N ≠ b.N
      · rw [if_pos hn] at h
        rcases ite_pm ((if a.K = 1 then decide (sgn a.N < sgn b.N) else decide (a.N < b.N)) = true) with e | e <;> rw [e] at h <;> cases h
      · rw [if_neg hn] at h
        have := (bcmp_eq _ _).1 h
        cases a; cases b
        simp_all
  · rintro rfl
    exact vcmp_self a
theorem vcmp_trans (a b c : Vl) (ha : a.N < 18446744073709551616) (hb : b.N < 18446744073709551616) (hc : c.N < 18446744073709551616) (h1 : vcmp a b ≤ 0) (h2 : vcmp b c ≤ 0) : vcmp a c ≤ 0 := by
  rw [vcmp_iff a b ha hb] at h1
  rw [vcmp_iff b c hb hc] at h2
  rw [vcmp_iff a c ha hc]
  by_cases p1 : a.K < c.K
  · rw [if_pos p1]; decide
  rw [if_neg p1]
  have q1 : ¬ b.K < a.K := fun e => by rw [if_neg (by omega), if_pos e] at h1; exact absurd h1 (by decide)
  have q2 : ¬ c.K < b.K := fun e => by rw [if_neg (by omega), if_pos e] at h2; exact absurd h2 (by decide)
  rw [if_neg (by omega)]
  rw [if_neg (by omega), if_neg (by omega)] at h1 h2
  by_cases p2 : ordN a < ordN c
  · rw [if_pos p2]; decide
  rw [if_neg p2]
  have q3 : ¬ ordN b < ordN a := fun e => by rw [if_neg (by omega), if_pos e] at h1; exact absurd h1 (by decide)
  have q4 : ¬ ordN c < ordN b := fun e => by rw [if_neg (by omega), if_pos e] at h2; exact absurd h2 (by decide)
  rw [if_neg (by omega)]
  rw [if_neg (by omega), if_neg (by omega)] at h1 h2
  exact bcmp_trans _ _ _ h1 h2

end Go.Proofs.YtpedcpehomkikaaDoor
