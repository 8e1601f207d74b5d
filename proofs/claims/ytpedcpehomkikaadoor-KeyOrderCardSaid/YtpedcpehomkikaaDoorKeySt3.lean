/-
  Spans of keys (pure, for stage 7).
-/
import Derived.Test.YtpedcpehomkikaaDoorKeySt
namespace Go.Proofs.YtpedcpehomkikaaDoor
open Go Go.RowKit
set_option linter.unusedVariables false
set_option linter.unusedSimpArgs false
set_option maxRecDepth 100000

/-- The least that comes behind all that begin with s. -/
def afterL : List UInt8 → Option (List UInt8)
  | [] => none
  | b :: r => match afterL r with
    | some t => some (b :: t)
    | none => if b = 255 then none else some [UInt8.ofNat (b.toNat + 1)]
theorem afterL_none {b : UInt8} {r : List UInt8} (h : afterL r = none) : afterL (b :: r) = if b = 255 then none else some [UInt8.ofNat (b.toNat + 1)] := by
  rw [afterL, h]
theorem afterL_some {b : UInt8} {r t : List UInt8} (h : afterL r = some t) : afterL (b :: r) = some (b :: t) := by
  rw [afterL, h]
theorem afterL_full : ∀ n, afterL (List.replicate n 255) = none
  | 0 => rfl
  | n + 1 => by rw [List.replicate_succ, afterL_none (afterL_full n), if_pos rfl]
theorem afterL_at (b : UInt8) (hb : b ≠ 255) (n : Nat) : ∀ p : List UInt8, afterL (p ++ b :: List.replicate n 255) = some (p ++ [UInt8.ofNat (b.toNat + 1)])
  | [] => by
    show afterL (b :: List.replicate n 255) = _
    rw [afterL_none (afterL_full n), if_neg hb]
    rfl
  | c :: p => by rw [List.cons_append, afterL_some (afterL_at b hb n p)]; rfl
theorem bcmp_nil (k : List UInt8) : 0 ≤ bcmp k [] := by cases k <;> simp [bcmp]
theorem bcmp_nil' (k : List UInt8) : bcmp [] k ≤ 0 := by cases k <;> simp [bcmp]
theorem bcmp_cons (a b : UInt8) (x y : List UInt8) : bcmp (a :: x) (b :: y) = if a.toNat < b.toNat then -1 else if b.toNat < a.toNat then 1 else bcmp x y := rfl
theorem bcmp_same (a : UInt8) (x y : List UInt8) : bcmp (a :: x) (a :: y) = bcmp x y := by rw [bcmp_cons, if_neg (by omega), if_neg (by omega)]
theorem bcmp_less {a b : UInt8} (h : a.toNat < b.toNat) (x y : List UInt8) : bcmp (a :: x) (b :: y) = -1 := by rw [bcmp_cons, if_pos h]
theorem bcmp_more {a b : UInt8} (h : b.toNat < a.toNat) (x y : List UInt8) : bcmp (a :: x) (b :: y) = 1 := by rw [bcmp_cons, if_neg (by omega), if_pos h]
theorem succ_byte {b : UInt8} (h : b ≠ 255) : (UInt8.ofNat (b.toNat + 1)).toNat = b.toNat + 1 := by
  have h1 := b.toNat_lt
  have : b.toNat ≠ 255 := fun e => h (UInt8.toNat_inj.1 e)
  rw [UInt8.toNat_ofNat']
  omega
theorem byte_ways (a b : UInt8) : a.toNat < b.toNat ∨ a = b ∨ b.toNat < a.toNat := by
  rcases Nat.lt_trichotomy a.toNat b.toNat with h | h | h
  · exact .inl h
  · exact .inr (.inl (UInt8.toNat_inj.1 h))
  · exact .inr (.inr h)
/-- Does a key lie from lo on, below hi? -/
def inL (lo hi : List UInt8) (op : Bool) (k : List UInt8) : Bool := decide (0 ≤ bcmp k lo) && (op || decide (bcmp k hi < 0))
/-- The span of what begins with s. -/
def hiL (s : List UInt8) : List UInt8 := (afterL s).getD []
def opL (s : List UInt8) : Bool := (afterL s).isNone
theorem under_iff : ∀ (s k : List UInt8), inL s (hiL s) (opL s) k = true ↔ s <+: k
  | [], k => by simp [inL, hiL, opL, afterL, bcmp_nil]
  | b :: r, [] => by simp [inL, bcmp]
  | b :: r, c :: q => by
    have ih := under_iff r q
    rcases byte_ways c b with h | h | h
    · have h1 : ¬ (b :: r <+: c :: q) := fun e => by rw [List.cons_prefix_cons] at e; rw [e.1] at h; omega
      simp only [inL, bcmp_less h, h1, iff_false]
      simp
    · subst h
      rw [List.cons_prefix_cons]
      simp only [true_and]
      rw [← ih]
      simp only [inL, bcmp_same]
      cases ha : afterL r with
      | some t =>
        simp only [hiL, opL, afterL_some ha, ha, Option.getD_some, Option.isNone_some, bcmp_same]
      | none =>
        simp only [hiL, opL, ha, afterL_none ha, Option.isNone_none, Bool.true_or, Bool.and_true]
        by_cases hc : c = 255
        · simp [hc]
        · simp only [if_neg hc, Option.getD_some, Option.isNone_some, Bool.false_or]
          rw [bcmp_less (by rw [succ_byte hc]; omega)]
          simp
    · have h1 : ¬ (b :: r <+: c :: q) := fun e => by rw [List.cons_prefix_cons] at e; rw [e.1] at h; omega
      simp only [h1, iff_false]
      cases ha : afterL r with
      | some t =>
        simp only [inL, hiL, opL, afterL_some ha, Option.getD_some, Option.isNone_some, bcmp_more h]
        simp
      | none =>
        have hb : b ≠ 255 := fun e => by subst e; have := c.toNat_lt; have e2 : (255 : UInt8).toNat = 255 := rfl; omega
        simp only [inL, hiL, opL, afterL_none ha, if_neg hb, Option.getD_some, Option.isNone_some, bcmp_more h]
        have : 0 ≤ bcmp (c :: q) [UInt8.ofNat (b.toNat + 1)] := by
          rw [bcmp_cons, succ_byte hb]
          split
          · omega
          · split
            · omega
            · exact bcmp_nil q
        simp only [Bool.false_or, Bool.and_eq_true, decide_eq_true_eq]
        omega
theorem after_gt : ∀ {s t : List UInt8}, afterL s = some t → bcmp t s = 1
  | b :: r, t, h => by
    cases ha : afterL r with
    | some u =>
      rw [afterL_some ha] at h
      simp only [Option.some.injEq] at h
      subst h
      rw [bcmp_same]
      exact after_gt ha
    | none =>
      rw [afterL_none ha] at h
      by_cases hb : b = 255
      · rw [if_pos hb] at h; cases h
      · rw [if_neg hb] at h
        simp only [Option.some.injEq] at h
        subst h
        rw [bcmp_more (by rw [succ_byte hb]; omega)]
theorem after_out {s t : List UInt8} (h : afterL s = some t) : inL s (hiL s) (opL s) t = false := by
  simp [inL, hiL, opL, h, bcmp_self]
/-- Have two spans a key in common? -/
def loL (a b : List UInt8) : List UInt8 := if bcmp a b < 0 then b else a
def meetL (la ha : List UInt8) (oa : Bool) (lb hb : List UInt8) (ob : Bool) : Bool := inL la ha oa (loL la lb) && inL lb hb ob (loL la lb)
theorem loL_comm (a b : List UInt8) : loL a b = loL b a := by
  unfold loL
  have h := bcmp_neg a b
  by_cases h1 : bcmp a b < 0
  · rw [if_pos h1, if_neg (by omega)]
  · rw [if_neg h1]
    by_cases h2 : bcmp b a < 0
    · rw [if_pos h2]
    · rw [if_neg h2]
      exact (bcmp_eq a b).1 (by omega)
theorem meetL_comm (la ha : List UInt8) (oa : Bool) (lb hb : List UInt8) (ob : Bool) : meetL la ha oa lb hb ob = meetL lb hb ob la ha oa := by
  unfold meetL
  rw [loL_comm la lb, Bool.and_comm]
theorem bcmp_le_lt {x y z : List UInt8} (h1 : bcmp x y ≤ 0) (h2 : bcmp y z < 0) : bcmp x z < 0 := by
  have h3 := bcmp_trans x y z h1 (by omega)
  by_cases e : bcmp x z = 0
  · have e2 := (bcmp_eq x z).1 e
    subst e2
    have := bcmp_neg x y
    omega
  · omega
theorem loL_le {a b k : List UInt8} (ha : 0 ≤ bcmp k a) (hb : 0 ≤ bcmp k b) : bcmp (loL a b) k ≤ 0 := by
  have := bcmp_neg k a
  have := bcmp_neg k b
  unfold loL
  split <;> omega
theorem loL_ge_l (a b : List UInt8) : bcmp a (loL a b) ≤ 0 := by
  unfold loL
  split
  · omega
  · rw [bcmp_self]; omega
theorem loL_ge_r (a b : List UInt8) : bcmp b (loL a b) ≤ 0 := by rw [loL_comm]; exact loL_ge_l b a
theorem inL_iff (lo hi : List UInt8) (op : Bool) (k : List UInt8) : inL lo hi op k = true ↔ bcmp lo k ≤ 0 ∧ (op = true ∨ bcmp k hi < 0) := by
  have := bcmp_neg k lo
  unfold inL
  simp only [Bool.and_eq_true, decide_eq_true_eq, Bool.or_eq_true]
  constructor
  · rintro ⟨h1, h2⟩; exact ⟨by omega, h2⟩
  · rintro ⟨h1, h2⟩; exact ⟨by omega, h2⟩
/-- A key in both: they meet. -/
theorem meet_of {la ha : List UInt8} {oa : Bool} {lb hb : List UInt8} {ob : Bool} {k : List UInt8} (h1 : inL la ha oa k = true) (h2 : inL lb hb ob k = true) : meetL la ha oa lb hb ob = true := by
  have i1 := (inL_iff _ _ _ _).1 h1
  have i2 := (inL_iff _ _ _ _).1 h2
  have n1 := bcmp_neg k la
  have n2 := bcmp_neg k lb
  have hl := loL_le (a := la) (b := lb) (k := k) (by omega) (by omega)
  unfold meetL
  rw [Bool.and_eq_true]
  exact ⟨(inL_iff _ _ _ _).2 ⟨loL_ge_l _ _, i1.2.imp id (bcmp_le_lt hl)⟩, (inL_iff _ _ _ _).2 ⟨loL_ge_r _ _, i2.2.imp id (bcmp_le_lt hl)⟩⟩
theorem of_meet {la ha : List UInt8} {oa : Bool} {lb hb : List UInt8} {ob : Bool} (h : meetL la ha oa lb hb ob = true) : inL la ha oa (loL la lb) = true ∧ inL lb hb ob (loL la lb) = true := by
  unfold meetL at h
  rwa [Bool.and_eq_true] at h
/-- They meet: each has its own lower end. -/
theorem meet_own {la ha : List UInt8} {oa : Bool} {lb hb : List UInt8} {ob : Bool} (h : meetL la ha oa lb hb ob = true) : inL la ha oa la = true ∧ inL lb hb ob lb = true := by
  obtain ⟨h1, h2⟩ := of_meet h
  have i1 := (inL_iff _ _ _ _).1 h1
  have i2 := (inL_iff _ _ _ _).1 h2
  exact ⟨(inL_iff _ _ _ _).2 ⟨by rw [bcmp_self]; omega, i1.2.imp id (bcmp_le_lt i1.1)⟩, (inL_iff _ _ _ _).2 ⟨by rw [bcmp_self]; omega, i2.2.imp id (bcmp_le_lt i2.1)⟩⟩
/-- Spans of what begins with unlike texts of one length. -/
theorem under_apart {s t : List UInt8} (hl : s.length = t.length) (hne : s ≠ t) : meetL s (hiL s) (opL s) t (hiL t) (opL t) = false := by
  refine Bool.eq_false_iff.2 fun h => ?_
  obtain ⟨h1, h2⟩ := of_meet h
  have p1 := (under_iff _ _).1 h1
  have p2 := (under_iff _ _).1 h2
  exact hne ((List.prefix_of_prefix_length_le p1 p2 (Nat.le_of_eq hl)).eq_of_length hl)
theorem under_meet {s t : List UInt8} (k : List UInt8) (h1 : s <+: k) (h2 : t <+: k) : meetL s (hiL s) (opL s) t (hiL t) (opL t) = true :=
  meet_of ((under_iff _ _).2 h1) ((under_iff _ _).2 h2)

end Go.Proofs.YtpedcpehomkikaaDoor
