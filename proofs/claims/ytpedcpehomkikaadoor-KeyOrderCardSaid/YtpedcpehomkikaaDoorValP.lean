/-
  Numerals read as numbers, and what a text may be the text of (pure).
-/
import Derived.Test.YtpedcpehomkikaaDoorValSt2
import Derived.Lib.ParseIntB
import Derived.Lib.ItoaNum
namespace Go.Proofs.YtpedcpehomkikaaDoor
set_option linter.unusedVariables false
set_option linter.unusedSimpArgs false
set_option maxRecDepth 100000
set_option linter.unusedSimpArgs false
open Go.Lib (parseUintM parseUintB parseIntB)

theorem parseM_app (M : Nat) : ∀ (l r : List UInt8) (acc u : Nat), parseUintM M acc l = .ok u → parseUintM M acc (l ++ r) = parseUintM M u r
  | [], r, acc, u, h => by
    simp only [parseUintM] at h
    injection h with h
    subst h
    rfl
  | c :: l, r, acc, u, h => by
    simp only [parseUintM, List.cons_append] at h ⊢
    by_cases h1 : 48 ≤ c.toNat ∧ c.toNat ≤ 57
    · rw [if_pos h1] at h ⊢
      by_cases h2 : 1844674407370955162 ≤ acc
      · rw [if_pos h2] at h; cases h
      · rw [if_neg h2] at h ⊢
        by_cases h3 : M < acc * 10 + (c.toNat - 48)
        · rw [if_pos h3] at h; cases h
        · rw [if_neg h3] at h ⊢
          exact parseM_app M l r _ u h
    · rw [if_neg h1] at h; cases h
theorem parseM_one (M acc i : Nat) (hi : i < 10) (ha : acc < 1844674407370955162) (hM : acc * 10 + i ≤ M) : parseUintM M acc [UInt8.ofNat (48 + i)] = .ok (acc * 10 + i) := by
  have e := ofNat_dig hi
  simp only [parseUintM]
  rw [e, if_pos (by omega), if_neg (by omega), if_neg (by omega)]
  congr 1
  omega
theorem parseM_dig (M : Nat) (hM : M < 18446744073709551616) (n : Nat) (hn : n ≤ M) : parseUintM M 0 (dig n) = .ok n := by
  induction n using Nat.strongRecOn with
  | ind n ih =>
    by_cases h : n < 10
    · rw [dig_lo h, parseM_one M 0 n h (by omega) (by omega)]
      congr 1
      omega
    · rw [dig_hi h, parseM_app M _ _ 0 (n / 10) (ih (n / 10) (by omega) (by omega)), parseM_one M _ _ (by omega) (by omega) (by omega)]
      congr 1
      omega
theorem parseU_dig (n : Nat) (hn : n < M64) : parseUintB 64 (dig n) = .ok n := by
  unfold parseUintB M64 at *
  rw [if_neg (dig_ne n)]
  exact parseM_dig _ (by decide) n (by show n ≤ 18446744073709551615; omega)
/-- An Int's text. -/
def itxt (m : Nat) : List UInt8 := if sgn m < 0 then 45 :: dig (M64 - m) else dig m
theorem parseI_txt (m : Nat) (hm : m < M64) : parseIntB 64 (itxt m) = .ok (sgn m) := by
  unfold itxt
  have p63 : (2 : Nat) ^ (64 - 1) = 9223372036854775808 := by decide
  by_cases h : sgn m < 0
  · have hs : sgn m = (m : Int) - 18446744073709551616 ∧ 9223372036854775808 ≤ m := by
      unfold sgn at h ⊢
      split at h
      · omega
      · exact ⟨by rw [if_neg (by assumption)], by omega⟩
    rw [if_pos h]
    simp only [parseIntB]
    rw [if_pos (show ((45 : UInt8).toNat = 43 ∨ (45 : UInt8).toNat = 45) from .inr rfl), parseU_dig (M64 - m) (by unfold M64 at *; omega)]
    simp only [p63]
    rw [if_neg (fun h => h.1 rfl), if_neg (by unfold M64 at *; omega), if_pos (show (45 : UInt8).toNat = 45 from rfl)]
    congr 1
    unfold M64 at *
    omega
  · have hs : sgn m = (m : Int) ∧ m < 9223372036854775808 := by
      unfold sgn M64 at *
      split at h
      · exact ⟨by rw [if_pos (by assumption)], by assumption⟩
      · omega
    rw [if_neg h]
    obtain ⟨c, r, hd, hc⟩ := dig_head m
    have hp := parseU_dig m hm
    rw [hd] at hp ⊢
    simp only [parseIntB]
    rw [if_neg (show ¬ (c.toNat = 43 ∨ c.toNat = 45) by omega), hp]
    simp only [p63]
    rw [if_neg (by omega), if_neg (by omega), if_neg (show ¬ c.toNat = 45 by omega), hs.1]

/-- v is the only value whose text s may be. -/
def Reads (s : List UInt8) (v : Vl) : Prop := ∀ u : Vl, u.okB = true → u.N < M64 → vtext u = s → v = u
theorem reads_of {s : List UInt8} {v : Vl} (hv : v.okB = true) (hN : v.N < M64) (h : vtext v = s) : Reads s v := fun u hu hM e => vtext_inj hv hN hM (h.trans e.symm)
/-- Each value's text, by its kind. -/
theorem text_kinds (u : Vl) (hu : u.okB = true) (hM : u.N < M64) :
    u = ⟨0, 0, []⟩ ∧ vtext u = tNull ∨ u = ⟨3, 1, []⟩ ∧ vtext u = tTrue ∨ u = ⟨3, 0, []⟩ ∧ vtext u = tFalse ∨
    u = ⟨4, 0, u.S⟩ ∧ vtext u = 120 :: hexB u.S ∨ u = ⟨5, 0, u.S⟩ ∧ vtext u = 34 :: (escB u.S ++ [34]) ∨
    u = ⟨2, u.N, []⟩ ∧ vtext u = dig u.N ++ [117] ∨ u = ⟨1, u.N, []⟩ ∧ vtext u = itxt u.N := by
  obtain ⟨K, N, S⟩ := u
  have hu0 := hu
  unfold vtext
  rw [if_neg (by rw [hu0]; decide)]
  simp only at hM ⊢
  by_cases k0 : K = 0
  · subst k0
    simp [Vl.okB] at hu
    left; exact ⟨by rw [hu.1, hu.2], by rw [if_pos rfl]⟩
  rw [if_neg k0]
  by_cases k1 : K = 1
  · subst k1
    simp [Vl.okB] at hu
    rw [if_pos rfl]
    exact .inr (.inr (.inr (.inr (.inr (.inr ⟨by rw [hu], rfl⟩)))))
  rw [if_neg k1]
  by_cases k2 : K = 2
  · subst k2
    simp [Vl.okB] at hu
    rw [if_pos rfl]
    exact .inr (.inr (.inr (.inr (.inr (.inl ⟨by rw [hu], rfl⟩)))))
  rw [if_neg k2]
  by_cases k3 : K = 3
  · subst k3
    simp [Vl.okB] at hu
    rw [if_pos rfl]
    have : N = 0 ∨ N = 1 := by omega
    rcases this with rfl | rfl
    · exact .inr (.inr (.inl ⟨by rw [hu.2], by rw [if_neg (by decide)]⟩))
    · exact .inr (.inl ⟨by rw [hu.2], by rw [if_pos rfl]⟩)
  rw [if_neg k3]
  by_cases k4 : K = 4
  · subst k4
    simp [Vl.okB] at hu
    rw [if_pos rfl]
    exact .inr (.inr (.inr (.inl ⟨by rw [hu.1], rfl⟩)))
  rw [if_neg k4]
  have k5 : K = 5 := by
    simp only [Vl.okB, if_neg k0, if_neg k3, if_neg k4] at hu
    rw [if_neg (by omega)] at hu
    by_cases e : K = 5
    · exact e
    · rw [if_neg e] at hu; cases hu
  subst k5
  simp [Vl.okB] at hu
  exact .inr (.inr (.inr (.inr (.inl ⟨by rw [hu.1], rfl⟩))))
theorem itxt_head (m : Nat) : ∃ c r, itxt m = c :: r ∧ (c.toNat = 45 ∨ 48 ≤ c.toNat ∧ c.toNat ≤ 57) := by
  unfold itxt
  split
  · exact ⟨45, _, rfl, .inl rfl⟩
  · obtain ⟨c, r, h, hc⟩ := dig_head m
    exact ⟨c, r, h, .inr hc⟩
theorem itxt_last (m : Nat) : ∃ r c, itxt m = r ++ [c] ∧ 48 ≤ c.toNat ∧ c.toNat ≤ 57 := by
  unfold itxt
  split
  · obtain ⟨c, r, h, hc⟩ := dig_last (M64 - m)
    exact ⟨45 :: r, c, by rw [h]; rfl, hc⟩
  · obtain ⟨c, r, h, hc⟩ := dig_last m
    exact ⟨r, c, h, hc⟩
/-- A text that begins with an x. -/
theorem reads_x {r l : List UInt8} (h : ∀ T, r = hexB T → l = T) : Reads (120 :: r) ⟨4, 0, l⟩ := fun u hu hM e => by
  rcases text_kinds u hu hM with ⟨_, t⟩ | ⟨_, t⟩ | ⟨_, t⟩ | ⟨eu, t⟩ | ⟨_, t⟩ | ⟨_, t⟩ | ⟨_, t⟩
  · rw [t] at e; simp [tNull] at e
  · rw [t] at e; simp [tTrue] at e
  · rw [t] at e; simp [tFalse] at e
  · rw [t] at e; injection e with _ e; rw [eu, h _ e.symm]
  · rw [t] at e; simp at e
  · obtain ⟨c, q, hd, hc⟩ := dig_head u.N
    rw [t, hd] at e; simp only [List.cons_append] at e; injection e with e1 e2; rw [e1] at hc; exact absurd hc.2 (by decide)
  · obtain ⟨c, q, hd, hc⟩ := itxt_head u.N
    rw [t, hd] at e; injection e with e1 e2; rw [e1] at hc; exact absurd hc (by decide)
/-- A text that begins with a quote. -/
theorem reads_q {r l : List UInt8} (h : ∀ T, r = escB T ++ [34] → l = T) : Reads (34 :: r) ⟨5, 0, l⟩ := fun u hu hM e => by
  rcases text_kinds u hu hM with ⟨_, t⟩ | ⟨_, t⟩ | ⟨_, t⟩ | ⟨_, t⟩ | ⟨eu, t⟩ | ⟨_, t⟩ | ⟨_, t⟩
  · rw [t] at e; simp [tNull] at e
  · rw [t] at e; simp [tTrue] at e
  · rw [t] at e; simp [tFalse] at e
  · rw [t] at e; simp at e
  · rw [t] at e; injection e with _ e; rw [eu, h _ e.symm]
  · obtain ⟨c, q, hd, hc⟩ := dig_head u.N
    rw [t, hd] at e; simp only [List.cons_append] at e; injection e with e1 e2; rw [e1] at hc; exact absurd hc (by decide)
  · obtain ⟨c, q, hd, hc⟩ := itxt_head u.N
    rw [t, hd] at e; injection e with e1 e2; rw [e1] at hc; exact absurd hc (by decide)
/-- A text that ends in a u, and is none of those. -/
theorem reads_u {s r : List UInt8} {n : Nat} (hs : s = r ++ [117]) (hx : s.head? ≠ some 120) (hq : s.head? ≠ some 34) (h : ∀ m, m < M64 → r = dig m → n = m) : Reads s ⟨2, n, []⟩ := fun u hu hM e => by
  rcases text_kinds u hu hM with ⟨_, t⟩ | ⟨_, t⟩ | ⟨_, t⟩ | ⟨_, t⟩ | ⟨_, t⟩ | ⟨eu, t⟩ | ⟨_, t⟩
  · rw [t, hs] at e; have := congrArg List.getLast? e; simp [tNull] at this
  · rw [t, hs] at e; have := congrArg List.getLast? e; simp [tTrue] at this
  · rw [t, hs] at e; have := congrArg List.getLast? e; simp [tFalse] at this
  · rw [← e, t] at hx; simp at hx
  · rw [← e, t] at hq; simp at hq
  · rw [t, hs] at e
    have := List.append_inj_left' e rfl
    rw [eu, h _ hM this.symm]
  · obtain ⟨q, c, hd, hc⟩ := itxt_last u.N
    rw [t, hd, hs] at e
    have := List.append_inj_right' e rfl
    injection this with e1 e2
    rw [e1] at hc
    exact absurd hc.2 (by decide)
/-- A text that is none of those. -/
theorem reads_i {s : List UInt8} {n : Nat} (h0 : s ≠ tNull) (h1 : s ≠ tTrue) (h2 : s ≠ tFalse) (hx : s.head? ≠ some 120) (hq : s.head? ≠ some 34) (hl : s.getLast? ≠ some 117) (h : ∀ m, m < M64 → s = itxt m → n = m) : Reads s ⟨1, n, []⟩ := fun u hu hM e => by
  rcases text_kinds u hu hM with ⟨_, t⟩ | ⟨_, t⟩ | ⟨_, t⟩ | ⟨_, t⟩ | ⟨_, t⟩ | ⟨_, t⟩ | ⟨eu, t⟩
  · exact absurd (e.symm.trans t) h0
  · exact absurd (e.symm.trans t) h1
  · exact absurd (e.symm.trans t) h2
  · rw [← e, t] at hx; simp at hx
  · rw [← e, t] at hq; simp at hq
  · rw [← e, t] at hl; simp at hl
  · rw [eu, h _ hM (e.symm.trans t)]

/-- What is read of a text, and held against its own text, is what the document says. -/
theorem vparse_reads {s : List UInt8} {v : Vl} (hr : Reads s v) (hN : v.N < M64) (hs : s ≠ []) : vparse s = if vtext v = s then (v, 0) else (⟨0, 0, []⟩, 2) := by
  by_cases h : vtext v = s
  · rw [if_pos h]
    have hv : v.okB = true := by
      cases e : v.okB with
      | true => rfl
      | false => exact absurd (h.symm.trans ((vtext_nil v).2 e)) hs
    exact vparse_text hv hN h
  · rw [if_neg h]
    exact vparse_none (fun u hu hM e => h (by rw [hr u hu hM e]; exact e)) (guess_lt s)

end Go.Proofs.YtpedcpehomkikaaDoor
