/-
  Valid UTF-8 said twice: the document's reckoning (by numbers of runes) and the library's (by tables) are one (pure).
-/
import Derived.Test.YtpedcpehomkikaaDoorValSt
import Derived.Lib.ValidLaws
namespace Go.Proofs.YtpedcpehomkikaaDoor
set_option linter.unusedVariables false
set_option linter.unusedSimpArgs false
set_option maxRecDepth 100000
set_option linter.unusedSimpArgs false
open Go.Lib (checkN firstT accLo accHi validD validD_cons validD_lead validD_nil)

/-- Behind a first byte from 128 on. -/
def u8tail (r : List UInt8) (n low x0 : Nat) : Nat :=
  if r.length + 1 < n then 0
  else if ((r.take (n - 1)).all fun d => decide (128 ≤ d.toNat) && decide (d.toNat < 192)) = true then
    (if (r.take (n - 1)).foldl (fun x d => x * 64 + d.toNat - 128) x0 < low ∨ 1114111 < (r.take (n - 1)).foldl (fun x d => x * 64 + d.toNat - 128) x0 ∨ (55296 ≤ (r.take (n - 1)).foldl (fun x d => x * 64 + d.toNat - 128) x0 ∧ (r.take (n - 1)).foldl (fun x d => x * 64 + d.toNat - 128) x0 < 57344) then 0 else n)
  else 0
theorem u8len2 (c : UInt8) (r : List UInt8) (h1 : 194 ≤ c.toNat) (h2 : c.toNat < 224) : u8len (c :: r) = u8tail r 2 128 (c.toNat - 192) := by
  have h : ¬ c.toNat < 128 := by omega
  simp only [u8len, u8tail, if_neg h, if_pos (show 194 ≤ c.toNat ∧ c.toNat < 224 from ⟨h1, h2⟩), if_true]
  by_cases hl : r.length + 1 < 2
  · rw [if_pos (.inr hl), if_pos hl]
  · rw [if_neg (by omega), if_neg hl]
theorem u8len3 (c : UInt8) (r : List UInt8) (h1 : 224 ≤ c.toNat) (h2 : c.toNat < 240) : u8len (c :: r) = u8tail r 3 2048 (c.toNat - 224) := by
  have h : ¬ c.toNat < 128 := by omega
  simp only [u8len, u8tail, if_neg h, if_neg (show ¬ (194 ≤ c.toNat ∧ c.toNat < 224) by omega), if_pos (show 224 ≤ c.toNat ∧ c.toNat < 240 from ⟨h1, h2⟩), if_true, if_neg (show ¬ (3 : Nat) = 2 by decide)]
  by_cases hl : r.length + 1 < 3
  · rw [if_pos (.inr hl), if_pos hl]
  · rw [if_neg (by omega), if_neg hl]
theorem u8len4 (c : UInt8) (r : List UInt8) (h1 : 240 ≤ c.toNat) (h2 : c.toNat < 245) : u8len (c :: r) = u8tail r 4 65536 (c.toNat - 240) := by
  have h : ¬ c.toNat < 128 := by omega
  simp only [u8len, u8tail, if_neg h, if_neg (show ¬ (194 ≤ c.toNat ∧ c.toNat < 224) by omega), if_neg (show ¬ (224 ≤ c.toNat ∧ c.toNat < 240) by omega), if_pos (show 240 ≤ c.toNat ∧ c.toNat < 245 from ⟨h1, h2⟩), if_neg (show ¬ (4 : Nat) = 2 by decide), if_neg (show ¬ (4 : Nat) = 3 by decide)]
  by_cases hl : r.length + 1 < 4
  · rw [if_pos (.inr hl), if_pos hl]
  · rw [if_neg (by omega), if_neg hl]
theorem u8len0 (c : UInt8) (r : List UInt8) (h1 : 128 ≤ c.toNat) (h2 : c.toNat < 194 ∨ 245 ≤ c.toNat) : u8len (c :: r) = 0 := by
  have h : ¬ c.toNat < 128 := by omega
  simp only [u8len, if_neg h, if_neg (show ¬ (194 ≤ c.toNat ∧ c.toNat < 224) by omega), if_neg (show ¬ (224 ≤ c.toNat ∧ c.toNat < 240) by omega), if_neg (show ¬ (240 ≤ c.toNat ∧ c.toNat < 245) by omega), true_or, if_true]
theorem u8len1 (c : UInt8) (r : List UInt8) (h1 : c.toNat < 128) : u8len (c :: r) = 1 := by
  simp only [u8len, if_pos h1]

def okN (n b1 b2 b3 sz lo hi : Nat) : Nat := match checkN n b1 b2 b3 sz lo hi with | none => 0 | some k => k
theorem tail2 (r : List UInt8) (x0 : Nat) (hx : 2 ≤ x0) (hx2 : x0 < 32) : u8tail r 2 128 x0 = okN (r.length + 1) (r.getD 0 0).toNat (r.getD 1 0).toNat (r.getD 2 0).toNat 2 128 191 := by
  cases r with
  | nil => simp [u8tail, okN, checkN]
  | cons a t =>
    simp only [u8tail, okN, checkN, List.length_cons, List.take_succ_cons, List.take_zero, List.all_cons, List.all_nil, List.foldl_cons, List.foldl_nil, List.getD_cons_zero, if_true, Bool.and_true, Bool.and_eq_true, decide_eq_true_eq, Nat.succ_sub_succ_eq_sub, Nat.sub_zero]
    rw [if_neg (show ¬ t.length + 1 + 1 < 2 by omega)]
    by_cases h : 128 ≤ a.toNat ∧ a.toNat < 192
    · rw [if_pos h, if_neg (by omega), if_neg (by omega)]
    · rw [if_neg h, if_pos (by omega)]
theorem tail3 (r : List UInt8) (x0 lo hi : Nat) (hx2 : x0 < 16) (hlo : lo = if x0 = 0 then 160 else 128) (hhi : hi = if x0 = 13 then 159 else 191) :
    u8tail r 3 2048 x0 = okN (r.length + 1) (r.getD 0 0).toNat (r.getD 1 0).toNat (r.getD 2 0).toNat 3 lo hi := by
  match r with
  | [] => simp [u8tail, okN, checkN]
  | [a] => simp [u8tail, okN, checkN]
  | a :: b :: t =>
    simp only [u8tail, okN, checkN, List.length_cons, List.take_succ_cons, List.take_zero, List.all_cons, List.all_nil, List.foldl_cons, List.foldl_nil, List.getD_cons_zero, List.getD_cons_succ, if_true, Bool.and_true, Bool.and_eq_true, decide_eq_true_eq, Nat.succ_sub_succ_eq_sub, Nat.sub_zero, if_neg (show ¬ (3 : Nat) = 2 by decide)]
    rw [if_neg (show ¬ t.length + 1 + 1 + 1 < 3 by omega)]
    by_cases h : (128 ≤ a.toNat ∧ a.toNat < 192) ∧ 128 ≤ b.toNat ∧ b.toNat < 192
    · rw [if_pos h]
      by_cases h2 : lo ≤ a.toNat ∧ a.toNat ≤ hi
      · rw [if_neg (by split at hlo <;> split at hhi <;> omega), if_neg (by omega)]
      · rw [if_pos (by split at hlo <;> split at hhi <;> omega), if_pos (by omega)]
    · rw [if_neg h, if_pos (by split at hlo <;> split at hhi <;> omega)]
theorem tail4 (r : List UInt8) (x0 lo hi : Nat) (hx2 : x0 < 5) (hlo : lo = if x0 = 0 then 144 else 128) (hhi : hi = if x0 = 4 then 143 else 191) :
    u8tail r 4 65536 x0 = okN (r.length + 1) (r.getD 0 0).toNat (r.getD 1 0).toNat (r.getD 2 0).toNat 4 lo hi := by
  match r with
  | [] => simp [u8tail, okN, checkN]
  | [a] => simp [u8tail, okN, checkN]
  | [a, b] => simp [u8tail, okN, checkN]
  | a :: b :: d :: t =>
    simp only [u8tail, okN, checkN, List.length_cons, List.take_succ_cons, List.take_zero, List.all_cons, List.all_nil, List.foldl_cons, List.foldl_nil, List.getD_cons_zero, List.getD_cons_succ, if_true, Bool.and_true, Bool.and_eq_true, decide_eq_true_eq, Nat.succ_sub_succ_eq_sub, Nat.sub_zero, if_neg (show ¬ (4 : Nat) = 2 by decide), if_neg (show ¬ (4 : Nat) = 3 by decide)]
    rw [if_neg (show ¬ t.length + 1 + 1 + 1 + 1 < 4 by omega)]
    by_cases h : (128 ≤ a.toNat ∧ a.toNat < 192) ∧ (128 ≤ b.toNat ∧ b.toNat < 192) ∧ 128 ≤ d.toNat ∧ d.toNat < 192
    · rw [if_pos h]
      by_cases h2 : lo ≤ a.toNat ∧ a.toNat ≤ hi
      · rw [if_neg (by split at hlo <;> split at hhi <;> omega), if_neg (by omega)]
      · rw [if_pos (by split at hlo <;> split at hhi <;> omega), if_pos (by omega)]
    · rw [if_neg h, if_pos (by split at hlo <;> split at hhi <;> omega)]

theorem u8len_check (c : UInt8) (r : List UInt8) (h : 128 ≤ c.toNat) :
    u8len (c :: r) = okN (r.length + 1) (r.getD 0 0).toNat (r.getD 1 0).toNat (r.getD 2 0).toNat (firstT c.toNat % 8) (accLo (firstT c.toNat / 16)) (accHi (firstT c.toNat / 16)) := by
  have hc := c.toNat_lt
  have n0 : ¬ c.toNat < 128 := by omega
  by_cases c1 : c.toNat < 194
  · rw [u8len0 c r h (.inl c1)]; simp [firstT, n0, c1, okN, checkN]
  by_cases c2 : c.toNat < 224
  · rw [u8len2 c r (by omega) c2, tail2 r _ (by omega) (by omega)]; simp [firstT, n0, c1, c2, accLo, accHi]
  by_cases c3 : c.toNat = 224
  · rw [u8len3 c r (by omega) (by omega), tail3 r _ 160 191 (by omega) (by rw [if_pos (by omega)]) (by rw [if_neg (by omega)])]; simp [firstT, c3, accLo, accHi]
  by_cases c4 : c.toNat < 237
  · rw [u8len3 c r (by omega) (by omega), tail3 r _ 128 191 (by omega) (by rw [if_neg (by omega)]) (by rw [if_neg (by omega)])]; simp [firstT, n0, c1, c2, c3, c4, accLo, accHi]
  by_cases c5 : c.toNat = 237
  · rw [u8len3 c r (by omega) (by omega), tail3 r _ 128 159 (by omega) (by rw [if_neg (by omega)]) (by rw [if_pos (by omega)])]; simp [firstT, c5, accLo, accHi]
  by_cases c6 : c.toNat < 240
  · rw [u8len3 c r (by omega) (by omega), tail3 r _ 128 191 (by omega) (by rw [if_neg (by omega)]) (by rw [if_neg (by omega)])]; simp [firstT, n0, c1, c2, c3, c4, c5, c6, accLo, accHi]
  by_cases c7 : c.toNat = 240
  · rw [u8len4 c r (by omega) (by omega), tail4 r _ 144 191 (by omega) (by rw [if_pos (by omega)]) (by rw [if_neg (by omega)])]; simp [firstT, c7, accLo, accHi]
  by_cases c8 : c.toNat < 244
  · rw [u8len4 c r (by omega) (by omega), tail4 r _ 128 191 (by omega) (by rw [if_neg (by omega)]) (by rw [if_neg (by omega)])]; simp [firstT, n0, c1, c2, c3, c4, c5, c6, c7, c8, accLo, accHi]
  by_cases c9 : c.toNat = 244
  · rw [u8len4 c r (by omega) (by omega), tail4 r _ 128 143 (by omega) (by rw [if_neg (by omega)]) (by rw [if_pos (by omega)])]; simp [firstT, c9, accLo, accHi]
  · rw [u8len0 c r h (.inr (by omega))]; simp [firstT, n0, c1, c2, c3, c4, c5, c6, c7, c8, c9, okN, checkN]

theorem checkN_pos {n b1 b2 b3 sz lo hi k : Nat} (h : checkN n b1 b2 b3 sz lo hi = some k) : 0 < k ∧ k ≤ n := by
  unfold checkN at h
  repeat' split at h
  all_goals first | (cases h; omega) | (cases h)
theorem valid_utf8F : ∀ (f : Nat) (l : List UInt8), l.length ≤ f → validD l = utf8F f l
  | 0, [], _ => rfl
  | 0, _ :: _, h => by simp at h
  | f + 1, [], _ => rfl
  | f + 1, c :: r, h => by
    show validD (c :: r) = if u8len (c :: r) = 0 then false else utf8F f ((c :: r).drop (u8len (c :: r)))
    by_cases hc : c.toNat < 128
    · rw [validD_cons c r hc, u8len1 c r hc, if_neg (by decide)]
      exact valid_utf8F f r (by simpa using h)
    · rw [validD_lead (c :: r) (by simp) (by simpa using hc)]
      have hk := u8len_check c r (by omega)
      simp only [List.length_cons, List.getD_cons_zero, List.getD_cons_succ]
      unfold okN at hk
      cases hcheck : checkN (r.length + 1) (r.getD 0 0).toNat (r.getD 1 0).toNat (r.getD 2 0).toNat (firstT c.toNat % 8) (accLo (firstT c.toNat / 16)) (accHi (firstT c.toNat / 16)) with
      | none => rw [hcheck] at hk; rw [if_pos hk]
      | some k =>
        rw [hcheck] at hk
        have := checkN_pos hcheck
        simp only at hk ⊢
        rw [hk, if_neg (by omega)]
        exact valid_utf8F f _ (by simp only [List.length_drop, List.length_cons] at *; omega)
theorem utf8_valid (l : List UInt8) : validD l = utf8B l := valid_utf8F l.length l (Nat.le_refl _)

end Go.Proofs.YtpedcpehomkikaaDoor
