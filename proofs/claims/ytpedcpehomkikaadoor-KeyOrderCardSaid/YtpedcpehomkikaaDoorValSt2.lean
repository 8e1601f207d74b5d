/-
  Texts of values, there and back (pure, for stage 6).
-/
import Derived.Test.YtpedcpehomkikaaDoorValSt
namespace Go.Proofs.YtpedcpehomkikaaDoor
set_option linter.unusedVariables false
set_option linter.unusedSimpArgs false
set_option maxRecDepth 100000

def M64 : Nat := 18446744073709551616
/-- The decimal digits of a number. -/
def dig (n : Nat) : List UInt8 := if h : n < 10 then [UInt8.ofNat (48 + n)] else dig (n / 10) ++ [UInt8.ofNat (48 + n % 10)]
termination_by n
decreasing_by omega
def stepM (x : Nat) (c : UInt8) : Nat := (x * 10 + c.toNat + (M64 - 48)) % M64
def numM (l : List UInt8) : Nat := l.foldl stepM 0
def hexd (i : Nat) : UInt8 := if i < 10 then UInt8.ofNat (48 + i) else UInt8.ofNat (87 + i)
def half (c : UInt8) : Nat := if 48 ≤ c.toNat ∧ c.toNat ≤ 57 then c.toNat - 48 else if 97 ≤ c.toNat ∧ c.toNat ≤ 102 then c.toNat - 87 else 16
def hexB : List UInt8 → List UInt8
  | [] => []
  | c :: r => hexd (c.toNat / 16) :: hexd (c.toNat % 16) :: hexB r
def escd (c : UInt8) : Bool := decide (c.toNat < 33) || (decide (126 < c.toNat) || (decide (c.toNat = 34) || decide (c.toNat = 92)))
def escB : List UInt8 → List UInt8
  | [] => []
  | c :: r => if escd c = true then 92 :: hexd (c.toNat / 16) :: hexd (c.toNat % 16) :: escB r else c :: escB r
def un16 (a b : UInt8) : UInt8 := UInt8.ofNat (half a * 16 + half b)
def unhex : List UInt8 → List UInt8
  | a :: b :: r => un16 a b :: unhex r
  | _ => []
def unesc : List UInt8 → List UInt8
  | c :: a :: b :: r => if c.toNat = 92 then un16 a b :: unesc r else c :: unesc (a :: b :: r)
  | c :: [_] => [c]
  | _ => []
def tNull : List UInt8 := [110, 117, 108, 108]
def tTrue : List UInt8 := [116, 114, 117, 101]
def tFalse : List UInt8 := [102, 97, 108, 115, 101]
def vtext (v : Vl) : List UInt8 :=
  if v.okB = false then []
  else if v.K = 0 then tNull
  else if v.K = 1 then (if sgn v.N < 0 then 45 :: dig (M64 - v.N) else dig v.N)
  else if v.K = 2 then dig v.N ++ [117]
  else if v.K = 3 then (if v.N = 1 then tTrue else tFalse)
  else if v.K = 4 then 120 :: hexB v.S
  else 34 :: (escB v.S ++ [34])
def guessN (s : List UInt8) : Vl :=
  if s.getLast? = some 117 then ⟨2, numM (s.dropLast.take 30), []⟩
  else if s.head? = some 45 then ⟨1, (M64 - numM ((s.take 30).drop 1)) % M64, []⟩
  else ⟨1, numM (s.take 30), []⟩
def guess (s : List UInt8) : Vl :=
  if s = tTrue ∨ s = tFalse then ⟨3, if s = tTrue then 1 else 0, []⟩
  else if s.head? = some 120 then ⟨4, 0, unhex (s.drop 1)⟩
  else if 1 < s.length ∧ s.head? = some 34 then ⟨5, 0, unesc (s.drop 1)⟩
  else if s = tNull then ⟨0, 0, []⟩
  else guessN s
def vparse (s : List UInt8) : Vl × Int := if s = [] ∨ vtext (guess s) ≠ s then (⟨0, 0, []⟩, 2) else (guess s, 0)

theorem half_hexd : ∀ i : Fin 16, half (hexd i) = i := by decide
theorem half_hex {i : Nat} (h : i < 16) : half (hexd i) = i := half_hexd ⟨i, h⟩
theorem un16_hex (c : UInt8) : un16 (hexd (c.toNat / 16)) (hexd (c.toNat % 16)) = c := by
  have h := UInt8.toNat_lt c
  unfold un16
  rw [half_hex (by omega), half_hex (by omega)]
  apply UInt8.toNat_inj.1
  simp
  omega
theorem unhex_hex : ∀ l, unhex (hexB l) = l
  | [] => rfl
  | c :: r => by rw [hexB, unhex, un16_hex, unhex_hex r]
theorem esc_len : ∀ l, 0 < l.length → 0 < (escB l).length
  | [], h => by simp at h
  | c :: r, _ => by rw [escB]; split <;> simp
theorem unesc_esc : ∀ l, unesc (escB l ++ [34]) = l
  | [] => rfl
  | c :: r => by
    rw [escB]
    by_cases h : escd c = true
    · rw [if_pos h]
      show unesc (92 :: hexd (c.toNat / 16) :: hexd (c.toNat % 16) :: (escB r ++ [34])) = _
      rw [unesc, if_pos (by decide), un16_hex, unesc_esc r]
    · rw [if_neg h]
      have hc : ¬ c.toNat = 92 := fun e => h (by unfold escd; simp [e])
      show unesc (c :: (escB r ++ [34])) = _
      have ih := unesc_esc r
      cases he : escB r ++ [34] with
      | nil => simp at he
      | cons a t =>
        cases t with
        | nil =>
          cases r with
          | nil => rfl
          | cons d r' =>
            exfalso
            have := esc_len (d :: r') (by simp)
            have h2 := congrArg List.length he
            simp at h2
            have h3 : (escB (d :: r')).length = 0 := by rw [h2]; rfl
            omega
        | cons b t' =>
          rw [unesc, if_neg hc, ← he, ih]

theorem dig_lo {n : Nat} (h : n < 10) : dig n = [UInt8.ofNat (48 + n)] := by rw [dig]; simp [h]
theorem dig_hi {n : Nat} (h : ¬ n < 10) : dig n = dig (n / 10) ++ [UInt8.ofNat (48 + n % 10)] := by rw [dig]; simp [h]
theorem ofNat_dig {i : Nat} (h : i < 10) : (UInt8.ofNat (48 + i)).toNat = 48 + i := by simp; omega
theorem dig_all (n : Nat) : ∀ c ∈ dig n, 48 ≤ c.toNat ∧ c.toNat ≤ 57 := by
  induction n using Nat.strongRecOn with
  | ind n ih =>
    by_cases h : n < 10
    · rw [dig_lo h]
      intro c hc
      rw [List.mem_singleton.1 hc, ofNat_dig h]
      omega
    · rw [dig_hi h]
      intro c hc
      rcases List.mem_append.1 hc with hc | hc
      · exact ih (n / 10) (by omega) c hc
      · rw [List.mem_singleton.1 hc, ofNat_dig (by omega)]
        omega
theorem dig_ne (n : Nat) : dig n ≠ [] := by
  by_cases h : n < 10
  · rw [dig_lo h]; simp
  · rw [dig_hi h]; simp
theorem foldl_snoc {α β : Type} (f : α → β → α) (a : α) (l : List β) (c : β) : (l ++ [c]).foldl f a = f (l.foldl f a) c := by simp
theorem numM_snoc (l : List UInt8) (c : UInt8) : numM (l ++ [c]) = stepM (numM l) c := foldl_snoc stepM 0 l c
theorem M64_pos : 0 < M64 := by unfold M64; omega
theorem numM_lt (l : List UInt8) : numM l < M64 := by
  rcases List.eq_nil_or_concat l with rfl | ⟨l', c, rfl⟩
  · exact M64_pos
  · rw [List.concat_eq_append, numM_snoc]; unfold stepM; exact Nat.mod_lt _ M64_pos
theorem numM_dig (n : Nat) (hn : n < M64) : numM (dig n) = n := by
  induction n using Nat.strongRecOn with
  | ind n ih =>
    unfold M64 at hn
    by_cases h : n < 10
    · rw [dig_lo h, ← List.nil_append [UInt8.ofNat (48 + n)], numM_snoc]
      unfold stepM
      rw [ofNat_dig h]
      show (0 * 10 + (48 + n) + (M64 - 48)) % M64 = n
      unfold M64
      omega
    · rw [dig_hi h, numM_snoc, ih (n / 10) (by omega) (by unfold M64; omega)]
      unfold stepM
      rw [ofNat_dig (by omega)]
      unfold M64
      omega
theorem dig_length : ∀ (k n : Nat), n < 10 ^ (k + 1) → (dig n).length ≤ k + 1
  | 0, n, h => by rw [dig_lo (by simpa using h)]; simp
  | k + 1, n, h => by
    by_cases h1 : n < 10
    · rw [dig_lo h1]; simp
    · rw [dig_hi h1, List.length_append, List.length_singleton]
      have : n / 10 < 10 ^ (k + 1) := by rw [Nat.pow_succ] at h; omega
      have := dig_length k (n / 10) this
      omega
theorem dig_len20 {n : Nat} (h : n ≤ M64) : (dig n).length ≤ 20 := dig_length 19 n (by unfold M64 at h; omega)
theorem dig_head (n : Nat) : ∃ c r, dig n = c :: r ∧ 48 ≤ c.toNat ∧ c.toNat ≤ 57 := by
  cases h : dig n with
  | nil => exact (dig_ne n h).elim
  | cons c r => exact ⟨c, r, rfl, dig_all n c (by rw [h]; simp)⟩
theorem dig_last (n : Nat) : ∃ c r, dig n = r ++ [c] ∧ 48 ≤ c.toNat ∧ c.toNat ≤ 57 := by
  rcases List.eq_nil_or_concat (dig n) with h | ⟨r, c, h⟩
  · exact (dig_ne n h).elim
  · rw [List.concat_eq_append] at h
    exact ⟨c, r, h, dig_all n c (by rw [h]; simp)⟩
theorem byte_ne {c : UInt8} {k : Nat} (d : UInt8) (hd : d.toNat = k) (h : c.toNat ≠ k) : c ≠ d := fun e => h (by rw [e, hd])

theorem guess_num (s : List UInt8) (c : UInt8) (r : List UInt8) (hs : s = c :: r) (hc : c.toNat = 45 ∨ 48 ≤ c.toNat ∧ c.toNat ≤ 57) : guess s = guessN s := by
  have n1 : c ≠ 116 := byte_ne (k := 116) _ rfl (by omega)
  have n2 : c ≠ 102 := byte_ne (k := 102) _ rfl (by omega)
  have n3 : c ≠ 120 := byte_ne (k := 120) _ rfl (by omega)
  have n4 : c ≠ 34 := byte_ne (k := 34) _ rfl (by omega)
  have n5 : c ≠ 110 := byte_ne (k := 110) _ rfl (by omega)
  subst hs
  unfold guess
  rw [if_neg (by simp [tTrue, tFalse, n1, n2]), if_neg (by simp [n3]), if_neg (by simp [n4]), if_neg (by simp [tNull, n5])]

theorem guess_text (v : Vl) (hv : v.okB = true) (hN : v.N < M64) : guess (vtext v) = v := by
  obtain ⟨K, N, S⟩ := v
  have hv0 := hv
  unfold vtext
  rw [if_neg (by rw [hv0]; decide)]
  simp only at hN ⊢
  by_cases k0 : K = 0
  · subst k0
    simp [Vl.okB] at hv
    rw [if_pos rfl, hv.1, hv.2]
    decide
  rw [if_neg k0]
  by_cases k1 : K = 1
  · subst k1
    simp [Vl.okB] at hv
    subst hv
    rw [if_pos rfl]
    by_cases hs : sgn N < 0
    · rw [if_pos hs]
      have hN2 : 9223372036854775808 ≤ N := by unfold sgn at hs; split at hs <;> omega
      obtain ⟨c, r, hd, hc⟩ := dig_last (M64 - N)
      have hlen := dig_len20 (n := M64 - N) (by omega)
      rw [guess_num _ 45 _ rfl (.inl rfl)]
      unfold guessN
      have hl : (45 :: dig (M64 - N)).getLast? = some c := by rw [hd]; show ((45 :: r) ++ [c]).getLast? = _; exact List.getLast?_concat
      rw [hl, if_neg (by simp; exact byte_ne (k := 117) _ rfl (by omega)), if_pos (by simp)]
      rw [List.take_of_length_le (by simp; omega)]
      simp only [List.drop_succ_cons, List.drop_zero]
      rw [numM_dig _ (by unfold M64 at *; omega)]
      congr 1
      unfold M64 at *
      omega
    · rw [if_neg hs]
      obtain ⟨c, r, hd, hc⟩ := dig_last N
      obtain ⟨a, t, ha, hac⟩ := dig_head N
      have hlen := dig_len20 (n := N) (by omega)
      rw [guess_num _ a t ha (.inr hac)]
      unfold guessN
      have hl : (dig N).getLast? = some c := by rw [hd]; simp
      have hh : (dig N).head? = some a := by rw [ha]; rfl
      rw [hl, if_neg (by simp; exact byte_ne (k := 117) _ rfl (by omega)), hh, if_neg (by simp; exact byte_ne (k := 45) _ rfl (by omega))]
      rw [List.take_of_length_le (by omega), numM_dig _ hN]
  rw [if_neg k1]
  by_cases k2 : K = 2
  · subst k2
    simp [Vl.okB] at hv
    subst hv
    rw [if_pos rfl]
    obtain ⟨a, t, ha, hac⟩ := dig_head N
    have hlen := dig_len20 (n := N) (by omega)
    rw [guess_num _ a (t ++ [117]) (by rw [ha]; rfl) (.inr hac)]
    unfold guessN
    rw [if_pos (by simp), List.dropLast_concat, List.take_of_length_le (by omega), numM_dig _ hN]
  rw [if_neg k2]
  by_cases k3 : K = 3
  · subst k3
    simp [Vl.okB] at hv
    obtain ⟨h1, rfl⟩ := hv
    rw [if_pos rfl]
    have : N = 0 ∨ N = 1 := by omega
    rcases this with rfl | rfl
    · decide
    · decide
  rw [if_neg k3]
  by_cases k4 : K = 4
  · subst k4
    simp [Vl.okB] at hv
    rw [if_pos rfl]
    unfold guess
    rw [if_neg (by simp [tTrue, tFalse]), if_pos (by simp)]
    simp only [List.drop_succ_cons, List.drop_zero]
    rw [unhex_hex, hv.1]
  rw [if_neg k4]
  have k5 : K = 5 := by
    simp only [Vl.okB, if_neg k0, if_neg k3, if_neg k4] at hv
    rw [if_neg (by omega)] at hv
    by_cases e : K = 5
    · exact e
    · rw [if_neg e] at hv; cases hv
  subst k5
  simp [Vl.okB] at hv
  unfold guess
  rw [if_neg (by simp [tTrue, tFalse]), if_neg (by simp), if_pos (by simp)]
  simp only [List.drop_succ_cons, List.drop_zero]
  rw [unesc_esc, hv.1]

theorem vtext_ne (v : Vl) (hv : v.okB = true) : vtext v ≠ [] := by
  unfold vtext
  rw [if_neg (by rw [hv]; decide)]
  split
  · decide
  split
  · split
    · simp
    · exact dig_ne _
  split
  · simp
  split
  · split <;> decide
  split <;> simp
theorem vtext_nil (v : Vl) : vtext v = [] ↔ v.okB = false := by
  cases h : v.okB with
  | true => simp [vtext_ne v h]
  | false => simp [vtext, h]
theorem vtext_inj {v u : Vl} (hv : v.okB = true) (hN : v.N < M64) (hM : u.N < M64) (h : vtext v = vtext u) : v = u := by
  have hu : u.okB = true := by
    cases e : u.okB with
    | true => rfl
    | false => exact (vtext_ne v hv (h.trans ((vtext_nil u).2 e))).elim
  rw [← guess_text v hv hN, h, guess_text u hu hM]
/-- What a text is read as: the value whose text it is, if there is one. -/
theorem vparse_text {v : Vl} (hv : v.okB = true) (hN : v.N < M64) {s : List UInt8} (hs : vtext v = s) : vparse s = (v, 0) := by
  subst hs
  unfold vparse
  rw [guess_text v hv hN, if_neg (fun h => h.elim (vtext_ne v hv) (fun h => h rfl))]
theorem vparse_none {s : List UInt8} (h : ∀ v : Vl, v.okB = true → v.N < M64 → vtext v ≠ s) (hN : (guess s).N < M64) : vparse s = (⟨0, 0, []⟩, 2) := by
  unfold vparse
  by_cases h0 : s = []
  · rw [if_pos (.inl h0)]
  · have hne : vtext (guess s) ≠ s := fun e => by
      cases hk : (guess s).okB with
      | true => exact h _ hk hN e
      | false => exact h0 (e.symm.trans ((vtext_nil _).2 hk))
    rw [if_pos (.inr hne)]
theorem guess_lt (s : List UInt8) : (guess s).N < M64 := by
  unfold guess
  split
  · show (if _ then _ else _) < M64
    split <;> (unfold M64; omega)
  split
  · exact M64_pos
  split
  · exact M64_pos
  split
  · exact M64_pos
  unfold guessN
  split
  · exact numM_lt _
  split
  · exact Nat.mod_lt _ M64_pos
  · exact numM_lt _
/-- A way to read texts that answers the value whose text it is, and else an error, is this one. -/
theorem vparse_is {s : List UInt8} {v : Vl} {e : Int} (h0 : e = 0 → v.okB = true ∧ v.N < M64 ∧ vtext v = s) (h1 : e ≠ 0 → e = 2 ∧ v = ⟨0, 0, []⟩ ∧ ∀ u : Vl, u.okB = true → u.N < M64 → vtext u ≠ s) : vparse s = (v, e) := by
  by_cases he : e = 0
  · obtain ⟨a, b, c⟩ := h0 he
    rw [he]
    exact vparse_text a b c
  · obtain ⟨a, b, c⟩ := h1 he
    rw [a, b]
    exact vparse_none c (guess_lt s)

end Go.Proofs.YtpedcpehomkikaaDoor
