/-
  Keys of lists of values: read back, in order, none in front of another (pure, for stage 7).
-/
import Derived.Test.YtpedcpehomkikaaDoorKeySt
namespace Go.Proofs.YtpedcpehomkikaaDoor
open Go Go.RowKit
set_option linter.unusedVariables false
set_option linter.unusedSimpArgs false
set_option maxRecDepth 100000

/-! ### A value at the front -/
def txtK : List UInt8 → Option (List UInt8 × List UInt8)
  | [] => none
  | b :: r => if b = 0 then
      (match r with
       | [] => none
       | m :: q => if m = 0 then some ([], q) else if m = 255 then (txtK q).map (fun x => (0 :: x.1, x.2)) else none)
    else (txtK r).map (fun x => (b :: x.1, x.2))
theorem txtK_zero (m : UInt8) (q : List UInt8) : txtK (0 :: m :: q) = if m = 0 then some ([], q) else if m = 255 then (txtK q).map (fun x => (0 :: x.1, x.2)) else none := by
  rw [txtK.eq_def]; rfl
theorem txtK_own {b : UInt8} (h : b ≠ 0) (r : List UInt8) : txtK (b :: r) = (txtK r).map (fun x => (b :: x.1, x.2)) := by
  rw [txtK.eq_def]; simp only [if_neg h]
theorem txtK_esc : ∀ (s r : List UInt8), txtK (escK s ++ [0, 0] ++ r) = some (s, r)
  | [], r => by
    show txtK (0 :: 0 :: r) = _
    rw [txtK_zero, if_pos rfl]
  | b :: s, r => by
    have ih := txtK_esc s r
    rw [escK]
    by_cases h : b = 0
    · rw [if_pos h]
      show txtK (0 :: 255 :: (escK s ++ [0, 0] ++ r)) = _
      rw [txtK_zero, if_neg (by decide), if_pos rfl, ih, h]
      rfl
    · rw [if_neg h]
      show txtK (b :: (escK s ++ [0, 0] ++ r)) = _
      rw [txtK_own h, ih]
      rfl
theorem esc_txtK (u s q : List UInt8) (h : txtK u = some (s, q)) : u = escK s ++ [0, 0] ++ q := by
  induction u using txtK.induct generalizing s q with
  | case1 => simp [txtK] at h
  | case2 => simp [txtK] at h
  | case3 q' =>
    rw [txtK_zero, if_pos rfl] at h
    simp only [Option.some.injEq, Prod.mk.injEq] at h
    obtain ⟨rfl, rfl⟩ := h
    rfl
  | case4 q' hm ih =>
    rw [txtK_zero, if_neg hm, if_pos rfl] at h
    obtain ⟨⟨s', q''⟩, h1, h2⟩ := Option.map_eq_some_iff.1 h
    simp only [Prod.mk.injEq] at h2
    obtain ⟨rfl, rfl⟩ := h2
    rw [ih _ _ h1]
    simp [escK]
  | case5 m q' h1 h2 =>
    rw [txtK_zero, if_neg h1, if_neg h2] at h
    cases h
  | case6 b r hb ih =>
    rw [txtK_own hb] at h
    obtain ⟨⟨s', q''⟩, h1, h2⟩ := Option.map_eq_some_iff.1 h
    simp only [Prod.mk.injEq] at h2
    obtain ⟨rfl, rfl⟩ := h2
    rw [ih _ _ h1]
    simp [escK, hb]
theorem txtK_length {u s q : List UInt8} (h : txtK u = some (s, q)) : s.length ≤ u.length ∧ q.length ≤ u.length := by
  have e := esc_txtK u s q h
  have : ∀ l : List UInt8, l.length ≤ (escK l).length := by
    intro l
    induction l with
    | nil => simp
    | cons b r ih =>
      rw [escK]
      split <;> simp only [List.length_cons] <;> omega
  have := this s
  rw [e]
  simp only [List.length_append]
  omega

/-- What stands behind the byte 1 for a value of a kind; it may be no value. -/
def raw1 (k : Int) (r : List UInt8) : Option (Vl × List UInt8) :=
  if k = 1 ∨ k = 2 then (if r.length < 8 then none else some (⟨k, if k = 1 then flipN (numB (r.take 8)) else numB (r.take 8), []⟩, r.drop 8))
  else if k = 3 then (match r with | [] => none | b :: q => some (⟨3, b.toNat, []⟩, q))
  else (txtK r).map fun x => (⟨k, 0, x.1⟩, x.2)
def okV (o : Option (Vl × List UInt8)) : Option (Vl × List UInt8) := match o with | none => none | some x => if x.1.okB = true then some x else none
def val1 (k : Int) (u : List UInt8) : Option (Vl × List UInt8) :=
  match u with
  | [] => none
  | b :: r => if b = 0 then some (⟨0, 0, []⟩, r) else if b = 1 then okV (raw1 k r) else none
theorem okV_some {o : Option (Vl × List UInt8)} {x : Vl × List UInt8} : okV o = some x ↔ o = some x ∧ x.1.okB = true := by
  unfold okV
  cases o with
  | none => simp
  | some y =>
    by_cases h : y.1.okB = true
    · simp only [if_pos h, Option.some.injEq]
      constructor
      · rintro rfl; exact ⟨rfl, h⟩
      · rintro ⟨rfl, _⟩; rfl
    · simp only [if_neg h]
      constructor
      · intro e; cases e
      · rintro ⟨e, e2⟩
        simp only [Option.some.injEq] at e
        subst e
        exact absurd e2 h
theorem pow8 : (256 : Nat) ^ 8 = 18446744073709551616 := by decide
theorem val1_kb {v : Vl} {k : Int} (h : v.good) (hk : v.K = k ∨ v.K = 0) (r : List UInt8) : val1 k (kb0 v ++ r) = some (v, r) := by
  obtain ⟨h, hN⟩ := h
  by_cases h0 : v.K = 0
  · have hz : v = ⟨0, 0, []⟩ := by
      rcases ok_kinds h with ⟨e, e1, e2⟩ | ⟨e, _⟩ | ⟨e, _⟩ | ⟨e, _⟩
      · exact vl_ext e e1 e2
      all_goals omega
    have e : kb0 v = [0] := by unfold kb0; rw [if_pos h0]
    rw [e, hz]
    rfl
  have hk : v.K = k := hk.resolve_right h0
  have e1 : ∀ x, val1 k (1 :: x ++ r) = okV (raw1 k (x ++ r)) := fun x => by
    show (if (1 : UInt8) = 0 then some ((⟨0, 0, []⟩ : Vl), x ++ r) else if (1 : UInt8) = 1 then okV (raw1 k (x ++ r)) else none) = _
    rw [if_neg (by decide), if_pos rfl]
  have e2 : kb0 v = 1 :: (if v.K = 1 ∨ v.K = 2 then beB 8 (kNum v) else if v.K = 3 then [UInt8.ofNat v.N] else escK v.S ++ [0, 0]) := by unfold kb0; rw [if_neg h0]
  rw [e2, e1]
  refine okV_some.2 ⟨?_, h⟩
  unfold raw1
  subst hk
  rcases ok_kinds h with ⟨e, _⟩ | ⟨e, hS⟩ | ⟨e, hn, hS⟩ | ⟨e, hn, _⟩
  · exact absurd e h0
  · have hl : (beB 8 (kNum v)).length = 8 := beB_length _ _
    have hw : kNum v < 256 ^ 8 := by
      rw [pow8]
      unfold kNum
      split
      · exact flipN_lt hN
      · exact hN
    simp only [if_pos e]
    rw [if_neg (by simp [hl])]
    have t1 : (beB 8 (kNum v) ++ r).take 8 = beB 8 (kNum v) := by rw [List.take_append_of_le_length (by omega), List.take_of_length_le (by omega)]
    have t2 : (beB 8 (kNum v) ++ r).drop 8 = r := by rw [List.drop_append_of_le_length (by omega), List.drop_of_length_le (by omega), List.nil_append]
    rw [t1, t2, numB_be' _ _ hw]
    refine congrArg some (Prod.ext (vl_ext rfl ?_ hS.symm) rfl)
    show (if v.K = 1 then flipN (kNum v) else kNum v) = v.N
    unfold kNum
    by_cases h1 : v.K = 1
    · simp only [if_pos h1, flipN_flipN hN]
    · simp only [if_neg h1]
  · simp only [if_neg (show ¬ (v.K = 1 ∨ v.K = 2) by omega), if_pos e]
    refine congrArg some (Prod.ext (vl_ext e.symm ?_ hS.symm) rfl)
    show (UInt8.ofNat v.N).toNat = v.N
    rw [UInt8.toNat_ofNat']
    omega
  · simp only [if_neg (show ¬ (v.K = 1 ∨ v.K = 2) by omega), if_neg (show ¬ v.K = 3 by omega)]
    rw [txtK_esc]
    exact congrArg some (Prod.ext (vl_ext rfl hn.symm rfl) rfl)
theorem kb_val1 {v : Vl} {k : Int} {u q : List UInt8} (hk1 : 1 ≤ k) (hk5 : k ≤ 5) (h : val1 k u = some (v, q)) : u = kb0 v ++ q ∧ v.good ∧ (v.K = k ∨ v.K = 0) := by
  match u, h with
  | b :: r, h =>
    have h' : (if b = 0 then some ((⟨0, 0, []⟩ : Vl), r) else if b = 1 then okV (raw1 k r) else none) = some (v, q) := h
    by_cases h0 : b = 0
    · rw [if_pos h0] at h'
      simp only [Option.some.injEq, Prod.mk.injEq] at h'
      obtain ⟨rfl, rfl⟩ := h'
      subst h0
      exact ⟨rfl, ⟨rfl, by show 0 < _; decide⟩, .inr rfl⟩
    · rw [if_neg h0] at h'
      by_cases h1 : b = 1
      · rw [if_pos h1] at h'
        subst h1
        obtain ⟨hr, hok⟩ := okV_some.1 h'
        unfold raw1 at hr
        by_cases hk : k = 1 ∨ k = 2
        · rw [if_pos hk] at hr
          by_cases hl : r.length < 8
          · rw [if_pos hl] at hr; cases hr
          · rw [if_neg hl] at hr
            simp only [Option.some.injEq, Prod.mk.injEq] at hr
            obtain ⟨rfl, rfl⟩ := hr
            have hlt := numB_lt 8 (r.take 8) (by simp; omega)
            rw [pow8] at hlt
            refine ⟨?_, ⟨hok, ?_⟩, .inl rfl⟩
            · unfold kb0
              simp only
              rw [if_neg (by omega), if_pos hk]
              have e : kNum ⟨k, if k = 1 then flipN (numB (r.take 8)) else numB (r.take 8), []⟩ = numB (r.take 8) := by
                unfold kNum
                simp only
                by_cases h1 : k = 1
                · rw [if_pos h1, if_pos h1, flipN_flipN hlt]
                · rw [if_neg h1, if_neg h1]
              rw [e, beB_numB 8 _ (by simp; omega)]
              show 1 :: r = 1 :: (r.take 8 ++ r.drop 8)
              rw [List.take_append_drop]
            · show (if k = 1 then flipN (numB (r.take 8)) else numB (r.take 8)) < _
              split
              · exact flipN_lt hlt
              · exact hlt
        · rw [if_neg hk] at hr
          by_cases hk3 : k = 3
          · rw [if_pos hk3] at hr
            match r, hr with
            | c :: q', hr =>
              simp only [Option.some.injEq, Prod.mk.injEq] at hr
              obtain ⟨rfl, rfl⟩ := hr
              refine ⟨?_, ⟨hok, by show c.toNat < _; have := c.toNat_lt; omega⟩, .inl hk3.symm⟩
              show 1 :: c :: q' = 1 :: UInt8.ofNat c.toNat :: q'
              rw [UInt8.ofNat_toNat]
          · rw [if_neg hk3] at hr
            obtain ⟨⟨s, q'⟩, h2, h3⟩ := Option.map_eq_some_iff.1 hr
            simp only [Prod.mk.injEq] at h3
            obtain ⟨rfl, rfl⟩ := h3
            refine ⟨?_, ⟨hok, by show 0 < _; decide⟩, .inl rfl⟩
            unfold kb0
            simp only
            rw [if_neg (by omega), if_neg hk, if_neg hk3, esc_txtK _ _ _ h2]
            simp
      · rw [if_neg h1] at h'; cases h'

/-! ### Lists -/
def decL : List Int → List Bool → List UInt8 → Option (List Vl)
  | k :: ks, d :: ds, s => match val1 k (turnL d s) with
    | none => none
    | some x => (decL ks ds (turnL d x.2)).map (x.1 :: ·)
  | _, _, s => if s = [] then some [] else none
/-- Values that fit kinds: each is of its kind, or null. -/
def fitL : List Vl → List Int → Prop
  | v :: l, k :: ks => v.good ∧ (v.K = k ∨ v.K = 0) ∧ fitL l ks
  | [], [] => True
  | _, _ => False
theorem fitL_length : ∀ {l : List Vl} {ks : List Int}, fitL l ks → l.length = ks.length
  | [], [], _ => rfl
  | _ :: _, _ :: _, h => by simp [fitL_length h.2.2]
  | [], _ :: _, h => h.elim
  | _ :: _, [], h => h.elim
theorem decL_key : ∀ {l : List Vl} {ks : List Int} {ds : List Bool} (r : List UInt8), fitL l ks → ds.length = ks.length → decL ks ds (keyL l ds ++ r) = if r = [] then some l else none
  | [], [], [], r, _, _ => rfl
  | v :: l, k :: ks, d :: ds, r, h, hd => by
    obtain ⟨h1, h2, h3⟩ := h
    have ih := decL_key r h3 (by simpa using hd)
    rw [keyL, decL]
    have e : turnL d (kb v d ++ keyL l ds ++ r) = kb0 v ++ turnL d (keyL l ds ++ r) := by
      unfold kb
      rw [List.append_assoc, turnL_append, turnL_turnL]
    rw [e, val1_kb h1 h2]
    simp only
    rw [turnL_turnL, ih]
    split <;> rfl
  | [], _ :: _, _, _, h, _ => h.elim
  | _ :: _, [], _, _, h, _ => h.elim
  | _, [], _ :: _, _, _, h => by simp at h
  | _, _ :: _, [], _, _, h => by simp at h
theorem key_decL : ∀ {ks : List Int} {ds : List Bool} {s : List UInt8} {l : List Vl}, ds.length = ks.length → (∀ k ∈ ks, 1 ≤ k ∧ k ≤ 5) → decL ks ds s = some l → keyL l ds = s ∧ fitL l ks
  | [], [], s, l, _, _, h => by
    simp only [decL] at h
    split at h
    · next e => simp only [Option.some.injEq] at h; subst h e; exact ⟨rfl, trivial⟩
    · cases h
  | k :: ks, d :: ds, s, l, hd, hk, h => by
    rw [decL] at h
    match hv : val1 k (turnL d s), h with
    | none, h => cases h
    | some (v, q), h =>
      obtain ⟨l', h1, rfl⟩ := Option.map_eq_some_iff.1 h
      obtain ⟨e1, hg, hf⟩ := kb_val1 (hk k (by simp)).1 (hk k (by simp)).2 hv
      obtain ⟨ih1, ih2⟩ := key_decL (by simpa using hd) (fun k' hk' => hk k' (by simp [hk'])) h1
      refine ⟨?_, hg, hf, ih2⟩
      rw [keyL, ih1]
      unfold kb
      rw [← turnL_append, ← e1, turnL_turnL]
  | [], _ :: _, _, _, h, _, _ => by simp at h
  | _ :: _, [], _, _, h, _, _ => by simp at h

/-- What Encode answers. -/
def encE (l : List Vl) (ds : List Bool) : List UInt8 × Int :=
  if l.length ≠ ds.length then ([], 1) else if l.all Vl.okB = false then ([], 8) else if 256 < (keyL l ds).length then ([], 7) else (keyL l ds, 0)
/-- What Decode answers. -/
def decE (ks : List Int) (ds : List Bool) (s : List UInt8) : List Vl × Int :=
  if ks.length ≠ ds.length ∨ (ks.any fun k => decide (k < 1) || decide (5 < k)) = true then ([], 1)
  else if 256 < s.length then ([], 2) else match decL ks ds s with | none => ([], 2) | some l => (l, 0)
theorem encE_ok {l : List Vl} {ds : List Bool} (h : (encE l ds).2 = 0) : l.length = ds.length ∧ l.all Vl.okB = true ∧ (keyL l ds).length ≤ 256 ∧ encE l ds = (keyL l ds, 0) := by
  unfold encE at h ⊢
  by_cases h1 : l.length ≠ ds.length
  · rw [if_pos h1] at h; exact absurd h (by decide)
  rw [if_neg h1] at h ⊢
  by_cases h2 : l.all Vl.okB = false
  · rw [if_pos h2] at h; exact absurd h (by decide)
  rw [if_neg h2] at h ⊢
  by_cases h3 : 256 < (keyL l ds).length
  · rw [if_pos h3] at h; exact absurd h (by decide)
  rw [if_neg h3]
  exact ⟨by simpa using h1, by simpa using h2, by omega, rfl⟩
theorem encE_of {l : List Vl} {ds : List Bool} (h1 : l.length = ds.length) (h2 : l.all Vl.okB = true) (h3 : (keyL l ds).length ≤ 256) : encE l ds = (keyL l ds, 0) := by
  unfold encE
  rw [if_neg (by simpa using h1), if_neg (by simp [h2]), if_neg (by omega)]
theorem decE_ok {ks : List Int} {ds : List Bool} {s : List UInt8} (h : (decE ks ds s).2 = 0) :
    ks.length = ds.length ∧ (∀ k ∈ ks, 1 ≤ k ∧ k ≤ 5) ∧ s.length ≤ 256 ∧ ∃ l, decL ks ds s = some l ∧ decE ks ds s = (l, 0) := by
  unfold decE at h ⊢
  by_cases h1 : ks.length ≠ ds.length ∨ (ks.any fun k => decide (k < 1) || decide (5 < k)) = true
  · rw [if_pos h1] at h; exact absurd h (by decide)
  rw [if_neg h1] at h ⊢
  by_cases h2 : 256 < s.length
  · rw [if_pos h2] at h; exact absurd h (by decide)
  rw [if_neg h2] at h ⊢
  have h1a : ks.length = ds.length := Decidable.byContradiction fun e => h1 (.inl e)
  have h1b : ∀ k ∈ ks, 1 ≤ k ∧ k ≤ 5 := fun k hk => by
    refine Decidable.byContradiction fun e => h1 (.inr ?_)
    rw [List.any_eq_true]
    refine ⟨k, hk, ?_⟩
    simp only [Bool.or_eq_true, decide_eq_true_eq]
    omega
  match hd : decL ks ds s, h with
  | none, h => exact absurd h (by decide)
  | some l, h => exact ⟨h1a, h1b, by omega, l, rfl, rfl⟩
theorem decE_of {ks : List Int} {ds : List Bool} {s : List UInt8} (h1 : ks.length = ds.length) (h2 : ∀ k ∈ ks, 1 ≤ k ∧ k ≤ 5) (h3 : s.length ≤ 256) :
    decE ks ds s = match decL ks ds s with | none => ([], 2) | some l => (l, 0) := by
  unfold decE
  rw [if_neg, if_neg (by omega)]
  rintro (e | e)
  · exact e h1
  · obtain ⟨k, hk, he⟩ := List.any_eq_true.1 e
    have := h2 k hk
    simp only [Bool.or_eq_true, decide_eq_true_eq] at he
    omega
theorem decE_nil {ks : List Int} {ds : List Bool} {s : List UInt8} (h : (decE ks ds s).2 ≠ 0) : (decE ks ds s).1 = [] := by
  unfold decE at h ⊢
  split
  · rfl
  · split
    · rfl
    · split
      · rfl
      · next h1 h2 _ _ he => rw [if_neg h1, if_neg h2, he] at h; exact absurd rfl h

/-- The order of two lists. -/
def lord : List Vl → List Vl → List Bool → Int
  | a :: x, b :: y, d :: ds => if vcmp a b ≠ 0 then (if d = true then -(vcmp a b) else vcmp a b) else lord x y ds
  | _, _, _ => 0
/-- Two lists whose values at each place are of one kind or null. -/
def alike : List Vl → List Vl → Prop
  | a :: x, b :: y => (a.K = b.K ∨ a.K = 0 ∨ b.K = 0) ∧ alike x y
  | [], [] => True
  | _, _ => False
def allGood (l : List Vl) : Prop := ∀ v ∈ l, v.good
theorem key_parts : ∀ {a b : List Vl} {ds : List Bool}, alike a b → ds.length = a.length → allGood a → allGood b → a ≠ b → Parts (keyL a ds) (keyL b ds) (lord a b ds)
  | [], [], _, _, _, _, _, hne => absurd rfl hne
  | a :: x, b :: y, d :: ds, h, hd, ha, hb, hne => by
    have ga := ha a (by simp)
    have gb := hb b (by simp)
    rw [keyL, keyL, lord]
    by_cases hab : a = b
    · subst hab
      rw [if_neg (by rw [vcmp_self]; simp)]
      exact (key_parts h.2 (by simpa using hd) (fun v hv => ha v (by simp [hv])) (fun v hv => hb v (by simp [hv])) (fun e => hne (by rw [e]))).pre _
    · have hp := (kb0_parts ga gb h.1 hab).turn d
      have hc : vcmp a b ≠ 0 := fun e => hab ((vcmp_eq a b ga.2 gb.2).1 e)
      rw [if_pos hc]
      exact hp.post _ _
  | [], _ :: _, _, h, _, _, _, _ => h.elim
  | _ :: _, [], _, h, _, _, _, _ => h.elim
  | _ :: _, _ :: _, [], _, h, _, _, _ => by simp at h
theorem lord_self : ∀ (a : List Vl) (ds : List Bool), lord a a ds = 0
  | [], _ => by simp [lord]
  | _ :: _, [] => by simp [lord]
  | a :: x, d :: ds => by rw [lord, if_neg (by rw [vcmp_self]; simp)]; exact lord_self x ds
theorem key_order {a b : List Vl} {ds : List Bool} (h : alike a b) (hd : ds.length = a.length) (ha : allGood a) (hb : allGood b) : bcmp (keyL a ds) (keyL b ds) = lord a b ds := by
  by_cases e : a = b
  · subst e
    rw [bcmp_self, lord_self]
  · exact (key_parts h hd ha hb e).cmp
theorem keyL_front : ∀ (n : Nat) (l : List Vl) (ds : List Bool), keyL (l.take n) (ds.take n) <+: keyL l ds
  | 0, l, ds => by rw [List.take_zero, List.take_zero]; exact List.nil_prefix
  | n + 1, [], ds => by cases ds <;> simp [keyL]
  | n + 1, v :: l, [] => by simp [keyL]
  | n + 1, v :: l, d :: ds => by
    rw [List.take_succ_cons, List.take_succ_cons, keyL, keyL]
    exact (List.prefix_append_right_inj _).2 (keyL_front n l ds)
theorem alike_take : ∀ (n : Nat) {a b : List Vl}, alike a b → alike (a.take n) (b.take n)
  | 0, a, b, _ => by simp [alike]
  | n + 1, [], [], _ => by simp [alike]
  | n + 1, _ :: _, _ :: _, h => ⟨h.1, alike_take n h.2⟩
  | n + 1, [], _ :: _, h => h.elim
  | n + 1, _ :: _, [], h => h.elim
theorem front_iff {a b : List Vl} {ds : List Bool} (h : alike a b) (hd : ds.length = a.length) (ha : allGood a) (hb : allGood b) (n : Nat) :
    keyL (a.take n) (ds.take n) <+: keyL b ds ↔ a.take n = b.take n := by
  constructor
  · intro hp
    refine Decidable.byContradiction fun e => ?_
    have := key_parts (alike_take n h) (ds := ds.take n) (by simp [hd]) (fun v hv => ha v (List.mem_of_mem_take hv)) (fun v hv => hb v (List.mem_of_mem_take hv)) e
    obtain ⟨t, ht⟩ := keyL_front n b ds
    have h2 := this.post [] t
    rw [List.append_nil, ht] at h2
    exact h2.front hp
  · intro e
    rw [e]
    exact keyL_front n b ds

end Go.Proofs.YtpedcpehomkikaaDoor
