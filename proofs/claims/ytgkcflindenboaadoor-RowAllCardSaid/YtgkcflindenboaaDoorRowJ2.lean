/-
  Joined: Val7 KeySt2 Val9 Val10 ValP Val11 Val8 Val12 Key1 Key2 Key3 MemP.
-/
import Derived.Test.YtgkcflindenboaaDoorRowJ1
import Derived.Lib.ConvBytes
import Derived.Laws.BitsAllLaws
import Derived.FnData
import Derived.Lib.ParseIntB
import Derived.Lib.ItoaNum
import Derived.Lib.ParseIntBTie
import Derived.Test.YtgkcflindenboaaDoorRows
import Derived.Laws.Bits64
import Derived.Laws.AppendOwnNone
import Derived.Laws.IdiomStrings

namespace Go.Proofs.YtgkcflindenboaaDoor
open Go Go.RowKit
set_option linter.unusedVariables false
set_option linter.unusedSimpArgs false
set_option maxRecDepth 100000
set_option linter.unusedSimpArgs false
set_option maxRecDepth 100000

/-- The value of a column. -/
abbrev colv (nm : ByteArray) (cK cM : Int) (nu : Bool) (dK dN : Int) (dS : ByteArray) : Value := .agg #[.string nm, .int .i64 cK, .int .i64 cM, .bool nu, .int .i64 dK, .int .u64 dN, .string dS]
def fitsE (cK cM : Int) (nu : Bool) (v : Vl) : Int :=
  if v.okB = false then 8 else if v.K = 0 ∧ nu = false then 8 else if v.K ≠ 0 ∧ v.K ≠ cK then 8 else if (v.K = 4 ∨ v.K = 5) ∧ cM < (v.S.length : Int) then 7 else 0
/-- What Fits' two arguments hold behind a call. -/
theorem fits_cells {nm : ByteArray} {cK cM : Int} {nu : Bool} {dK dN : Int} {dS : ByteArray} {K N : Int} {s : ByteArray} {w w1 : World} {t1 t2 : TypeId}
    (hb : Below ((w.alloc (.cells #[.string nm, .int .i64 cK, .int .i64 cM, .bool nu, .int .i64 dK, .int .u64 dN, .string dS] t1)).alloc (.cells #[.int .i64 K, .int .u64 N, .string s] t2)).heap.size ((w.alloc (.cells #[.string nm, .int .i64 cK, .int .i64 cM, .bool nu, .int .i64 dK, .int .u64 dN, .string dS] t1)).alloc (.cells #[.int .i64 K, .int .u64 N, .string s] t2)) w1) :
    w1.cell? ⟨w.heap.size, 0, none⟩ = some (.string nm) ∧ w1.cell? ⟨w.heap.size, 1, none⟩ = some (.int .i64 cK) ∧ w1.cell? ⟨w.heap.size, 2, none⟩ = some (.int .i64 cM) ∧ w1.cell? ⟨w.heap.size, 3, none⟩ = some (.bool nu) ∧
    w1.cell? ⟨w.heap.size + 1, 0, none⟩ = some (.int .i64 K) ∧ w1.cell? ⟨w.heap.size + 1, 2, none⟩ = some (.string s) := by
  refine ⟨?_, ?_, ?_, ?_, ?_, ?_⟩ <;> (rw [hb.cell (by simp <;> omega)]; go_simp)

set_option maxHeartbeats 1000000 in
theorem fits_any {nm : ByteArray} {cK cM : Int} {nu : Bool} {dK dN : Int} {dS : ByteArray} {K N : Int} {s : ByteArray} (hN : U64 N) (w : World) (hT : Tabs w) :
    Calls Tryd.prog 40 #[colv nm cK cM nu dK dN dS, vlv K N s] w fun e w' => e = .returned (.int .i64 (fitsE cK cM nu (vl K N s))) ∧ Below w.heap.size w w' := by
  have HB := Lib.hid (fun o p => below_2 w o p)
  have HT := Lib.hid (fun o p => hT.keep (HB.out o p))
  clear hT
  have hsz := ba_size s
  by_cases ho : (vl K N s).okB = true
  case neg =>
    have ho : (vl K N s).okB = false := by simpa using ho
    have HOK := Lib.hid ho
    have hr : fitsE cK cM nu (vl K N s) = 8 := by rw [fitsE, if_pos ho]
    rw [hr]
    clear ho hr hsz
    go_enter Tryd.func40, Tryd.ntmps40
    go_wp2_with fail
    refine (valid_any hN _ (HT.out _ _)).mono ?_
    rintro e w1 ⟨rfl, hb1⟩
    rw [HOK.out]
    obtain ⟨c0, c1, c2, c3, v0, v2⟩ := fits_cells hb1
    have H1 := Lib.hid ((HB.out _ _).trans (hb1.mono (by simp; omega)))
    clear hb1
    go_wp2
    go_ret
    exact ⟨rfl, H1.out⟩
  have HOK := Lib.hid ho
  by_cases k0 : K = 0
  · subst k0
    cases nu with
    | false =>
      have hr : fitsE cK cM false (vl 0 N s) = 8 := by rw [fitsE, if_neg (by rw [ho]; decide), if_pos (by simp)]
      rw [hr]
      clear ho hr hsz
      go_enter Tryd.func40, Tryd.ntmps40
      go_wp2_with fail
      refine (valid_any hN _ (HT.out _ _)).mono ?_
      rintro e w1 ⟨rfl, hb1⟩
      rw [HOK.out]
      obtain ⟨c0, c1, c2, c3, v0, v2⟩ := fits_cells hb1
      have H1 := Lib.hid ((HB.out _ _).trans (hb1.mono (by simp; omega)))
      clear hb1
      go_wp2
      go_ret
      exact ⟨rfl, H1.out⟩
    | true =>
      have hr : fitsE cK cM true (vl 0 N s) = 0 := by rw [fitsE, if_neg (by rw [ho]; decide), if_neg (by simp), if_neg (by simp), if_neg (by simp)]
      rw [hr]
      clear ho hr hsz
      go_enter Tryd.func40, Tryd.ntmps40
      go_wp2_with fail
      refine (valid_any hN _ (HT.out _ _)).mono ?_
      rintro e w1 ⟨rfl, hb1⟩
      rw [HOK.out]
      obtain ⟨c0, c1, c2, c3, v0, v2⟩ := fits_cells hb1
      have H1 := Lib.hid ((HB.out _ _).trans (hb1.mono (by simp; omega)))
      clear hb1
      go_wp2
      go_ret
      exact ⟨rfl, H1.out⟩
  have b0 : (K == 0) = false := by simpa using k0
  have d0 : (K != 0) = true := by simpa using k0
  by_cases hk : K = cK
  case neg =>
    have hr : fitsE cK cM nu (vl K N s) = 8 := by rw [fitsE, if_neg (by rw [ho]; decide), if_neg (by simp [k0]), if_pos ⟨k0, hk⟩]
    have d1 : (K != cK) = true := by simpa using hk
    rw [hr]
    clear ho hr hsz k0 hk
    go_enter Tryd.func40, Tryd.ntmps40
    go_wp2_with fail
    refine (valid_any hN _ (HT.out _ _)).mono ?_
    rintro e w1 ⟨rfl, hb1⟩
    rw [HOK.out]
    obtain ⟨c0, c1, c2, c3, v0, v2⟩ := fits_cells hb1
    have H1 := Lib.hid ((HB.out _ _).trans (hb1.mono (by simp; omega)))
    clear hb1
    go_wp2
    go_ret
    exact ⟨rfl, H1.out⟩
  subst hk
  have d1 : (K != K) = false := by simp
  by_cases h45 : K = 4 ∨ K = 5
  case neg =>
    have hr : fitsE K cM nu (vl K N s) = 0 := by rw [fitsE, if_neg (by rw [ho]; decide), if_neg (by simp [k0]), if_neg (by simp), if_neg (fun h => h45 h.1)]
    have b4 : (K == 4) = false := by simp; omega
    have b5 : (K == 5) = false := by simp; omega
    rw [hr]
    clear ho hr hsz k0 h45
    go_enter Tryd.func40, Tryd.ntmps40
    go_wp2_with fail
    refine (valid_any hN _ (HT.out _ _)).mono ?_
    rintro e w1 ⟨rfl, hb1⟩
    rw [HOK.out]
    obtain ⟨c0, c1, c2, c3, v0, v2⟩ := fits_cells hb1
    have H1 := Lib.hid ((HB.out _ _).trans (hb1.mono (by simp; omega)))
    clear hb1
    go_wp2
    go_ret
    exact ⟨rfl, H1.out⟩
  by_cases hl : cM < (s.size : Int)
  · have hr : fitsE K cM nu (vl K N s) = 7 := by rw [fitsE, if_neg (by rw [ho]; decide), if_neg (by simp [k0]), if_neg (by simp), if_pos ⟨h45, by simp only [hsz]; exact hl⟩]
    rw [hr]
    rcases h45 with rfl | rfl
    all_goals
      clear ho hr hsz k0
      go_enter Tryd.func40, Tryd.ntmps40
      go_wp2_with fail
      refine (valid_any hN _ (HT.out _ _)).mono ?_
      rintro e w1 ⟨rfl, hb1⟩
      rw [HOK.out]
      obtain ⟨c0, c1, c2, c3, v0, v2⟩ := fits_cells hb1
      have H1 := Lib.hid ((HB.out _ _).trans (hb1.mono (by simp; omega)))
      clear hb1
      go_wp2
      go_ret
      exact ⟨rfl, H1.out⟩
  · have hr : fitsE K cM nu (vl K N s) = 0 := by rw [fitsE, if_neg (by rw [ho]; decide), if_neg (by simp [k0]), if_neg (by simp), if_neg (fun h => hl (by have := h.2; simp only [hsz] at this; exact this))]
    rw [hr]
    rcases h45 with rfl | rfl
    all_goals
      clear ho hr hsz k0
      go_enter Tryd.func40, Tryd.ntmps40
      go_wp2_with fail
      refine (valid_any hN _ (HT.out _ _)).mono ?_
      rintro e w1 ⟨rfl, hb1⟩
      rw [HOK.out]
      obtain ⟨c0, c1, c2, c3, v0, v2⟩ := fits_cells hb1
      have H1 := Lib.hid ((HB.out _ _).trans (hb1.mono (by simp; omega)))
      clear hb1
      go_wp2
      go_ret
      exact ⟨rfl, H1.out⟩

def boundB (cK cM : Int) : Bool := if cK = 4 ∨ cK = 5 then decide (1 ≤ cM) && decide (cM ≤ 64) else decide (cM = 0)
def colE (nm : List UInt8) (cK cM : Int) (nu : Bool) (d : Vl) : Int :=
  if nameB nm = false then 1 else if cK < 1 ∨ 5 < cK then 8 else if boundB cK cM = false then 7 else fitsE cK cM nu d
/-- What Column's argument holds behind a call. -/
theorem col_cells {nm : ByteArray} {cK cM : Int} {nu : Bool} {dK dN : Int} {dS : ByteArray} {w w1 : World} {t1 : TypeId}
    (hb : Below (w.alloc (.cells #[.string nm, .int .i64 cK, .int .i64 cM, .bool nu, .int .i64 dK, .int .u64 dN, .string dS] t1)).heap.size (w.alloc (.cells #[.string nm, .int .i64 cK, .int .i64 cM, .bool nu, .int .i64 dK, .int .u64 dN, .string dS] t1)) w1) :
    w1.cell? ⟨w.heap.size, 0, none⟩ = some (.string nm) ∧ w1.cell? ⟨w.heap.size, 1, none⟩ = some (.int .i64 cK) ∧ w1.cell? ⟨w.heap.size, 2, none⟩ = some (.int .i64 cM) ∧ w1.cell? ⟨w.heap.size, 3, none⟩ = some (.bool nu) ∧
    w1.cell? ⟨w.heap.size, 4, none⟩ = some (.int .i64 dK) ∧ w1.cell? ⟨w.heap.size, 5, none⟩ = some (.int .u64 dN) ∧ w1.cell? ⟨w.heap.size, 6, none⟩ = some (.string dS) := by
  refine ⟨?_, ?_, ?_, ?_, ?_, ?_, ?_⟩ <;> (rw [hb.cell (by simp <;> omega)]; go_simp)
theorem bound_any {nm : ByteArray} {cK cM : Int} {nu : Bool} {dK dN : Int} {dS : ByteArray} (w : World) :
    Calls Tryd.prog 79 #[colv nm cK cM nu dK dN dS] w fun e w' => e = .returned (.bool (boundB cK cM)) ∧ Below w.heap.size w w' := by
  have HB := Lib.hid (fun o => (Below.refl w.heap.size w).alloc (Nat.le_refl _) o)
  obtain ⟨b, hb⟩ : ∃ b, boundB cK cM = b := ⟨_, rfl⟩
  rw [hb]
  unfold boundB at hb
  by_cases h : cK = 4 ∨ cK = 5
  · rw [if_pos h] at hb
    by_cases h1 : 1 ≤ cM
    · rw [decide_eq_true h1, Bool.true_and] at hb
      have H := Lib.hid hb
      rcases h with rfl | rfl
      all_goals
        clear hb
        go_enter Tryd.func79, Tryd.ntmps79
        go_wp2
        go_ret
        exact ⟨ret_b H.out, HB.out _⟩
    · rw [decide_eq_false h1, Bool.false_and] at hb
      subst hb
      rcases h with rfl | rfl
      all_goals
        go_enter Tryd.func79, Tryd.ntmps79
        go_wp2
        go_ret
        exact ⟨rfl, HB.out _⟩
  · rw [if_neg h] at hb
    have b4 : (cK == 4) = false := by simp; omega
    have b5 : (cK == 5) = false := by simp; omega
    have H := Lib.hid hb
    clear hb h
    go_enter Tryd.func79, Tryd.ntmps79
    go_wp2
    all_goals go_ret
    all_goals exact ⟨ret_b (by rw [← H.out, Bool.eq_iff_iff]; simp), HB.out _⟩

set_option maxHeartbeats 1000000 in
theorem column_any {nm : ByteArray} {cK cM : Int} {nu : Bool} {dK dN : Int} {dS : ByteArray} (hD : U64 dN) (w : World) (hT : Tabs w) :
    Calls Tryd.prog 56 #[colv nm cK cM nu dK dN dS] w fun e w' => e = .returned (.int .i64 (colE nm.toList cK cM nu (vl dK dN dS))) ∧ Below w.heap.size w w' := by
  have HB := Lib.hid (fun o => (Below.refl w.heap.size w).alloc (Nat.le_refl _) o)
  have HT := Lib.hid (fun o => hT.keep (HB.out o))
  clear hT
  by_cases hn : nameB nm.toList = true
  case neg =>
    have hn : nameB nm.toList = false := by simpa using hn
    have HN := Lib.hid hn
    have hr : colE nm.toList cK cM nu (vl dK dN dS) = 1 := by rw [colE, if_pos hn]
    rw [hr]
    clear hn hr
    go_enter Tryd.func56, Tryd.ntmps56
    go_wp2_with fail
    refine (name_any _ _).mono ?_
    rintro e w1 ⟨rfl, rfl⟩
    rw [HN.out]
    go_wp2
    go_ret
    exact ⟨rfl, HB.out _⟩
  have HN := Lib.hid hn
  by_cases hk : cK < 1 ∨ 5 < cK
  · have hr : colE nm.toList cK cM nu (vl dK dN dS) = 8 := by rw [colE, if_neg (by rw [hn]; decide), if_pos hk]
    rw [hr]
    clear hn hr
    have hk2 : cK < 1 ∨ (¬ cK < 1 ∧ 5 < cK) := by omega
    clear hk
    rcases hk2 with h1 | ⟨h1, h2⟩
    all_goals
      go_enter Tryd.func56, Tryd.ntmps56
      go_wp2_with fail
      refine (name_any _ _).mono ?_
      rintro e w1 ⟨rfl, rfl⟩
      rw [HN.out]
      go_wp2
      go_ret
      exact ⟨rfl, HB.out _⟩
  have h1 : ¬ cK < 1 := by omega
  have h2 : ¬ 5 < cK := by omega
  by_cases hb : boundB cK cM = true
  case neg =>
    have hb : boundB cK cM = false := by simpa using hb
    have HBO := Lib.hid hb
    have hr : colE nm.toList cK cM nu (vl dK dN dS) = 7 := by rw [colE, if_neg (by rw [hn]; decide), if_neg hk, if_pos hb]
    rw [hr]
    clear hn hr hk hb
    go_enter Tryd.func56, Tryd.ntmps56
    go_wp2_with fail
    refine (name_any _ _).mono ?_
    rintro e w1 ⟨rfl, rfl⟩
    rw [HN.out]
    go_wp2_with fail
    refine (bound_any _).mono ?_
    rintro e w1 ⟨rfl, hb1⟩
    rw [HBO.out]
    have H1 := Lib.hid ((HB.out _).trans (hb1.mono (by simp)))
    clear hb1
    go_wp2
    go_ret
    exact ⟨rfl, H1.out⟩
  have HBO := Lib.hid hb
  have hr : colE nm.toList cK cM nu (vl dK dN dS) = fitsE cK cM nu (vl dK dN dS) := by rw [colE, if_neg (by rw [hn]; decide), if_neg hk, if_neg (by rw [hb]; decide)]
  rw [hr]
  clear hn hr hk hb
  go_enter Tryd.func56, Tryd.ntmps56
  go_wp2_with fail
  refine (name_any _ _).mono ?_
  rintro e w1 ⟨rfl, rfl⟩
  rw [HN.out]
  go_wp2_with fail
  refine (bound_any _).mono ?_
  rintro e w1 ⟨rfl, hb1⟩
  rw [HBO.out]
  obtain ⟨c0, c1, c2, c3, c4, c5, c6⟩ := col_cells hb1
  have HT1 := Lib.hid ((HT.out _).keep hb1)
  have H1 := Lib.hid ((HB.out _).trans (hb1.mono (by simp)))
  clear hb1
  go_wp2_with fail
  refine (fits_any hD _ HT1.out).mono ?_
  rintro e w2 ⟨rfl, hb2⟩
  have H2 := Lib.hid (H1.out.trans (hb2.mono H1.out.size))
  clear hb2
  go_wp2
  go_ret
  exact ⟨rfl, H2.out⟩

end Go.Proofs.YtgkcflindenboaaDoor

namespace Go.Proofs.YtgkcflindenboaaDoor
open Go Go.RowKit
set_option linter.unusedVariables false
set_option linter.unusedSimpArgs false
set_option maxRecDepth 100000
set_option linter.unusedSimpArgs false
set_option maxRecDepth 100000

/-! ### A value at the front -/
def txtK : List UInt8 → Option (List UInt8 × List UInt8)
  | [] => none
  | b :: r => if b = 0 then
      (match r with
       | [] => none
       | m :: q => if m = 0 then some ([], q) else if m = 255 then (txtK q).map (fun x => (0 :: x.1, x.2)) else none)
    else (txtK r).map (fun x => (b :: x.1, x.2))
theorem txtK_zero (m : UInt8) (q : List UInt8) : txtK (0 :: m :: q) = if m = 0 then some ([], q) else if m = 255 then (txtK q).map (fun x => (0 :: x.1, x.2)) else none := by
  rw [txtK.eq_def]; rfl
theorem txtK_own {b : UInt8} (h : b ≠ 0) (r : List UInt8) : txtK (b :: r) = (txtK r).map (fun x => (b :: x.1, x.2)) := by
  rw [txtK.eq_def]; simp only [if_neg h]
theorem txtK_esc : ∀ (s r : List UInt8), txtK (escK s ++ [0, 0] ++ r) = some (s, r)
  | [], r => by
    show txtK (0 :: 0 :: r) = _
    rw [txtK_zero, if_pos rfl]
  | b :: s, r => by
    have ih := txtK_esc s r
    rw [escK]
    by_cases h : b = 0
    · rw [if_pos h]
      show txtK (0 :: 255 :: (escK s ++ [0, 0] ++ r)) = _
      rw [txtK_zero, if_neg (by decide), if_pos rfl, ih, h]
      rfl
    · rw [if_neg h]
      show txtK (b :: (escK s ++ [0, 0] ++ r)) = _
      rw [txtK_own h, ih]
      rfl
theorem esc_txtK (u s q : List UInt8) (h : txtK u = some (s, q)) : u = escK s ++ [0, 0] ++ q := by
  induction u using txtK.induct generalizing s q with
  | case1 => simp [txtK] at h
  | case2 => simp [txtK] at h
  | case3 q' =>
    rw [txtK_zero, if_pos rfl] at h
    simp only [Option.some.injEq, Prod.mk.injEq] at h
    obtain ⟨rfl, rfl⟩ := h
    rfl
  | case4 q' hm ih =>
    rw [txtK_zero, if_neg hm, if_pos rfl] at h
    obtain ⟨⟨s', q''⟩, h1, h2⟩ := Option.map_eq_some_iff.1 h
    simp only [Prod.mk.injEq] at h2
    obtain ⟨rfl, rfl⟩ := h2
    rw [ih _ _ h1]
    simp [escK]
  | case5 m q' h1 h2 =>
    rw [txtK_zero, if_neg h1, if_neg h2] at h
    cases h
  | case6 b r hb ih =>
    rw [txtK_own hb] at h
    obtain ⟨⟨s', q''⟩, h1, h2⟩ := Option.map_eq_some_iff.1 h
    simp only [Prod.mk.injEq] at h2
    obtain ⟨rfl, rfl⟩ := h2
    rw [ih _ _ h1]
    simp [escK, hb]
theorem txtK_length {u s q : List UInt8} (h : txtK u = some (s, q)) : s.length ≤ u.length ∧ q.length ≤ u.length := by
  have e := esc_txtK u s q h
  have : ∀ l : List UInt8, l.length ≤ (escK l).length := by
    intro l
    induction l with
    | nil => simp
    | cons b r ih =>
      rw [escK]
      split <;> simp only [List.length_cons] <;> omega
  have := this s
  rw [e]
  simp only [List.length_append]
  omega

/-- What stands behind the byte 1 for a value of a kind; it may be no value. -/
def raw1 (k : Int) (r : List UInt8) : Option (Vl × List UInt8) :=
  if k = 1 ∨ k = 2 then (if r.length < 8 then none else some (⟨k, if k = 1 then flipN (numB (r.take 8)) else numB (r.take 8), []⟩, r.drop 8))
  else if k = 3 then (match r with | [] => none | b :: q => some (⟨3, b.toNat, []⟩, q))
  else (txtK r).map fun x => (⟨k, 0, x.1⟩, x.2)
def okV (o : Option (Vl × List UInt8)) : Option (Vl × List UInt8) := match o with | none => none | some x => if x.1.okB = true then some x else none
def val1 (k : Int) (u : List UInt8) : Option (Vl × List UInt8) :=
  match u with
  | [] => none
  | b :: r => if b = 0 then some (⟨0, 0, []⟩, r) else if b = 1 then okV (raw1 k r) else none
theorem okV_some {o : Option (Vl × List UInt8)} {x : Vl × List UInt8} : okV o = some x ↔ o = some x ∧ x.1.okB = true := by
  unfold okV
  cases o with
  | none => simp
  | some y =>
    by_cases h : y.1.okB = true
    · simp only [if_pos h, Option.some.injEq]
      constructor
      · rintro rfl; exact ⟨rfl, h⟩
      · rintro ⟨rfl, _⟩; rfl
    · simp only [if_neg h]
      constructor
      · intro e; cases e
      · rintro ⟨e, e2⟩
        simp only [Option.some.injEq] at e
        subst e
        exact absurd e2 h
theorem pow8 : (256 : Nat) ^ 8 = 18446744073709551616 := by decide
theorem val1_kb {v : Vl} {k : Int} (h : v.good) (hk : v.K = k ∨ v.K = 0) (r : List UInt8) : val1 k (kb0 v ++ r) = some (v, r) := by
  obtain ⟨h, hN⟩ := h
  by_cases h0 : v.K = 0
  · have hz : v = ⟨0, 0, []⟩ := by
      rcases ok_kinds h with ⟨e, e1, e2⟩ | ⟨e, _⟩ | ⟨e, _⟩ | ⟨e, _⟩
      · exact vl_ext e e1 e2
      all_goals omega
    have e : kb0 v = [0] := by unfold kb0; rw [if_pos h0]
    rw [e, hz]
    rfl
  have hk : v.K = k := hk.resolve_right h0
  have e1 : ∀ x, val1 k (1 :: x ++ r) = okV (raw1 k (x ++ r)) := fun x => by
    show (if (1 : UInt8) = 0 then some ((⟨0, 0, []⟩ : Vl), x ++ r) else if (1 : UInt8) = 1 then okV (raw1 k (x ++ r)) else none) = _
    rw [if_neg (by decide), if_pos rfl]
  have e2 : kb0 v = 1 :: (if v.K = 1 ∨ v.K = 2 then beB 8 (kNum v) else if v.K = 3 then [UInt8.ofNat v.N] else escK v.S ++ [0, 0]) := by unfold kb0; rw [if_neg h0]
  rw [e2, e1]
  refine okV_some.2 ⟨?_, h⟩
  unfold raw1
  subst hk
  rcases ok_kinds h with ⟨e, _⟩ | ⟨e, hS⟩ | ⟨e, hn, hS⟩ | ⟨e, hn, _⟩
  · exact absurd e h0
  · have hl : (beB 8 (kNum v)).length = 8 := beB_length _ _
    have hw : kNum v < 256 ^ 8 := by
      rw [pow8]
      unfold kNum
      split
      · exact flipN_lt hN
      · exact hN
    simp only [if_pos e]
    rw [if_neg (by simp [hl])]
    have t1 : (beB 8 (kNum v) ++ r).take 8 = beB 8 (kNum v) := by rw [List.take_append_of_le_length (by omega), List.take_of_length_le (by omega)]
    have t2 : (beB 8 (kNum v) ++ r).drop 8 = r := by rw [List.drop_append_of_le_length (by omega), List.drop_of_length_le (by omega), List.nil_append]
    rw [t1, t2, numB_be' _ _ hw]
    refine congrArg some (Prod.ext (vl_ext rfl ?_ hS.symm) rfl)
    show (if v.K = 1 then flipN (kNum v) else kNum v) = v.N
    unfold kNum
    by_cases h1 : v.K = 1
    · simp only [if_pos h1, flipN_flipN hN]
    · simp only [if_neg h1]
  · simp only [if_neg (show ¬ (v.K = 1 ∨ v.K = 2) by omega), if_pos e]
    refine congrArg some (Prod.ext (vl_ext e.symm ?_ hS.symm) rfl)
    show (UInt8.ofNat v.N).toNat = v.N
    rw [UInt8.toNat_ofNat']
    omega
  · simp only [if_neg (show ¬ (v.K = 1 ∨ v.K = 2) by omega), if_neg (show ¬ v.K = 3 by omega)]
    rw [txtK_esc]
    exact congrArg some (Prod.ext (vl_ext rfl hn.symm rfl) rfl)
theorem kb_val1 {v : Vl} {k : Int} {u q : List UInt8} (hk1 : 1 ≤ k) (hk5 : k ≤ 5) (h : val1 k u = some (v, q)) : u = kb0 v ++ q ∧ v.good ∧ (v.K = k ∨ v.K = 0) := by
  match u, h with
  | b :: r, h =>
    have h' : (if b = 0 then some ((⟨0, 0, []⟩ : Vl), r) else if b = 1 then okV (raw1 k r) else none) = some (v, q) := h
    by_cases h0 : b = 0
    · rw [if_pos h0] at h'
      simp only [Option.some.injEq, Prod.mk.injEq] at h'
      obtain ⟨rfl, rfl⟩ := h'
      subst h0
      exact ⟨rfl, ⟨rfl, by show 0 < _; decide⟩, .inr rfl⟩
    · rw [if_neg h0] at h'
      by_cases h1 : b = 1
      · rw [if_pos h1] at h'
        subst h1
        obtain ⟨hr, hok⟩ := okV_some.1 h'
        unfold raw1 at hr
        by_cases hk : k = 1 ∨ k = 2
        · rw [if_pos hk] at hr
          by_cases hl : r.length < 8
          · rw [if_pos hl] at hr; cases hr
          · rw [if_neg hl] at hr
            simp only [Option.some.injEq, Prod.mk.injEq] at hr
            obtain ⟨rfl, rfl⟩ := hr
            have hlt := numB_lt 8 (r.take 8) (by simp; omega)
            rw [pow8] at hlt
            refine ⟨?_, ⟨hok, ?_⟩, .inl rfl⟩
            · unfold kb0
              simp only
              rw [if_neg (by omega), if_pos hk]
              have e : kNum ⟨k, if k = 1 then flipN (numB (r.take 8)) else numB (r.take 8), []⟩ = numB (r.take 8) := by
                unfold kNum
                simp only
                by_cases h1 : k = 1
                · rw [if_pos h1, if_pos h1, flipN_flipN hlt]
                · rw [if_neg h1, if_neg h1]
              rw [e, beB_numB 8 _ (by simp; omega)]
              show 1 :: r = 1 :: (r.take 8 ++ r.drop 8)
              rw [List.take_append_drop]
            · show (if k = 1 then flipN (numB (r.take 8)) else numB (r.take 8)) < _
              split
              · exact flipN_lt hlt
              · exact hlt
        · rw [if_neg hk] at hr
          by_cases hk3 : k = 3
          · rw [if_pos hk3] at hr
            match r, hr with
            | c :: q', hr =>
              simp only [Option.some.injEq, Prod.mk.injEq] at hr
              obtain ⟨rfl, rfl⟩ := hr
              refine ⟨?_, ⟨hok, by show c.toNat < _; have := c.toNat_lt; omega⟩, .inl hk3.symm⟩
              show 1 :: c :: q' = 1 :: UInt8.ofNat c.toNat :: q'
              rw [UInt8.ofNat_toNat]
          · rw [if_neg hk3] at hr
            obtain ⟨⟨s, q'⟩, h2, h3⟩ := Option.map_eq_some_iff.1 hr
            simp only [Prod.mk.injEq] at h3
            obtain ⟨rfl, rfl⟩ := h3
            refine ⟨?_, ⟨hok, by show 0 < _; decide⟩, .inl rfl⟩
            unfold kb0
            simp only
            rw [if_neg (by omega), if_neg hk, if_neg hk3, esc_txtK _ _ _ h2]
            simp
      · rw [if_neg h1] at h'; cases h'

/-! ### Lists -/
def decL : List Int → List Bool → List UInt8 → Option (List Vl)
  | k :: ks, d :: ds, s => match val1 k (turnL d s) with
    | none => none
    | some x => (decL ks ds (turnL d x.2)).map (x.1 :: ·)
  | _, _, s => if s = [] then some [] else none
/-- Values that fit kinds: each is of its kind, or null. -/
def fitL : List Vl → List Int → Prop
  | v :: l, k :: ks => v.good ∧ (v.K = k ∨ v.K = 0) ∧ fitL l ks
  | [], [] => True
  | _, _ => False
theorem fitL_length : ∀ {l : List Vl} {ks : List Int}, fitL l ks → l.length = ks.length
  | [], [], _ => rfl
  | _ :: _, _ :: _, h => by simp [fitL_length h.2.2]
  | [], _ :: _, h => h.elim
  | _ :: _, [], h => h.elim
theorem decL_key : ∀ {l : List Vl} {ks : List Int} {ds : List Bool} (r : List UInt8), fitL l ks → ds.length = ks.length → decL ks ds (keyL l ds ++ r) = if r = [] then some l else none
  | [], [], [], r, _, _ => rfl
  | v :: l, k :: ks, d :: ds, r, h, hd => by
    obtain ⟨h1, h2, h3⟩ := h
    have ih := decL_key r h3 (by simpa using hd)
    rw [keyL, decL]
    have e : turnL d (kb v d ++ keyL l ds ++ r) = kb0 v ++ turnL d (keyL l ds ++ r) := by
      unfold kb
      rw [List.append_assoc, turnL_append, turnL_turnL]
    rw [e, val1_kb h1 h2]
    simp only
    rw [turnL_turnL, ih]
    split <;> rfl
  | [], _ :: _, _, _, h, _ => h.elim
  | _ :: _, [], _, _, h, _ => h.elim
  | _, [], _ :: _, _, _, h => by simp at h
  | _, _ :: _, [], _, _, h => by simp at h
theorem key_decL : ∀ {ks : List Int} {ds : List Bool} {s : List UInt8} {l : List Vl}, ds.length = ks.length → (∀ k ∈ ks, 1 ≤ k ∧ k ≤ 5) → decL ks ds s = some l → keyL l ds = s ∧ fitL l ks
  | [], [], s, l, _, _, h => by
    simp only [decL] at h
    split at h
    · next e => simp only [Option.some.injEq] at h; subst h e; exact ⟨rfl, trivial⟩
    · cases h
  | k :: ks, d :: ds, s, l, hd, hk, h => by
    rw [decL] at h
    match hv : val1 k (turnL d s), h with
    | none, h => cases h
    | some (v, q), h =>
      obtain ⟨l', h1, rfl⟩ := Option.map_eq_some_iff.1 h
      obtain ⟨e1, hg, hf⟩ := kb_val1 (hk k (by simp)).1 (hk k (by simp)).2 hv
      obtain ⟨ih1, ih2⟩ := key_decL (by simpa using hd) (fun k' hk' => hk k' (by simp [hk'])) h1
      refine ⟨?_, hg, hf, ih2⟩
      rw [keyL, ih1]
      unfold kb
      rw [← turnL_append, ← e1, turnL_turnL]
  | [], _ :: _, _, _, h, _, _ => by simp at h
  | _ :: _, [], _, _, h, _, _ => by simp at h

/-- What Encode answers. -/
def encE (l : List Vl) (ds : List Bool) : List UInt8 × Int :=
  if l.length ≠ ds.length then ([], 1) else if l.all Vl.okB = false then ([], 8) else if 256 < (keyL l ds).length then ([], 7) else (keyL l ds, 0)
/-- What Decode answers. -/
def decE (ks : List Int) (ds : List Bool) (s : List UInt8) : List Vl × Int :=
  if ks.length ≠ ds.length ∨ (ks.any fun k => decide (k < 1) || decide (5 < k)) = true then ([], 1)
  else if 256 < s.length then ([], 2) else match decL ks ds s with | none => ([], 2) | some l => (l, 0)
theorem encE_ok {l : List Vl} {ds : List Bool} (h : (encE l ds).2 = 0) : l.length = ds.length ∧ l.all Vl.okB = true ∧ (keyL l ds).length ≤ 256 ∧ encE l ds = (keyL l ds, 0) := by
  unfold encE at h ⊢
  by_cases h1 : l.length ≠ ds.length
  · rw [if_pos h1] at h; exact absurd h (by decide)
  rw [if_neg h1] at h ⊢
  by_cases h2 : l.all Vl.okB = false
  · rw [if_pos h2] at h; exact absurd h (by decide)
  rw [if_neg h2] at h ⊢
  by_cases h3 : 256 < (keyL l ds).length
  · rw [if_pos h3] at h; exact absurd h (by decide)
  rw [if_neg h3]
  exact ⟨by simpa using h1, by simpa using h2, by omega, rfl⟩
theorem encE_of {l : List Vl} {ds : List Bool} (h1 : l.length = ds.length) (h2 : l.all Vl.okB = true) (h3 : (keyL l ds).length ≤ 256) : encE l ds = (keyL l ds, 0) := by
  unfold encE
  rw [if_neg (by simpa using h1), if_neg (by simp [h2]), if_neg (by omega)]
theorem decE_ok {ks : List Int} {ds : List Bool} {s : List UInt8} (h : (decE ks ds s).2 = 0) :
    ks.length = ds.length ∧ (∀ k ∈ ks, 1 ≤ k ∧ k ≤ 5) ∧ s.length ≤ 256 ∧ ∃ l, decL ks ds s = some l ∧ decE ks ds s = (l, 0) := by
  unfold decE at h ⊢
  by_cases h1 : ks.length ≠ ds.length ∨ (ks.any fun k => decide (k < 1) || decide (5 < k)) = true
  · rw [if_pos h1] at h; exact absurd h (by decide)
  rw [if_neg h1] at h ⊢
  by_cases h2 : 256 < s.length
  · rw [if_pos h2] at h; exact absurd h (by decide)
  rw [if_neg h2] at h ⊢
  have h1a : ks.length = ds.length := Decidable.byContradiction fun e => h1 (.inl e)
  have h1b : ∀ k ∈ ks, 1 ≤ k ∧ k ≤ 5 := fun k hk => by
    refine Decidable.byContradiction fun e => h1 (.inr ?_)
    rw [List.any_eq_true]
    refine ⟨k, hk, ?_⟩
    simp only [Bool.or_eq_true, decide_eq_true_eq]
    omega
  match hd : decL ks ds s, h with
  | none, h => exact absurd h (by decide)
  | some l, h => exact ⟨h1a, h1b, by omega, l, rfl, rfl⟩
theorem decE_of {ks : List Int} {ds : List Bool} {s : List UInt8} (h1 : ks.length = ds.length) (h2 : ∀ k ∈ ks, 1 ≤ k ∧ k ≤ 5) (h3 : s.length ≤ 256) :
    decE ks ds s = match decL ks ds s with | none => ([], 2) | some l => (l, 0) := by
  unfold decE
  rw [if_neg, if_neg (by omega)]
  rintro (e | e)
  · exact e h1
  · obtain ⟨k, hk, he⟩ := List.any_eq_true.1 e
    have := h2 k hk
    simp only [Bool.or_eq_true, decide_eq_true_eq] at he
    omega
theorem decE_nil {ks : List Int} {ds : List Bool} {s : List UInt8} (h : (decE ks ds s).2 ≠ 0) : (decE ks ds s).1 = [] := by
  unfold decE at h ⊢
  split
  · rfl
  · split
    · rfl
    · split
      · rfl
      · next h1 h2 _ _ he => rw [if_neg h1, if_neg h2, he] at h; exact absurd rfl h

/-- The order of two lists. -/
def lord : List Vl → List Vl → List Bool → Int
  | a :: x, b :: y, d :: ds => if vcmp a b ≠ 0 then (if d = true then -(vcmp a b) else vcmp a b) else lord x y ds
  | _, _, _ => 0
/-- Two lists whose values at each place are of one kind or null. -/
def alike : List Vl → List Vl → Prop
  | a :: x, b :: y => (a.K = b.K ∨ a.K = 0 ∨ b.K = 0) ∧ alike x y
  | [], [] => True
  | _, _ => False
def allGood (l : List Vl) : Prop := ∀ v ∈ l, v.good
theorem key_parts : ∀ {a b : List Vl} {ds : List Bool}, alike a b → ds.length = a.length → allGood a → allGood b → a ≠ b → Parts (keyL a ds) (keyL b ds) (lord a b ds)
  | [], [], _, _, _, _, _, hne => absurd rfl hne
  | a :: x, b :: y, d :: ds, h, hd, ha, hb, hne => by
    have ga := ha a (by simp)
    have gb := hb b (by simp)
    rw [keyL, keyL, lord]
    by_cases hab : a = b
    · subst hab
      rw [if_neg (by rw [vcmp_self]; simp)]
      exact (key_parts h.2 (by simpa using hd) (fun v hv => ha v (by simp [hv])) (fun v hv => hb v (by simp [hv])) (fun e => hne (by rw [e]))).pre _
    · have hp := (kb0_parts ga gb h.1 hab).turn d
      have hc : vcmp a b ≠ 0 := fun e => hab ((vcmp_eq a b ga.2 gb.2).1 e)
      rw [if_pos hc]
      exact hp.post _ _
  | [], _ :: _, _, h, _, _, _, _ => h.elim
  | _ :: _, [], _, h, _, _, _, _ => h.elim
  | _ :: _, _ :: _, [], _, h, _, _, _ => by simp at h
theorem lord_self : ∀ (a : List Vl) (ds : List Bool), lord a a ds = 0
  | [], _ => by simp [lord]
  | _ :: _, [] => by simp [lord]
  | a :: x, d :: ds => by rw [lord, if_neg (by rw [vcmp_self]; simp)]; exact lord_self x ds
theorem key_order {a b : List Vl} {ds : List Bool} (h : alike a b) (hd : ds.length = a.length) (ha : allGood a) (hb : allGood b) : bcmp (keyL a ds) (keyL b ds) = lord a b ds := by
  by_cases e : a = b
  · subst e
    rw [bcmp_self, lord_self]
  · exact (key_parts h hd ha hb e).cmp
theorem keyL_front : ∀ (n : Nat) (l : List Vl) (ds : List Bool), keyL (l.take n) (ds.take n) <+: keyL l ds
  | 0, l, ds => by rw [List.take_zero, List.take_zero]; exact List.nil_prefix
  | n + 1, [], ds => by cases ds <;> simp [keyL]
  | n + 1, v :: l, [] => by simp [keyL]
  | n + 1, v :: l, d :: ds => by
    rw [List.take_succ_cons, List.take_succ_cons, keyL, keyL]
    exact (List.prefix_append_right_inj _).2 (keyL_front n l ds)
theorem alike_take : ∀ (n : Nat) {a b : List Vl}, alike a b → alike (a.take n) (b.take n)
  | 0, a, b, _ => by simp [alike]
  | n + 1, [], [], _ => by simp [alike]
  | n + 1, _ :: _, _ :: _, h => ⟨h.1, alike_take n h.2⟩
  | n + 1, [], _ :: _, h => h.elim
  | n + 1, _ :: _, [], h => h.elim
theorem front_iff {a b : List Vl} {ds : List Bool} (h : alike a b) (hd : ds.length = a.length) (ha : allGood a) (hb : allGood b) (n : Nat) :
    keyL (a.take n) (ds.take n) <+: keyL b ds ↔ a.take n = b.take n := by
  constructor
  · intro hp
    refine Decidable.byContradiction fun e => ?_
    have := key_parts (alike_take n h) (ds := ds.take n) (by simp [hd]) (fun v hv => ha v (List.mem_of_mem_take hv)) (fun v hv => hb v (List.mem_of_mem_take hv)) e
    obtain ⟨t, ht⟩ := keyL_front n b ds
    have h2 := this.post [] t
    rw [List.append_nil, ht] at h2
    exact h2.front hp
  · intro e
    rw [e]
    exact keyL_front n b ds

end Go.Proofs.YtgkcflindenboaaDoor

namespace Go.Proofs.YtgkcflindenboaaDoor
open Go Go.RowKit
set_option linter.unusedVariables false
set_option linter.unusedSimpArgs false
set_option maxRecDepth 100000
set_option linter.unusedSimpArgs false
set_option maxRecDepth 100000

/-- What the reading of two bytes as digits may answer. -/
def HexPost (a b : UInt8) (n : Int) : Prop := 0 ≤ n ∧ n < 256 ∧ (half a < 16 → half b < 16 → n = ((half a * 16 + half b : Nat) : Int))
theorem half_dig {c : UInt8} (h1 : 48 ≤ c.toNat) (h2 : c.toNat ≤ 57) : half c = c.toNat - 48 := if_pos ⟨h1, h2⟩
theorem half_let {c : UInt8} (h1 : 97 ≤ c.toNat) (h2 : c.toNat ≤ 102) : half c = c.toNat - 87 := by
  unfold half; rw [if_neg (by omega), if_pos ⟨h1, h2⟩]
theorem half_cases {c : UInt8} (h : half c < 16) : (48 ≤ c.toNat ∧ c.toNat ≤ 57) ∨ (97 ≤ c.toNat ∧ c.toNat ≤ 102) := by
  unfold half at h
  split at h
  · omega
  · split at h
    · omega
    · omega
theorem or32 (c : UInt8) (h1 : 97 ≤ c.toNat) (h2 : c.toNat ≤ 102) : bits .or .u8 (c.toNat : Int) 32 = (c.toNat : Int) := by
  have : c.toNat = 97 ∨ c.toNat = 98 ∨ c.toNat = 99 ∨ c.toNat = 100 ∨ c.toNat = 101 ∨ c.toNat = 102 := by omega
  rcases this with h | h | h | h | h | h <;> rw [h] <;> decide
/-- What has been read of the bytes a, b in front of place k. -/
def HexAt (a b : UInt8) (k : Nat) (n : Int) : Prop :=
  k = 0 ∧ n = 0 ∨ k = 1 ∧ 0 ≤ n ∧ n < 16 ∧ (half a < 16 → n = (half a : Int)) ∨ k = 2 ∧ HexPost a b n
theorem HexAt.lo {a b : UInt8} {k : Nat} {n : Int} (h : HexAt a b k n) (hk : k < 2) : 0 ≤ n ∧ n < 16 := by
  rcases h with ⟨_, rfl⟩ | ⟨_, h1, h2, _⟩ | ⟨h, _⟩ <;> omega
/-- A digit more. -/
theorem HexAt.step {a b c : UInt8} {k : Nat} {n d : Int} (h : HexAt a b k n) (hk : k < 2) (hc : c = if k = 0 then a else b) (h0 : 0 ≤ d) (h16 : d < 16) (hd : half c < 16 → d = (half c : Int)) : HexAt a b (k + 1) (n * 16 + d) := by
  rcases h with ⟨rfl, rfl⟩ | ⟨rfl, h1, h2, h3⟩ | ⟨h, _⟩
  · rw [if_pos rfl] at hc
    subst hc
    exact .inr (.inl ⟨rfl, by omega, by omega, fun h => by have := hd h; omega⟩)
  · rw [if_neg (by decide)] at hc
    subst hc
    exact .inr (.inr ⟨rfl, by omega, by omega, fun ha hb => by have := hd hb; have := h3 ha; omega⟩)
  · omega
/-- What ends the reading early answers nothing that is asked. -/
theorem hex_bad {a b c : UInt8} {k : Nat} (hk : k < 2) (hc : c = if k = 0 then a else b) (h : ¬ half c < 16) : HexPost a b 0 := by
  refine ⟨by omega, by omega, fun ha hb => ?_⟩
  have : k = 0 ∨ k = 1 := by omega
  rcases this with rfl | rfl
  · rw [if_pos rfl] at hc; subst hc; exact absurd ha h
  · rw [if_neg (by decide)] at hc; subst hc; exact absurd hb h


end Go.Proofs.YtgkcflindenboaaDoor

namespace Go.Proofs.YtgkcflindenboaaDoor
open Go Go.RowKit
set_option linter.unusedVariables false
set_option linter.unusedSimpArgs false
set_option maxRecDepth 100000
set_option linter.unusedSimpArgs false
set_option maxRecDepth 100000



theorem bl_mk0 (l : List UInt8) : (ByteArray.mk l.toArray).size = l.length := by rw [← ba_size, ByteArray.toList_mk]
def strLen : Value → Nat | .string t => t.size | _ => 0
/-- What has been read of digits s: l, and t is left. -/
def UnAt (s : ByteArray) (l : List UInt8) (t : ByteArray) : Prop := 2 * l.length + t.size = s.size ∧ ∀ T, s.toList = hexB T → ∃ T2, T = l ++ T2 ∧ t.toList = hexB T2
theorem hexd_lt (i : Nat) (h : i < 16) : half (hexd i) < 16 := by rw [half_hex h]; exact h
theorem UnAt.step {s t u : ByteArray} {l : List UInt8} {a b c : UInt8} {r : List UInt8} {n : Int} (h : UnAt s l t) (ht : t.toList = a :: b :: r) (hu : u.toList = r) (hp : HexPost a b n) (hc : (c.toNat : Int) = n) : UnAt s (l ++ [c]) u := by
  obtain ⟨h1, h2⟩ := h
  have ht' := congrArg List.length ht
  have hu' := congrArg List.length hu
  rw [ba_size] at ht' hu'
  simp only [List.length_cons] at ht'
  refine ⟨by rw [List.length_append, List.length_singleton]; omega, fun T hT => ?_⟩
  obtain ⟨T2, rfl, e⟩ := h2 T hT
  rw [ht] at e
  cases T2 with
  | nil => simp [hexB] at e
  | cons y T3 =>
    simp only [hexB, List.cons.injEq] at e
    obtain ⟨ea, eb, er⟩ := e
    have hy := y.toNat_lt
    have := hp.2.2 (by rw [ea]; exact hexd_lt _ (by omega)) (by rw [eb]; exact hexd_lt _ (by omega))
    rw [ea, eb, half_hex (by omega), half_hex (by omega)] at this
    have hcy : c = y := UInt8.toNat_inj.1 (by omega)
    subst hcy
    exact ⟨T3, by simp, by rw [hu, er]⟩
theorem two_of {t : ByteArray} (h : 2 ≤ t.size) : ∃ a b r, t.toList = a :: b :: r ∧ (t.extract 0 2).toList = [a, b] ∧ (t.extract 2 t.size).toList = r := by
  have hl := ba_size t
  rw [ByteArray.toList_eq] at hl
  match hd : t.data.toList, hl with
  | a :: b :: r, _ =>
    refine ⟨a, b, r, by rw [ByteArray.toList_eq, hd], ?_, ?_⟩
    · rw [ByteArray.toList_eq, Lib.extract_data, hd]; rfl
    · rw [ByteArray.toList_eq, Lib.extract_to_end, hd]; rfl
  | [_], hl => simp at hl; omega
  | [], hl => simp at hl; omega


/-- What has been read of a text's inner bytes s in front of place k: l. -/
def EsAt (s : ByteArray) (k : Nat) (l : List UInt8) : Prop := l.length ≤ k ∧ ∀ T, s.toList = escB T → ∃ T2, T = l ++ T2 ∧ s.toList.drop k = escB T2
theorem drop_get (s : ByteArray) (k : Nat) (h : k < s.size) : s.toList.drop k = s[k] :: s.toList.drop (k + 1) := by
  have h2 : k < s.toList.length := by rw [ba_size]; exact h
  rw [List.drop_eq_getElem_cons h2]
  congr 1
  have := ba_get s k h
  rw [List.getElem?_eq_getElem h2] at this
  exact Option.some.inj this
theorem escd92 : escd 92 = true := by decide
/-- A byte that stands for itself. -/
theorem EsAt.one {s : ByteArray} {k : Nat} {l : List UInt8} (h : EsAt s k l) (hk : k < s.size) (hc : ¬ (s[k] = 92 ∧ k + 2 < s.size)) : EsAt s (k + 1) (l ++ [s[k]]) := by
  obtain ⟨h1, h2⟩ := h
  refine ⟨by rw [List.length_append, List.length_singleton]; omega, fun T hT => ?_⟩
  obtain ⟨T2, rfl, e⟩ := h2 T hT
  rw [drop_get s k hk] at e
  cases T2 with
  | nil => simp [escB] at e
  | cons y T3 =>
    rw [escB] at e
    by_cases hy : escd y = true
    · rw [if_pos hy] at e
      injection e with e1 e2
      exfalso
      apply hc
      refine ⟨e1, ?_⟩
      have := congrArg List.length e2
      rw [List.length_drop, ba_size] at this
      simp only [List.length_cons] at this
      omega
    · rw [if_neg hy] at e
      injection e with e1 e2
      exact ⟨T3, by rw [e1]; simp, e2⟩
/-- A byte that stands as a \\ and two digits. -/
theorem EsAt.three {s x : ByteArray} {k : Nat} {l m : List UInt8} (h : EsAt s k l) (hc : s[k]? = some 92) (hk : k + 2 < s.size) (hx : x.toList = (s.toList.drop (k + 1)).take 2) (hm : 2 * m.length ≤ x.size) (hT : ∀ T, x.toList = hexB T → m = T) : EsAt s (k + 3) (l ++ m) := by
  obtain ⟨h1, h2⟩ := h
  have hxs : x.size ≤ 2 := by rw [← ba_size, hx]; exact List.length_take_le _ _
  refine ⟨by rw [List.length_append]; omega, fun T hT' => ?_⟩
  obtain ⟨T2, rfl, e⟩ := h2 T hT'
  have hk0 : k < s.size := by omega
  have hs92 : s[k] = 92 := by
    rw [getElem?_pos s k hk0] at hc
    exact Option.some.inj hc
  rw [drop_get s k hk0, hs92] at e
  cases T2 with
  | nil => simp [escB] at e
  | cons y T3 =>
    rw [escB] at e
    by_cases hy : escd y = true
    · rw [if_pos hy] at e
      injection e with _ e2
      have hm2 : m = [y] := hT [y] (by rw [hx, e2]; rfl)
      subst hm2
      refine ⟨T3, by simp, ?_⟩
      have : s.toList.drop (k + 3) = (s.toList.drop (k + 1)).drop 2 := by rw [List.drop_drop]
      rw [this, e2]
      rfl
    · rw [if_neg hy] at e
      injection e with e1 e2
      rw [← e1] at hy
      exact absurd escd92 hy


end Go.Proofs.YtgkcflindenboaaDoor

namespace Go.Proofs.YtgkcflindenboaaDoor
set_option linter.unusedVariables false
set_option linter.unusedSimpArgs false
set_option maxRecDepth 100000
set_option linter.unusedSimpArgs false
open Go.Lib (parseUintM parseUintB parseIntB)

theorem parseM_app (M : Nat) : ∀ (l r : List UInt8) (acc u : Nat), parseUintM M acc l = .ok u → parseUintM M acc (l ++ r) = parseUintM M u r
  | [], r, acc, u, h => by
    simp only [parseUintM] at h
    injection h with h
    subst h
    rfl
  | c :: l, r, acc, u, h => by
    simp only [parseUintM, List.cons_append] at h ⊢
    by_cases h1 : 48 ≤ c.toNat ∧ c.toNat ≤ 57
    · rw [if_pos h1] at h ⊢
      by_cases h2 : 1844674407370955162 ≤ acc
      · rw [if_pos h2] at h; cases h
      · rw [if_neg h2] at h ⊢
        by_cases h3 : M < acc * 10 + (c.toNat - 48)
        · rw [if_pos h3] at h; cases h
        · rw [if_neg h3] at h ⊢
          exact parseM_app M l r _ u h
    · rw [if_neg h1] at h; cases h
theorem parseM_one (M acc i : Nat) (hi : i < 10) (ha : acc < 1844674407370955162) (hM : acc * 10 + i ≤ M) : parseUintM M acc [UInt8.ofNat (48 + i)] = .ok (acc * 10 + i) := by
  have e := ofNat_dig hi
  simp only [parseUintM]
  rw [e, if_pos (by omega), if_neg (by omega), if_neg (by omega)]
  congr 1
  omega
theorem parseM_dig (M : Nat) (hM : M < 18446744073709551616) (n : Nat) (hn : n ≤ M) : parseUintM M 0 (dig n) = .ok n := by
  induction n using Nat.strongRecOn with
  | ind n ih =>
    by_cases h : n < 10
    · rw [dig_lo h, parseM_one M 0 n h (by omega) (by omega)]
      congr 1
      omega
    · rw [dig_hi h, parseM_app M _ _ 0 (n / 10) (ih (n / 10) (by omega) (by omega)), parseM_one M _ _ (by omega) (by omega) (by omega)]
      congr 1
      omega
theorem parseU_dig (n : Nat) (hn : n < M64) : parseUintB 64 (dig n) = .ok n := by
  unfold parseUintB M64 at *
  rw [if_neg (dig_ne n)]
  exact parseM_dig _ (by decide) n (by show n ≤ 18446744073709551615; omega)
/-- An Int's text. -/
def itxt (m : Nat) : List UInt8 := if sgn m < 0 then 45 :: dig (M64 - m) else dig m
theorem parseI_txt (m : Nat) (hm : m < M64) : parseIntB 64 (itxt m) = .ok (sgn m) := by
  unfold itxt
  have p63 : (2 : Nat) ^ (64 - 1) = 9223372036854775808 := by decide
  by_cases h : sgn m < 0
  · have hs : sgn m = (m : Int) - 18446744073709551616 ∧ 9223372036854775808 ≤ m := by
      unfold sgn at h ⊢
      split at h
      · omega
      · exact ⟨by rw [if_neg (by assumption)], by omega⟩
    rw [if_pos h]
    simp only [parseIntB]
    rw [if_pos (show ((45 : UInt8).toNat = 43 ∨ (45 : UInt8).toNat = 45) from .inr rfl), parseU_dig (M64 - m) (by unfold M64 at *; omega)]
    simp only [p63]
    rw [if_neg (fun h => h.1 rfl), if_neg (by unfold M64 at *; omega), if_pos (show (45 : UInt8).toNat = 45 from rfl)]
    congr 1
    unfold M64 at *
    omega
  · have hs : sgn m = (m : Int) ∧ m < 9223372036854775808 := by
      unfold sgn M64 at *
      split at h
      · exact ⟨by rw [if_pos (by assumption)], by assumption⟩
      · omega
    rw [if_neg h]
    obtain ⟨c, r, hd, hc⟩ := dig_head m
    have hp := parseU_dig m hm
    rw [hd] at hp ⊢
    simp only [parseIntB]
    rw [if_neg (show ¬ (c.toNat = 43 ∨ c.toNat = 45) by omega), hp]
    simp only [p63]
    rw [if_neg (by omega), if_neg (by omega), if_neg (show ¬ c.toNat = 45 by omega), hs.1]

/-- v is the only value whose text s may be. -/
def Reads (s : List UInt8) (v : Vl) : Prop := ∀ u : Vl, u.okB = true → u.N < M64 → vtext u = s → v = u
theorem reads_of {s : List UInt8} {v : Vl} (hv : v.okB = true) (hN : v.N < M64) (h : vtext v = s) : Reads s v := fun u hu hM e => vtext_inj hv hN hM (h.trans e.symm)
/-- Each value's text, by its kind. -/
theorem text_kinds (u : Vl) (hu : u.okB = true) (hM : u.N < M64) :
    u = ⟨0, 0, []⟩ ∧ vtext u = tNull ∨ u = ⟨3, 1, []⟩ ∧ vtext u = tTrue ∨ u = ⟨3, 0, []⟩ ∧ vtext u = tFalse ∨
    u = ⟨4, 0, u.S⟩ ∧ vtext u = 120 :: hexB u.S ∨ u = ⟨5, 0, u.S⟩ ∧ vtext u = 34 :: (escB u.S ++ [34]) ∨
    u = ⟨2, u.N, []⟩ ∧ vtext u = dig u.N ++ [117] ∨ u = ⟨1, u.N, []⟩ ∧ vtext u = itxt u.N := by
  obtain ⟨K, N, S⟩ := u
  have hu0 := hu
  unfold vtext
  rw [if_neg (by rw [hu0]; decide)]
  simp only at hM ⊢
  by_cases k0 : K = 0
  · subst k0
    simp [Vl.okB] at hu
    left; exact ⟨by rw [hu.1, hu.2], by rw [if_pos rfl]⟩
  rw [if_neg k0]
  by_cases k1 : K = 1
  · subst k1
    simp [Vl.okB] at hu
    rw [if_pos rfl]
    exact .inr (.inr (.inr (.inr (.inr (.inr ⟨by rw [hu], rfl⟩)))))
  rw [if_neg k1]
  by_cases k2 : K = 2
  · subst k2
    simp [Vl.okB] at hu
    rw [if_pos rfl]
    exact .inr (.inr (.inr (.inr (.inr (.inl ⟨by rw [hu], rfl⟩)))))
  rw [if_neg k2]
  by_cases k3 : K = 3
  · subst k3
    simp [Vl.okB] at hu
    rw [if_pos rfl]
    have : N = 0 ∨ N = 1 := by omega
    rcases this with rfl | rfl
    · exact .inr (.inr (.inl ⟨by rw [hu.2], by rw [if_neg (by decide)]⟩))
    · exact .inr (.inl ⟨by rw [hu.2], by rw [if_pos rfl]⟩)
  rw [if_neg k3]
  by_cases k4 : K = 4
  · subst k4
    simp [Vl.okB] at hu
    rw [if_pos rfl]
    exact .inr (.inr (.inr (.inl ⟨by rw [hu.1], rfl⟩)))
  rw [if_neg k4]
  have k5 : K = 5 := by
    simp only [Vl.okB, if_neg k0, if_neg k3, if_neg k4] at hu
    rw [if_neg (by omega)] at hu
    by_cases e : K = 5
    · exact e
    · rw [if_neg e] at hu; cases hu
  subst k5
  simp [Vl.okB] at hu
  exact .inr (.inr (.inr (.inr (.inl ⟨by rw [hu.1], rfl⟩))))
theorem itxt_head (m : Nat) : ∃ c r, itxt m = c :: r ∧ (c.toNat = 45 ∨ 48 ≤ c.toNat ∧ c.toNat ≤ 57) := by
  unfold itxt
  split
  · exact ⟨45, _, rfl, .inl rfl⟩
  · obtain ⟨c, r, h, hc⟩ := dig_head m
    exact ⟨c, r, h, .inr hc⟩
theorem itxt_last (m : Nat) : ∃ r c, itxt m = r ++ [c] ∧ 48 ≤ c.toNat ∧ c.toNat ≤ 57 := by
  unfold itxt
  split
  · obtain ⟨c, r, h, hc⟩ := dig_last (M64 - m)
    exact ⟨45 :: r, c, by rw [h]; rfl, hc⟩
  · obtain ⟨c, r, h, hc⟩ := dig_last m
    exact ⟨r, c, h, hc⟩
/-- A text that begins with an x. -/
theorem reads_x {r l : List UInt8} (h : ∀ T, r = hexB T → l = T) : Reads (120 :: r) ⟨4, 0, l⟩ := fun u hu hM e => by
  rcases text_kinds u hu hM with ⟨_, t⟩ | ⟨_, t⟩ | ⟨_, t⟩ | ⟨eu, t⟩ | ⟨_, t⟩ | ⟨_, t⟩ | ⟨_, t⟩
  · rw [t] at e; simp [tNull] at e
  · rw [t] at e; simp [tTrue] at e
  · rw [t] at e; simp [tFalse] at e
  · rw [t] at e; injection e with _ e; rw [eu, h _ e.symm]
  · rw [t] at e; simp at e
  · obtain ⟨c, q, hd, hc⟩ := dig_head u.N
    rw [t, hd] at e; simp only [List.cons_append] at e; injection e with e1 e2; rw [e1] at hc; exact absurd hc.2 (by decide)
  · obtain ⟨c, q, hd, hc⟩ := itxt_head u.N
    rw [t, hd] at e; injection e with e1 e2; rw [e1] at hc; exact absurd hc (by decide)
/-- A text that begins with a quote. -/
theorem reads_q {r l : List UInt8} (h : ∀ T, r = escB T ++ [34] → l = T) : Reads (34 :: r) ⟨5, 0, l⟩ := fun u hu hM e => by
  rcases text_kinds u hu hM with ⟨_, t⟩ | ⟨_, t⟩ | ⟨_, t⟩ | ⟨_, t⟩ | ⟨eu, t⟩ | ⟨_, t⟩ | ⟨_, t⟩
  · rw [t] at e; simp [tNull] at e
  · rw [t] at e; simp [tTrue] at e
  · rw [t] at e; simp [tFalse] at e
  · rw [t] at e; simp at e
  · rw [t] at e; injection e with _ e; rw [eu, h _ e.symm]
  · obtain ⟨c, q, hd, hc⟩ := dig_head u.N
    rw [t, hd] at e; simp only [List.cons_append] at e; injection e with e1 e2; rw [e1] at hc; exact absurd hc (by decide)
  · obtain ⟨c, q, hd, hc⟩ := itxt_head u.N
    rw [t, hd] at e; injection e with e1 e2; rw [e1] at hc; exact absurd hc (by decide)
/-- A text that ends in a u, and is none of those. -/
theorem reads_u {s r : List UInt8} {n : Nat} (hs : s = r ++ [117]) (hx : s.head? ≠ some 120) (hq : s.head? ≠ some 34) (h : ∀ m, m < M64 → r = dig m → n = m) : Reads s ⟨2, n, []⟩ := fun u hu hM e => by
  rcases text_kinds u hu hM with ⟨_, t⟩ | ⟨_, t⟩ | ⟨_, t⟩ | ⟨_, t⟩ | ⟨_, t⟩ | ⟨eu, t⟩ | ⟨_, t⟩
  · rw [t, hs] at e; have := congrArg List.getLast? e; simp [tNull] at this
  · rw [t, hs] at e; have := congrArg List.getLast? e; simp [tTrue] at this
  · rw [t, hs] at e; have := congrArg List.getLast? e; simp [tFalse] at this
  · rw [← e, t] at hx; simp at hx
  · rw [← e, t] at hq; simp at hq
  · rw [t, hs] at e
    have := List.append_inj_left' e rfl
    rw [eu, h _ hM this.symm]
  · obtain ⟨q, c, hd, hc⟩ := itxt_last u.N
    rw [t, hd, hs] at e
    have := List.append_inj_right' e rfl
    injection this with e1 e2
    rw [e1] at hc
    exact absurd hc.2 (by decide)
/-- A text that is none of those. -/
theorem reads_i {s : List UInt8} {n : Nat} (h0 : s ≠ tNull) (h1 : s ≠ tTrue) (h2 : s ≠ tFalse) (hx : s.head? ≠ some 120) (hq : s.head? ≠ some 34) (hl : s.getLast? ≠ some 117) (h : ∀ m, m < M64 → s = itxt m → n = m) : Reads s ⟨1, n, []⟩ := fun u hu hM e => by
  rcases text_kinds u hu hM with ⟨_, t⟩ | ⟨_, t⟩ | ⟨_, t⟩ | ⟨_, t⟩ | ⟨_, t⟩ | ⟨_, t⟩ | ⟨eu, t⟩
  · exact absurd (e.symm.trans t) h0
  · exact absurd (e.symm.trans t) h1
  · exact absurd (e.symm.trans t) h2
  · rw [← e, t] at hx; simp at hx
  · rw [← e, t] at hq; simp at hq
  · rw [← e, t] at hl; simp at hl
  · rw [eu, h _ hM (e.symm.trans t)]

/-- What is read of a text, and held against its own text, is what the document says. -/
theorem vparse_reads {s : List UInt8} {v : Vl} (hr : Reads s v) (hN : v.N < M64) (hs : s ≠ []) : vparse s = if vtext v = s then (v, 0) else (⟨0, 0, []⟩, 2) := by
  by_cases h : vtext v = s
  · rw [if_pos h]
    have hv : v.okB = true := by
      cases e : v.okB with
      | true => rfl
      | false => exact absurd (h.symm.trans ((vtext_nil v).2 e)) hs
    exact vparse_text hv hN h
  · rw [if_neg h]
    exact vparse_none (fun u hu hM e => h (by rw [hr u hu hM e]; exact e)) (guess_lt s)

end Go.Proofs.YtgkcflindenboaaDoor

namespace Go.Proofs.YtgkcflindenboaaDoor
open Go Go.RowKit
set_option linter.unusedVariables false
set_option linter.unusedSimpArgs false
set_option maxRecDepth 100000
set_option linter.unusedSimpArgs false
set_option maxRecDepth 100000

theorem err_var {w : World} (h : Tabs w) : (∃ tp p, w.var? Tryd.prog "strconv.ErrSyntax" = some #[.iface tp p]) ∧ ∃ tp p, w.var? Tryd.prog "strconv.ErrRange" = some #[.iface tp p] := ⟨h.syn, h.rng⟩
theorem parseM_le (M : Nat) (hM : M < 18446744073709551616) : ∀ (l : List UInt8) (acc u : Nat), acc < 18446744073709551616 → Lib.parseUintM M acc l = .ok u → u < 18446744073709551616
  | [], acc, u, ha, h => by
    simp only [Lib.parseUintM] at h
    injection h with h
    omega
  | c :: r, acc, u, ha, h => by
    simp only [Lib.parseUintM] at h
    split at h
    · split at h
      · cases h
      · split at h
        · cases h
        · exact parseM_le M hM r _ u (by omega) h
    · cases h
theorem parseU_lt {l : List UInt8} {u : Nat} (h : Lib.parseUintB 64 l = .ok u) : u < M64 := by
  unfold Lib.parseUintB at h
  split at h
  · cases h
  · exact parseM_le _ (by decide) l 0 u (by decide) h

/-- A number that an int64 holds. -/
structure I64 (n : Int) : Prop where
  lo : -9223372036854775808 ≤ n
  hi : n ≤ 9223372036854775807

/-- A comparison with a fixed text. -/
theorem eq_lit {s : ByteArray} {l : List UInt8} {b : Bool} (h : (s.toList == l) = b) : (s.toList == l) = b := h
theorem ne_lit {s : ByteArray} {l : List UInt8} (h : s.toList ≠ l) : (s.toList == l) = false := by simpa using h
theorem pre_yes {l r : List UInt8} {c : UInt8} (h : l = c :: r) : Lib.hasPrefix l [c] = true ∧ Lib.trimPrefix l [c] = r := by
  subst h
  have : Lib.hasPrefix (c :: r) [c] = true := by simp [Lib.hasPrefix]
  exact ⟨this, by unfold Lib.trimPrefix; rw [this]; rfl⟩
theorem pre_no {l : List UInt8} {c : UInt8} (h : l.head? ≠ some c) : Lib.hasPrefix l [c] = false := by
  unfold Lib.hasPrefix
  cases l with
  | nil => rfl
  | cons d r =>
    simp at h
    simp [List.isPrefixOf, Ne.symm h]
theorem suf_yes {l r : List UInt8} {c : UInt8} (h : l = r ++ [c]) : Lib.hasSuffix l [c] = true ∧ Lib.trimSuffix l [c] = r := by
  subst h
  have : Lib.hasSuffix (r ++ [c]) [c] = true := by simp [Lib.hasSuffix, List.isSuffixOf]
  exact ⟨this, by unfold Lib.trimSuffix; rw [this]; simp⟩
theorem suf_no {l : List UInt8} {c : UInt8} (h : l.getLast? ≠ some c) : Lib.hasSuffix l [c] = false := by
  unfold Lib.hasSuffix List.isSuffixOf
  rcases List.eq_nil_or_concat l with rfl | ⟨r, d, rfl⟩
  · rfl
  · simp at h
    simp [List.isPrefixOf]
    intro e; exact absurd e.symm h
def ReadRet (s : ByteArray) (w : World) (e : Ending) (w' : World) : Prop :=
  ∃ (K N : Int) (S : ByteArray), e = .returned (vlv K N S) ∧ U64 N ∧ Reads s.toList (vl K N S) ∧ Below w.heap.size w w'

theorem ba_nil : (ByteArray.mk #[]).toList = [] := ByteArray.toList_mk []
theorem ba_mk1 (l : List UInt8) : (ByteArray.mk l.toArray).toList = l := ByteArray.toList_mk l
theorem conv_uns {n : Int} (h : I64 n) : U64 (IntKind.u64.wrap n) ∧ ∀ m, m < M64 → n = sgn m → (IntKind.u64.wrap n).toNat = m := by
  obtain ⟨a, b⟩ := h
  rw [IntKind.wrap_u64]
  refine ⟨⟨by omega, by omega⟩, fun m hm e => ?_⟩
  unfold sgn M64 at *
  split at e <;> omega
theorem reads_lit {s : ByteArray} {K N : Int} {l : List UInt8} (h0 : s.toList = l) (hv : (⟨K, N.toNat, []⟩ : Vl).okB = true) (hN : N.toNat < M64) (ht : vtext ⟨K, N.toNat, []⟩ = l) : Reads s.toList (vl K N ⟨#[]⟩) := by
  show Reads s.toList ⟨K, N.toNat, (ByteArray.mk #[]).toList⟩
  rw [ba_nil, h0]
  exact reads_of hv hN ht

/-- What a fresh value holds behind a call. -/
theorem res_cells {w w1 : World} {t : TypeId} (hb : Below (w.alloc (.cells #[.int .i64 0, .int .u64 0, .string ⟨#[]⟩] t)).heap.size (w.alloc (.cells #[.int .i64 0, .int .u64 0, .string ⟨#[]⟩] t)) w1) :
    (w1.cell? ⟨w.heap.size, 0, none⟩ = some (.int .i64 0) ∧ w1.cell? ⟨w.heap.size, 1, none⟩ = some (.int .u64 0) ∧ w1.cell? ⟨w.heap.size, 2, none⟩ = some (.string ⟨#[]⟩)) ∧
    (w1.frozen? ⟨w.heap.size, 0, none⟩ = false ∧ w1.frozen? ⟨w.heap.size, 1, none⟩ = false ∧ w1.frozen? ⟨w.heap.size, 2, none⟩ = false) := by
  refine ⟨⟨?_, ?_, ?_⟩, ?_, ?_, ?_⟩
  · rw [hb.cell (by simp <;> omega)]; go_simp
  · rw [hb.cell (by simp <;> omega)]; go_simp
  · rw [hb.cell (by simp <;> omega)]; go_simp
  · rw [hb.frozen (by simp <;> omega)]; go_simp
  · rw [hb.frozen (by simp <;> omega)]; go_simp
  · rw [hb.frozen (by simp <;> omega)]; go_simp
theorem below_set3 {w w1 : World} (h : Below w.heap.size w w1) (a b c : Value) : Below w.heap.size w (((w1.setCell ⟨w.heap.size, 0, none⟩ a).setCell ⟨w.heap.size, 1, none⟩ b).setCell ⟨w.heap.size, 2, none⟩ c) :=
  ((h.setCell (p := ⟨w.heap.size, 0, none⟩) (Nat.le_refl _) a).setCell (p := ⟨w.heap.size, 1, none⟩) (Nat.le_refl _) b).setCell (p := ⟨w.heap.size, 2, none⟩) (Nat.le_refl _) c


end Go.Proofs.YtgkcflindenboaaDoor

namespace Go.Proofs.YtgkcflindenboaaDoor
open Go Go.RowKit
set_option linter.unusedVariables false
set_option linter.unusedSimpArgs false
set_option maxRecDepth 100000
set_option linter.unusedSimpArgs false
set_option maxRecDepth 100000

theorem ret_ba {a b : ByteArray} (h : a.toList = b.toList) : Ending.returned (Value.string a) = .returned (.string b) := by rw [ba_eq h]
/-- What a value's cells hold behind a call. -/
theorem val_cells {K N : Int} {s : ByteArray} {w w1 : World} {t : TypeId} (hb : Below (w.alloc (.cells #[.int .i64 K, .int .u64 N, .string s] t)).heap.size (w.alloc (.cells #[.int .i64 K, .int .u64 N, .string s] t)) w1) :
    w1.cell? ⟨w.heap.size, 0, none⟩ = some (.int .i64 K) ∧ w1.cell? ⟨w.heap.size, 1, none⟩ = some (.int .u64 N) ∧ w1.cell? ⟨w.heap.size, 2, none⟩ = some (.string s) := by
  refine ⟨?_, ?_, ?_⟩ <;> (rw [hb.cell (by simp <;> omega)]; go_simp)
theorem bl_mk (l : List UInt8) : (ByteArray.mk l.toArray).size = l.length := by rw [← ba_size, ByteArray.toList_mk]
theorem ba117 : (ByteArray.mk #[117]).toList = [117] := ByteArray.toList_mk [117]
theorem ba120 : (ByteArray.mk #[120]).toList = [120] := ByteArray.toList_mk [120]
theorem ba34 : (ByteArray.mk #[34]).toList = [34] := ByteArray.toList_mk [34]
theorem baNull : (ByteArray.mk #[110, 117, 108, 108]).toList = tNull := ByteArray.toList_mk [110, 117, 108, 108]
theorem vt_no {v : Vl} (h : v.okB = false) : vtext v = [] := by rw [vtext, if_pos h]
theorem ok_size {K N : Int} {s : ByteArray} (h : (vl K N s).okB = true) : s.size ≤ 64 := by
  have hs := ba_size s
  simp only [Vl.okB] at h
  by_cases k0 : K = 0
  · rw [if_pos k0] at h; simp at h; rw [h.2] at hs; simp at hs; omega
  rw [if_neg k0] at h
  by_cases k12 : K = 1 ∨ K = 2
  · rw [if_pos k12] at h; simp at h; rw [h] at hs; simp at hs; omega
  rw [if_neg k12] at h
  by_cases k3 : K = 3
  · rw [if_pos k3] at h; simp at h; rw [h.2] at hs; simp at hs; omega
  rw [if_neg k3] at h
  by_cases k4 : K = 4
  · rw [if_pos k4] at h; simp at h; omega
  rw [if_neg k4] at h
  by_cases k5 : K = 5
  · rw [if_pos k5] at h; simp at h; omega
  rw [if_neg k5] at h
  cases h
theorem ok_kind {K N : Int} {s : ByteArray} (h : (vl K N s).okB = true) : K = 0 ∨ K = 1 ∨ K = 2 ∨ K = 3 ∨ K = 4 ∨ K = 5 := by
  simp only [Vl.okB] at h
  by_cases k0 : K = 0
  · exact .inl k0
  rw [if_neg k0] at h
  by_cases k12 : K = 1 ∨ K = 2
  · omega
  rw [if_neg k12] at h
  by_cases k3 : K = 3
  · omega
  rw [if_neg k3] at h
  by_cases k4 : K = 4
  · omega
  rw [if_neg k4] at h
  by_cases k5 : K = 5
  · omega
  rw [if_neg k5] at h
  cases h
theorem vt0 {N : Int} {s : ByteArray} (h : (vl 0 N s).okB = true) : vtext (vl 0 N s) = tNull := by rw [vtext, if_neg (by rw [h]; decide)]; rfl
theorem vt1 {N : Int} {s : ByteArray} (h : (vl 1 N s).okB = true) : vtext (vl 1 N s) = if sgn N.toNat < 0 then 45 :: dig (M64 - N.toNat) else dig N.toNat := by rw [vtext, if_neg (by rw [h]; decide)]; rfl
theorem vt2 {N : Int} {s : ByteArray} (h : (vl 2 N s).okB = true) : vtext (vl 2 N s) = dig N.toNat ++ [117] := by rw [vtext, if_neg (by rw [h]; decide)]; rfl
theorem vt3 {N : Int} {s : ByteArray} (h : (vl 3 N s).okB = true) : vtext (vl 3 N s) = if N.toNat = 1 then tTrue else tFalse := by rw [vtext, if_neg (by rw [h]; decide)]; rfl
theorem vt4 {N : Int} {s : ByteArray} (h : (vl 4 N s).okB = true) : vtext (vl 4 N s) = 120 :: hexB s.toList := by rw [vtext, if_neg (by rw [h]; decide)]; rfl
theorem vt5 {N : Int} {s : ByteArray} (h : (vl 5 N s).okB = true) : vtext (vl 5 N s) = 34 :: (escB s.toList ++ [34]) := by rw [vtext, if_neg (by rw [h]; decide)]; rfl


end Go.Proofs.YtgkcflindenboaaDoor

namespace Go.Proofs.YtgkcflindenboaaDoor
open Go Go.RowKit
set_option linter.unusedVariables false
set_option linter.unusedSimpArgs false
set_option maxRecDepth 100000
set_option linter.unusedSimpArgs false
set_option maxRecDepth 100000

/-- What a way to read texts may answer: the document's. -/
def ParseRet (s : ByteArray) (w : World) (e : Ending) (w' : World) : Prop :=
  ∃ (K N : Int) (S : ByteArray) (er : Int), e = .returned (.tuple #[vlv K N S, .int .i64 er]) ∧ U64 N ∧ (vl K N S, er) = vparse s.toList ∧ Below w.heap.size w w'
theorem vt_len (v : Vl) (hN : v.N < M64) : (vtext v).length ≤ 194 := by
  cases hv : v.okB with
  | false => rw [(vtext_nil v).2 hv]; simp
  | true =>
    have hS : v.S.length ≤ 64 := by
      have h := ok_size (K := v.K) (N := (v.N : Int)) (s := ⟨v.S.toArray⟩) (by
        show Vl.okB ⟨v.K, (v.N : Int).toNat, (ByteArray.mk v.S.toArray).toList⟩ = true
        rw [ba_mk1]; exact hv)
      rw [bl_mk] at h
      exact h
    rcases text_kinds v hv hN with ⟨_, t⟩ | ⟨_, t⟩ | ⟨_, t⟩ | ⟨_, t⟩ | ⟨_, t⟩ | ⟨_, t⟩ | ⟨_, t⟩
    · rw [t]; decide
    · rw [t]; decide
    · rw [t]; decide
    · rw [t, List.length_cons, hexB_length]; omega
    · rw [t]; have := escB_length v.S; simp only [List.length_cons, List.length_append, List.length_nil]; omega
    · rw [t, List.length_append]; have := dig_len20 (n := v.N) (by omega); simp only [List.length_cons, List.length_nil]; omega
    · rw [t]; unfold itxt
      split
      · have := dig_len20 (n := M64 - v.N) (by omega); simp only [List.length_cons]; omega
      · have := dig_len20 (n := v.N) (by omega); omega
theorem vparse_bad {s : List UInt8} (h : s = [] ∨ 194 < s.length) : vparse s = (⟨0, 0, []⟩, 2) := by
  rcases h with h | h
  · unfold vparse; rw [if_pos (.inl h)]
  · exact vparse_none (fun v hv hN e => by have := vt_len v hN; rw [e] at this; omega) (guess_lt s)
theorem u64_m {n : Int} (h : U64 n) : n.toNat < M64 := by have := h.lo; have := h.hi; unfold M64; omega

theorem cell_lt {w : World} {a : Addr} {v : Value} (h : w.cell? a = some v) : a.block < w.heap.size := by
  rcases Nat.lt_or_ge a.block w.heap.size with h' | h'
  · exact h'
  · simp [World.cell?, Array.getElem?_eq_none h'] at h
theorem keep_cell {w w1 : World} {o : Obj} {a : Addr} {v : Value} (h : w.cell? a = some v) (hb : Below (w.alloc o).heap.size (w.alloc o) w1) : w1.cell? a = some v := by
  have hl := cell_lt h
  have hb2 : Below w.heap.size w w1 := ((Below.refl _ w).alloc (Nat.le_refl _) o).trans (hb.mono (by simp))
  rw [hb2.cell hl]; exact h
theorem keep_frozen {w w1 : World} {o : Obj} {a : Addr} {v : Value} (h : w.cell? a = some v) (hf : w.frozen? a = false) (hb : Below (w.alloc o).heap.size (w.alloc o) w1) : w1.frozen? a = false := by
  have hl := cell_lt h
  have hb2 : Below w.heap.size w w1 := ((Below.refl _ w).alloc (Nat.le_refl _) o).trans (hb.mono (by simp))
  rw [hb2.frozen hl]; exact hf


end Go.Proofs.YtgkcflindenboaaDoor

namespace Go.Proofs.YtgkcflindenboaaDoor
open Go Go.RowKit
set_option linter.unusedVariables false
set_option linter.unusedSimpArgs false
set_option maxRecDepth 100000
set_option linter.unusedSimpArgs false
set_option maxRecDepth 100000

/-- The reader in block p: what is left, whether it goes down, whether it is bad. -/
def RdIn (p : Nat) (d : Bool) (l : List UInt8) (bad : Bool) (w : World) : Prop :=
  ∃ s : ByteArray, s.toList = l ∧ w.heap[p]? = some (.cells #[.string s, .bool d, .bool bad] 57 (0, 0))
def nxt (d : Bool) (l : List UInt8) : UInt8 := (turnL d l).headD 0
theorem not_wrap (b : UInt8) : ((not8 b).toNat : Int) = 255 - (b.toNat : Int) := by
  have := b.toNat_lt
  rw [not8_toNat]
  omega
theorem xor_not (b : UInt8) : bits .xor .u8 IntKind.u8.max (b.toNat : Int) = ((not8 b).toNat : Int) := by
  have h : ∀ y : Fin 256, bits .xor .u8 IntKind.u8.max (y.val : Int) = 255 - (y.val : Int) := by decide
  rw [not_wrap]
  exact h ⟨b.toNat, b.toNat_lt⟩
theorem ba_drop1 (s : ByteArray) (b : UInt8) (r : List UInt8) (h : s.toList = b :: r) : (s.extract 1 s.size).toList = r := by
  rw [ByteArray.toList_eq] at h ⊢
  rw [Lib.extract_to_end, h]; rfl

set_option maxHeartbeats 1000000 in
theorem rd_next (p : Nat) (d : Bool) (l : List UInt8) (bad : Bool) (w : World) (h : RdIn p d l bad w) :
    Calls Tryd.prog 48 #[.pointer (some ⟨p, 0, none⟩)] w fun e w' => e = .returned (.int .u8 ((nxt d l).toNat : Int)) ∧ RdIn p d (l.drop 1) (bad || l.isEmpty) w' ∧ Only (fun k => k = p) w w' := by
  obtain ⟨s, rfl, hp⟩ := h
  have HP := Lib.hid hp
  have c0 : w.cell? ⟨p, 0, none⟩ = some (.string s) := by simp [World.cell?, hp]
  have c1 : w.cell? ⟨p, 1, none⟩ = some (.bool d) := by simp [World.cell?, hp]
  have f0 : w.frozen? ⟨p, 0, none⟩ = false := by simp [World.frozen?, hp]
  have f2 : w.frozen? ⟨p, 2, none⟩ = false := by simp [World.frozen?, hp]
  have c2 : w.cell? ⟨p, 2, none⟩ = some (.bool bad) := by simp [World.cell?, hp]
  clear hp
  match hl : s.toList with
  | [] =>
    have he : (s.toList == ([] : List UInt8)) = true := by rw [hl]; rfl
    have he2 : s = ⟨#[]⟩ := ba_eq (by rw [hl, ba_nil])
    subst he2
    clear he hl
    go_enter Tryd.func48, Tryd.ntmps48
    go_wp2
    go_ret
    refine ⟨by cases d <;> rfl, ⟨⟨#[]⟩, ba_nil, ?_⟩, Only.cell w p 2 _⟩
    rw [heap_set HP.out]
    cases bad <;> rfl
  | b :: r =>
    have hs0 : 0 < s.size := by rw [← ba_size, hl]; simp
    have hne : (s.toList == ([] : List UInt8)) = false := by rw [hl]; rfl
    have hb : s[0] = b := by
      have := ba_get s 0 hs0
      rw [hl] at this
      simpa using this.symm
    have HD := Lib.hid (ba_drop1 s b r hl)
    clear hl
    cases d with
    | false =>
      go_enter Tryd.func48, Tryd.ntmps48
      go_wp2
      go_ret
      refine ⟨rfl, ⟨_, HD.out, ?_⟩, Only.cell w p 0 _⟩
      rw [heap_set HP.out]
      cases bad <;> rfl
    | true =>
      go_enter Tryd.func48, Tryd.ntmps48
      go_wp2
      go_ret
      refine ⟨?_, ⟨_, HD.out, ?_⟩, Only.cell w p 0 _⟩
      · rw [show nxt true (b :: r) = not8 b from rfl, ← xor_not]; rfl
      · rw [heap_set HP.out]
        cases bad <;> rfl

/-- Behind k bytes of a number. -/
structure NumAt (w : World) (p : Nat) (d : Bool) (l : List UInt8) (bad : Bool) (k m : Nat) (wr : World) : Prop where
  at' : RdIn p d (l.drop k) (bad || decide (l.length < k)) wr
  only : Only (fun k => k = p) w wr
  val : k ≤ l.length → m = numB ((turnL d l).take k)
theorem turnL_drop (d : Bool) (l : List UInt8) (k : Nat) : turnL d (l.drop k) = (turnL d l).drop k := by cases d <;> simp [turnL]
theorem NumAt.step {w wr w1 : World} {p : Nat} {d : Bool} {l : List UInt8} {bad : Bool} {k m : Nat} (h : NumAt w p d l bad k m wr) (hk : k < 8)
    (hr : RdIn p d ((l.drop k).drop 1) ((bad || decide (l.length < k)) || (l.drop k).isEmpty) w1) (ho : Only (fun k => k = p) wr w1) : NumAt w p d l bad (k + 1) (m * 256 + (nxt d (l.drop k)).toNat) w1 := by
  refine ⟨?_, h.only.trans ho (fun _ _ e => e), fun hl => ?_⟩
  · rw [List.drop_drop] at hr
    have e : ((bad || decide (l.length < k)) || (l.drop k).isEmpty) = (bad || decide (l.length < k + 1)) := by
      rw [Bool.or_assoc]
      congr 1
      rw [Bool.eq_iff_iff]
      simp only [Bool.or_eq_true, decide_eq_true_eq, List.isEmpty_iff, List.drop_eq_nil_iff]
      omega
    rw [e] at hr
    exact hr
  · have hlt : k < (turnL d l).length := by rw [turnL_length]; omega
    rw [h.val (by omega), List.take_succ_eq_append_getElem hlt, numB_snoc]
    congr 2
    unfold nxt
    rw [turnL_drop, List.headD_eq_head?_getD, List.head?_drop, List.getElem?_eq_getElem hlt]
    rfl

set_option maxHeartbeats 1000000 in
theorem rd_number (p : Nat) (d : Bool) (l : List UInt8) (bad : Bool) (w : World) (h : RdIn p d l bad w) :
    Calls Tryd.prog 68 #[.pointer (some ⟨p, 0, none⟩)] w fun e w' => ∃ n : Nat, e = .returned (.int .u64 (n : Int)) ∧ n < 18446744073709551616 ∧ (8 ≤ l.length → n = numB ((turnL d l).take 8)) ∧ RdIn p d (l.drop 8) (bad || decide (l.length < 8)) w' ∧ Only (fun k => k = p) w w' := by
  have H := Lib.hid h
  clear h
  go_enter Tryd.func68, Tryd.ntmps68
  go_wp2
  go_loopw [3, 4] (fun x i wr => ∃ k m : Nat, k ≤ 8 ∧ x = .int .u64 (m : Int) ∧ i = .int .i64 (k : Int) ∧ m < 256 ^ k ∧ Hid (NumAt w p d l bad k m wr)) (fun _ i _ => 8 - (intOf i).toNat)
  case atStart => exact ⟨0, 0, by omega, rfl, rfl, by decide, Lib.hid ⟨by simpa using H.out, Only.refl _ _, fun _ => rfl⟩⟩
  case round =>
    clear H
    obtain ⟨k, m, hk, rfl, rfl, hm, HN⟩ := hrel
    by_cases hk8 : k < 8
    · have hkI : (k : Int) < 8 := by omega
      have hm7 : m < 72057594037927936 := by
        have h2 : 256 ^ k ≤ 256 ^ 7 := Nat.pow_le_pow_right (by omega) (by omega)
        omega
      obtain ⟨b, hb⟩ : ∃ b, nxt d (l.drop k) = b := ⟨_, rfl⟩
      have HBN := Lib.hid hb
      have ho := or_step m b.toNat hm7 b.toNat_lt
      have HM := Lib.hid hm
      clear hm hb
      go_wp2_with fail
      refine (rd_next p d (l.drop k) _ _ HN.out.at').mono ?_
      rintro e w1 ⟨rfl, hr1, ho1⟩
      rw [HBN.out]
      have HN1 := Lib.hid (HN.out.step hk8 hr1 ho1)
      clear hr1 ho1
      go_wp2_with fail
      go_roundw
      case rel => exact ⟨k + 1, m * 256 + b.toNat, by omega, by go_num, by go_num, by have := HM.out; have := b.toNat_lt; rw [Nat.pow_succ]; omega, Lib.hid (by rw [← HBN.out]; exact HN1.out)⟩
      case measure => simp [intOf]; omega
    · obtain rfl : k = 8 := by omega
      go_wp2_with fail
      go_ret
      refine ⟨m, rfl, by rw [← pow8]; exact hm, HN.out.val, HN.out.at', HN.out.only⟩

end Go.Proofs.YtgkcflindenboaaDoor

namespace Go.Proofs.YtgkcflindenboaaDoor
open Go Go.RowKit
set_option linter.unusedVariables false
set_option linter.unusedSimpArgs false
set_option maxRecDepth 100000
set_option linter.unusedSimpArgs false
set_option maxRecDepth 100000

theorem RdIn.cell2 {p : Nat} {d : Bool} {l : List UInt8} {bad : Bool} {w : World} (h : RdIn p d l bad w) : w.cell? ⟨p, 2, none⟩ = some (.bool bad) := by
  obtain ⟨s, _, hp⟩ := h
  simp [World.cell?, hp]
theorem RdIn.free {p : Nat} {d : Bool} {l : List UInt8} {bad : Bool} {w : World} (h : RdIn p d l bad w) (o : Nat) : w.frozen? ⟨p, o, none⟩ = false := by
  obtain ⟨s, _, hp⟩ := h
  simp [World.frozen?, hp]
theorem RdIn.lt {p : Nat} {d : Bool} {l : List UInt8} {bad : Bool} {w : World} (h : RdIn p d l bad w) : p < w.heap.size := by
  obtain ⟨s, _, hp⟩ := h
  exact lt_of_some hp
theorem RdIn.keep {p : Nat} {d : Bool} {l : List UInt8} {bad : Bool} {w w' : World} (h : RdIn p d l bad w) (hk : w'.heap[p]? = w.heap[p]?) : RdIn p d l bad w' := by
  obtain ⟨s, hs, hp⟩ := h
  exact ⟨s, hs, hk.trans hp⟩
theorem RdIn.mark {p : Nat} {d : Bool} {l : List UInt8} {bad : Bool} {w : World} (h : RdIn p d l bad w) (b : Bool) : RdIn p d l b (w.setCell ⟨p, 2, none⟩ (.bool b)) := by
  obtain ⟨s, hs, hp⟩ := h
  exact ⟨s, hs, by rw [heap_set hp]; rfl⟩
/-- What is left to do. -/
def rdM (p : Nat) (w : World) : Nat := match w.cell? ⟨p, 2, none⟩ with
  | some (.bool false) => (match w.cell? ⟨p, 0, none⟩ with | some (.string s) => s.size + 1 | _ => 0)
  | _ => 0
theorem RdIn.m {p : Nat} {d : Bool} {l : List UInt8} {w : World} (h : RdIn p d l false w) : rdM p w = l.length + 1 := by
  obtain ⟨s, hs, hp⟩ := h
  have h2 : w.cell? ⟨p, 2, none⟩ = some (.bool false) := by simp [World.cell?, hp]
  have h0 : w.cell? ⟨p, 0, none⟩ = some (.string s) := by simp [World.cell?, hp]
  unfold rdM
  rw [h2, h0]
  show s.size + 1 = _
  rw [← hs, ba_size]
theorem RdIn.m0 {p : Nat} {d : Bool} {l : List UInt8} {w : World} (h : RdIn p d l true w) : rdM p w = 0 := by
  unfold rdM
  rw [h.cell2]
theorem isB_only {B b p : Nat} {bs : List Value} {w w' : World} (h : IsB B b bs w) (ho : Only (fun k => k = p) w w') (hp : p < B) : IsB B b bs w' := by
  refine h.imp (fun h => ?_) (fun h => ?_)
  all_goals
    obtain ⟨hB, v, hbk, hown, hne⟩ := h
    exact ⟨hB, v, ho.keep hbk (fun e => by omega), own_keepAt hown (fun k hk => ho.block k (hown.lt k hk).2 (fun e => by have := (hown.lt k hk).1; omega)), hne⟩
theorem only_below {B : Nat} {S : Nat → Prop} {w w1 w2 : World} (h : Only S w w1) (hb : Below B w1 w2) (hB : w.heap.size ≤ B) : Only S w w2 :=
  h.trans (T := fun k => B ≤ k) ⟨hb.os, hb.tape, hb.output, hb.size, fun k _ hk => hb.block k (by omega)⟩ (fun k hk e => by omega)

structure TxtAt (w : World) (p : Nat) (d : Bool) (l acc l1 : List UInt8) (bad : Bool) (wr : World) : Prop where
  at' : RdIn p d l1 bad wr
  bld : IsB w.heap.size w.heap.size (Lib.byteCells acc) wr
  only : Only (fun k => k = p) w wr
  lt : p < w.heap.size
  len : acc.length + l1.length ≤ l.length
  good : bad = false → txtK (turnL d l) = (txtK (turnL d l1)).map (fun x => (acc ++ x.1, x.2))
  fell : bad = true → txtK (turnL d l) = none
theorem TxtAt.size {w : World} {p : Nat} {d : Bool} {l acc l1 : List UInt8} {bad : Bool} {wr : World} (h : TxtAt w p d l acc l1 bad wr) : w.heap.size ≤ wr.heap.size := h.only.size
theorem turnL_cons (d : Bool) (b : UInt8) (r : List UInt8) : turnL d (b :: r) = nxt d (b :: r) :: turnL d r := by cases d <;> rfl
/-- Behind a byte that isn't 0. -/
theorem TxtAt.own {w wr w1 w2 : World} {p : Nat} {d : Bool} {l acc r : List UInt8} {c : UInt8} (h : TxtAt w p d l acc (c :: r) false wr) (hc : nxt d (c :: r) ≠ 0)
    (hr : RdIn p d r false w1) (ho : Only (fun k => k = p) wr w1) (hb : UsedB w.heap.size w.heap.size (Lib.byteCells (acc ++ [nxt d (c :: r)])) w2) (hbe : Below w.heap.size w1 w2) : TxtAt w p d l (acc ++ [nxt d (c :: r)]) r false w2 := by
  refine ⟨hr.keep (hbe.block p h.lt), .inr hb, only_below (h.only.trans ho (fun _ _ e => e)) hbe (Nat.le_refl _), h.lt, by have := h.len; simp only [List.length_append, List.length_cons, List.length_nil] at this ⊢; omega, fun _ => ?_, fun e => by cases e⟩
  rw [h.good rfl, turnL_cons, txtK_own hc, Option.map_map]
  congr 1
  funext x
  simp
/-- Behind a byte 0 and a mark that isn't the end's. -/
theorem TxtAt.zero {w wr w1 w2 : World} {p : Nat} {d : Bool} {l acc q : List UInt8} {c m : UInt8} {bad : Bool} (h : TxtAt w p d l acc (c :: m :: q) false wr) (hc : nxt d (c :: m :: q) = 0) (hm : nxt d (m :: q) ≠ 0) (hbad : bad = !decide (nxt d (m :: q) = 255))
    (hr : RdIn p d q bad w1) (ho : Only (fun k => k = p) wr w1) (hb : UsedB w.heap.size w.heap.size (Lib.byteCells (acc ++ [0])) w2) (hbe : Below w.heap.size w1 w2) : TxtAt w p d l (acc ++ [0]) q bad w2 := by
  have e : txtK (turnL d l) = (if nxt d (m :: q) = 255 then (txtK (turnL d q)).map (fun x => ((0 : UInt8) :: x.1, x.2)) else none).map (fun x => (acc ++ x.1, x.2)) := by
    rw [h.good rfl, turnL_cons, turnL_cons, hc, txtK_zero, if_neg hm]
  refine ⟨hr.keep (hbe.block p h.lt), .inr hb, only_below (h.only.trans ho (fun _ _ e => e)) hbe (Nat.le_refl _), h.lt, by have := h.len; simp only [List.length_append, List.length_cons, List.length_nil] at this ⊢; omega, fun hf => ?_, fun hf => ?_⟩
  · have h255 : nxt d (m :: q) = 255 := by rw [hbad] at hf; simpa using hf
    rw [e, if_pos h255, Option.map_map]
    congr 1
    funext x
    simp
  · have h255 : ¬ nxt d (m :: q) = 255 := by rw [hbad] at hf; simpa using hf
    rw [e, if_neg h255]
    rfl
theorem nxt_nil (d : Bool) : nxt d [] = 0 := by cases d <;> rfl
theorem nxt_int {b : UInt8} (h : b ≠ 0) : ((b.toNat : Int) == 0) = false := by
  have : b.toNat ≠ 0 := fun e => h (UInt8.toNat_inj.1 e)
  simp
  omega
def TxtPost (p : Nat) (d : Bool) (l : List UInt8) (w : World) (e : Ending) (w' : World) : Prop :=
  ∃ (s : List UInt8) (l' : List UInt8) (bad : Bool), e = .returned (.string ⟨s.toArray⟩) ∧ RdIn p d l' bad w' ∧ Only (fun k => k = p) w w' ∧
      (txtK (turnL d l) = none ∧ bad = true ∨ bad = false ∧ txtK (turnL d l) = some (s, turnL d l'))

set_option maxHeartbeats 2000000 in
theorem rd_text (p : Nat) (d : Bool) (l : List UInt8) (w : World) (h : RdIn p d l false w) (hl : l.length ≤ 4096) :
    Calls Tryd.prog 69 #[.pointer (some ⟨p, 0, none⟩)] w fun e w' => TxtPost p d l w e w' := by
  have HB := Lib.hid (show TxtAt w p d l [] l false (w.alloc (.cells #[.pointer none, .slice none 0 0] 115)) from
    ⟨h.keep (Below.heap_alloc _ _ _ h.lt), Lib.fresh_isBuilder _ _ w, (Only.refl _ w).alloc _, h.lt, by simp, fun _ => by
      have : (fun x : List UInt8 × List UInt8 => (([] : List UInt8) ++ x.1, x.2)) = id := by funext x; simp
      rw [this, Option.map_id]; rfl, fun e => by cases e⟩)
  clear h
  go_enter Tryd.func69, Tryd.ntmps69
  go_wp2
  generalize w.alloc (.cells #[.pointer none, .slice none 0 0] 115) = w0 at *
  go_loopw [4, 5] (fun _ _ wr => ∃ (acc l1 : List UInt8) (bad : Bool), Hid (TxtAt w p d l acc l1 bad wr)) (fun _ _ wr => rdM p wr)
  case atStart => exact ⟨[], l, false, HB⟩
  case round =>
    clear HB
    obtain ⟨acc, l1, bad, HT⟩ := hrel
    have c2 := HT.out.at'.cell2
    cases bad with
    | true =>
      go_wp2_with fail
      go_ret
      exact ⟨[], l1, true, rfl, HT.out.at', HT.out.only, .inl ⟨HT.out.fell rfl, rfl⟩⟩
    | false =>
      have HM := Lib.hid HT.out.at'.m
      have HLEN := Lib.hid HT.out.len
      match l1, HT, HM, HLEN with
      | [], HT, HM, HLEN =>
        go_wp2_with fail
        refine (rd_next p d [] _ _ HT.out.at').mono ?_
        rintro e w1 ⟨rfl, hr1, ho1⟩
        have HR1 := Lib.hid hr1
        have HO1 := Lib.hid (HT.out.only.trans ho1 (fun _ _ e => e))
        have HI1 := Lib.hid (isB_only HT.out.bld ho1 HT.out.lt)
        clear hr1 ho1 c2
        rw [nxt_nil]
        go_wp2_with fail
        refine (rd_next p d [] _ _ HR1.out).mono ?_
        rintro e w2 ⟨rfl, hr2, ho2⟩
        have HR2 := Lib.hid hr2
        have HO2 := Lib.hid (HO1.out.trans ho2 (fun _ _ e => e))
        have HI2 := Lib.hid (isB_only HI1.out ho2 HT.out.lt)
        clear hr2 ho2
        rw [nxt_nil]
        go_wp2_with fail
        refine (Tryd.Builder_String_any _ w.heap.size acc _ HI2.out HO2.out.size).mono ?_
        rintro e w3 ⟨rfl, hb3⟩
        have HR3 := Lib.hid (HR2.out.keep (hb3.block p HT.out.lt))
        have HO3 := Lib.hid (only_below HO2.out hb3 (Nat.le_refl _))
        clear hb3
        go_wp2_with fail
        go_ret
        refine ⟨acc, [], true, rfl, HR3.out, HO3.out, .inl ⟨?_, rfl⟩⟩
        rw [HT.out.good rfl, turnL_nil]
        rfl
      | c :: r, HT, HM, HLEN =>
        go_wp2_with fail
        refine (rd_next p d (c :: r) _ _ HT.out.at').mono ?_
        rintro e w1 ⟨rfl, hr1, ho1⟩
        obtain ⟨b, hb⟩ : ∃ b, nxt d (c :: r) = b := ⟨_, rfl⟩
        have HBN := Lib.hid hb
        rw [hb]
        have HR1 : Hid (RdIn p d r false w1) := Lib.hid hr1
        have HO1 := Lib.hid ho1
        have HI1 := Lib.hid (isB_only HT.out.bld ho1 HT.out.lt)
        have HS1 : Hid (w.heap.size ≤ w1.heap.size) := Lib.hid (Nat.le_trans HT.out.only.size ho1.size)
        clear hr1 ho1 hb c2
        by_cases hb0 : b = 0
        · have HB0 := Lib.hid hb0
          rw [hb0]
          rw [show ((0 : UInt8).toNat : Int) = 0 from rfl]
          clear hb0
          match r, HT, HR1, HBN, HM, HLEN with
          | [], HT, HR1, HBN, HM, HLEN =>
            go_wp2_with fail
            refine (rd_next p d [] _ _ HR1.out).mono ?_
            rintro e w2 ⟨rfl, hr2, ho2⟩
            have HR2 := Lib.hid hr2
            have HO2 := Lib.hid ((HT.out.only.trans HO1.out (fun _ _ e => e)).trans ho2 (fun _ _ e => e))
            have HI2 := Lib.hid (isB_only HI1.out ho2 HT.out.lt)
            clear hr2 ho2
            rw [nxt_nil]
            go_wp2_with fail
            refine (Tryd.Builder_String_any _ w.heap.size acc _ HI2.out HO2.out.size).mono ?_
            rintro e w3 ⟨rfl, hb3⟩
            have HR3 := Lib.hid (HR2.out.keep (hb3.block p HT.out.lt))
            have HO3 := Lib.hid (only_below HO2.out hb3 (Nat.le_refl _))
            clear hb3
            go_wp2_with fail
            go_ret
            refine ⟨acc, [], true, rfl, HR3.out, HO3.out, .inl ⟨?_, rfl⟩⟩
            rw [HT.out.good rfl, turnL_cons, HBN.out, HB0.out, turnL_nil]
            rfl
          | m :: q, HT, HR1, HBN, HM, HLEN =>
            go_wp2_with fail
            refine (rd_next p d (m :: q) _ _ HR1.out).mono ?_
            rintro e w2 ⟨rfl, hr2, ho2⟩
            obtain ⟨x, hx⟩ : ∃ x, nxt d (m :: q) = x := ⟨_, rfl⟩
            have HXN := Lib.hid hx
            rw [hx]
            have HR2 : Hid (RdIn p d q false w2) := Lib.hid hr2
            have HO2 := Lib.hid (HO1.out.trans ho2 (fun _ _ e => e))
            have HI2 := Lib.hid (isB_only HI1.out ho2 HT.out.lt)
            have HS2 : Hid (w.heap.size ≤ w2.heap.size) := Lib.hid (Nat.le_trans HS1.out ho2.size)
            clear hr2 ho2 hx
            by_cases hx0 : x = 0
            · have HX0 := Lib.hid hx0
              rw [hx0]
              rw [show ((0 : UInt8).toNat : Int) = 0 from rfl]
              clear hx0
              go_wp2_with fail
              refine (Tryd.Builder_String_any _ w.heap.size acc _ HI2.out HS2.out).mono ?_
              rintro e w3 ⟨rfl, hb3⟩
              have HR3 := Lib.hid (HR2.out.keep (hb3.block p HT.out.lt))
              have HO3 := Lib.hid (only_below (HT.out.only.trans HO2.out (fun _ _ e => e)) hb3 (Nat.le_refl _))
              clear hb3
              go_wp2_with fail
              go_ret
              refine ⟨acc, q, false, rfl, HR3.out, HO3.out, .inr ⟨rfl, ?_⟩⟩
              rw [HT.out.good rfl, turnL_cons, turnL_cons, HBN.out, HB0.out, HXN.out, HX0.out, txtK_zero, if_pos rfl]
              simp
            · have HX0 := Lib.hid hx0
              have hxz := nxt_int hx0
              have hxb : ((x.toNat : Int) != 255) = !decide (x = 255) := by
                rw [Bool.eq_iff_iff]
                simp only [bne_iff_ne, ne_eq, Bool.not_eq_true', decide_eq_false_iff_not]
                constructor
                · intro h e; exact h (by rw [e]; rfl)
                · intro h e; exact h (UInt8.toNat_inj.1 (by have : (255 : UInt8).toNat = 255 := rfl; omega))
              obtain ⟨bd, hbd⟩ : ∃ bd, (!decide (x = 255)) = bd := ⟨_, rfl⟩
              rw [hbd] at hxb
              have HBD := Lib.hid hbd
              have c2 := HR2.out.cell2
              have f2 := HR2.out.free 2
              have HR3 := Lib.hid (HR2.out.mark bd)
              have HO3 := Lib.hid (HO2.out.trans (Only.cell w2 p 2 (.bool bd)) (fun _ _ e => e))
              have HI3 := Lib.hid (isB_only HI2.out (Only.cell w2 p 2 (.bool bd)) HT.out.lt)
              have HS3 : Hid (w.heap.size ≤ (w2.setCell ⟨p, 2, none⟩ (.bool bd)).heap.size) := Lib.hid (by simpa [World.setCell] using HS2.out)
              clear hx0 hbd
              go_wp2_with fail
              refine (wbyte_any _ w.heap.size _ ((0 : UInt8).toNat : Int) _ HI3.out (by rw [bytes_len]; have := HLEN.out; simp at this; omega) HS3.out).mono ?_
              rintro e w4 ⟨rfl, hu, hb4⟩
              rw [bytes_snoc] at hu
              have HT4 := Lib.hid (HT.out.zero (by rw [HBN.out, HB0.out]) (by rw [HXN.out]; exact HX0.out) (by rw [HXN.out]; exact HBD.out.symm) HR3.out HO3.out hu hb4)
              clear hu hb4 hxz hxb c2 f2
              go_wp2_with fail
              go_roundw
              case rel => exact ⟨_, _, _, HT4⟩
              case measure =>
                rw [HM.out]
                cases bd
                · rw [HT4.out.at'.m]; first | (simp; done) | (simp; omega)
                · rw [HT4.out.at'.m0]; first | omega | simp
        · have HB0 := Lib.hid hb0
          have hbz := nxt_int hb0
          clear hb0
          go_wp2_with fail
          refine (wbyte_any _ w.heap.size _ (b.toNat : Int) _ HI1.out (by rw [bytes_len]; have := HLEN.out; simp at this; omega) HS1.out).mono ?_
          rintro e w4 ⟨rfl, hu, hb4⟩
          rw [bytes_snoc] at hu
          have HT4 := Lib.hid (HT.out.own (by rw [HBN.out]; exact HB0.out) HR1.out HO1.out (by rw [HBN.out]; exact hu) hb4)
          clear hu hb4 hbz
          go_wp2_with fail
          go_roundw
          case rel => exact ⟨_, _, _, HT4⟩
          case measure =>
            rw [HM.out, HT4.out.at'.m]; simp

end Go.Proofs.YtgkcflindenboaaDoor

namespace Go.Proofs.YtgkcflindenboaaDoor
open Go Go.RowKit
set_option linter.unusedVariables false
set_option linter.unusedSimpArgs false
set_option maxRecDepth 100000
set_option linter.unusedSimpArgs false
set_option maxRecDepth 100000

theorem flip_lo {n : Nat} (h : n < 2 ^ 63) : n ^^^ 2 ^ 63 = n + 2 ^ 63 := by
  apply Nat.eq_of_testBit_eq
  intro i
  rw [Nat.testBit_xor, Nat.testBit_two_pow, Nat.add_comm]
  rcases Nat.lt_trichotomy i 63 with hi | hi | hi
  · rw [Nat.testBit_two_pow_add_gt hi, show decide (63 = i) = false from decide_eq_false (by omega), Bool.xor_false]
  · subst hi
    rw [Nat.testBit_two_pow_add_eq]
    simp
  · have h1 : n.testBit i = false := Nat.testBit_lt_two_pow (Nat.lt_trans h (Nat.pow_lt_pow_right (by decide) hi))
    have h2 : (2 ^ 63 + n).testBit i = false := Nat.testBit_lt_two_pow (by
      have : 2 ^ 64 ≤ 2 ^ i := Nat.pow_le_pow_right (by decide) hi
      omega)
    rw [h1, h2, show decide (63 = i) = false from decide_eq_false (by omega)]
    rfl
theorem flip_xor {n : Nat} (h : n < 18446744073709551616) : n ^^^ 9223372036854775808 = flipN n := by
  rw [show (9223372036854775808 : Nat) = 2 ^ 63 from rfl]
  unfold flipN
  by_cases h1 : n < 9223372036854775808
  · rw [if_pos h1]
    exact flip_lo h1
  · rw [if_neg h1]
    obtain ⟨m, rfl⟩ : ∃ m, n = m + 2 ^ 63 := ⟨n - 9223372036854775808, by omega⟩
    have hm : m < 2 ^ 63 := by omega
    rw [← flip_lo hm, Nat.xor_assoc, Nat.xor_self, Nat.xor_zero, flip_lo hm]
    omega
theorem flip_bits (n : Nat) (h : n < 18446744073709551616) : bits .xor .u64 (n : Int) 9223372036854775808 = ((flipN n : Nat) : Int) := by
  rw [show (9223372036854775808 : Int) = ((9223372036854775808 : Nat) : Int) from rfl, bits_xor_u64_nat _ _ h (by omega), flip_xor h]

theorem u64_nat {n : Nat} (h : n < 18446744073709551616) : U64 (n : Int) := ⟨by omega, by omega⟩
def TherePost (p : Nat) (d : Bool) (k : Int) (l : List UInt8) (w : World) (e : Ending) (w' : World) : Prop :=
  ∃ (K N : Int) (S : ByteArray) (l' : List UInt8) (bad : Bool), e = .returned (vlv K N S) ∧ U64 N ∧ RdIn p d l' bad w' ∧ Only (fun k => k = p) w w' ∧
    raw1 k (turnL d l) = if bad = true then none else some (vl K N S, turnL d l')

theorem vl_nil (K : Int) (n : Nat) : vl K (n : Int) ⟨#[]⟩ = ⟨K, n, []⟩ := by
  show (⟨K, ((n : Nat) : Int).toNat, (ByteArray.mk #[]).toList⟩ : Vl) = _
  rw [ba_nil]
  rfl
theorem res_only {w w1 : World} {t : TypeId} {p : Nat} (ho : Only (fun k => k = p) (w.alloc (.cells #[.int .i64 0, .int .u64 0, .string ⟨#[]⟩] t)) w1) (hp : p < w.heap.size) :
    (w1.cell? ⟨w.heap.size, 0, none⟩ = some (.int .i64 0) ∧ w1.cell? ⟨w.heap.size, 1, none⟩ = some (.int .u64 0) ∧ w1.cell? ⟨w.heap.size, 2, none⟩ = some (.string ⟨#[]⟩)) ∧
    (w1.frozen? ⟨w.heap.size, 0, none⟩ = false ∧ w1.frozen? ⟨w.heap.size, 1, none⟩ = false ∧ w1.frozen? ⟨w.heap.size, 2, none⟩ = false) := by
  have h := ho.keep (heap_alloc_new w _) (fun e => by omega)
  simp [World.cell?, World.frozen?, h]
theorem rd_set3 {w w1 : World} {p : Nat} {d : Bool} {l : List UInt8} {bad : Bool} (h : RdIn p d l bad w1) (hp : p < w.heap.size) (a b c : Value) :
    RdIn p d l bad (((w1.setCell ⟨w.heap.size, 0, none⟩ a).setCell ⟨w.heap.size, 1, none⟩ b).setCell ⟨w.heap.size, 2, none⟩ c) := by
  have hne : p ≠ w.heap.size := by omega
  exact h.keep ((Below.heap_setCell _ _ _ _ hne).trans ((Below.heap_setCell _ _ _ _ hne).trans (Below.heap_setCell _ _ _ _ hne)))
theorem only_set3 {w w1 : World} {p : Nat} {o : Obj} (ho : Only (fun k => k = p) (w.alloc o) w1) (a b c : Value) :
    Only (fun k => k = p) w (((w1.setCell ⟨w.heap.size, 0, none⟩ a).setCell ⟨w.heap.size, 1, none⟩ b).setCell ⟨w.heap.size, 2, none⟩ c) :=
  (((((Only.refl _ w).alloc o).trans ho (fun _ _ e => e)).setCell (p := ⟨w.heap.size, 0, none⟩) (fun e => absurd e (Nat.lt_irrefl _)) a).setCell (p := ⟨w.heap.size, 1, none⟩) (fun e => absurd e (Nat.lt_irrefl _)) b).setCell (p := ⟨w.heap.size, 2, none⟩) (fun e => absurd e (Nat.lt_irrefl _)) c
theorem RdIn.alloc {p : Nat} {d : Bool} {l : List UInt8} {bad : Bool} {w : World} (h : RdIn p d l bad w) (o : Obj) : RdIn p d l bad (w.alloc o) := h.keep (Below.heap_alloc _ _ _ h.lt)
theorem raw1_num {k : Int} (hk : k = 1 ∨ k = 2) {d : Bool} {l : List UInt8} {n : Nat} (h : 8 ≤ l.length → n = numB ((turnL d l).take 8)) :
    raw1 k (turnL d l) = if (false || decide (l.length < 8)) = true then none else some (⟨k, if k = 1 then flipN n else n, []⟩, turnL d (l.drop 8)) := by
  unfold raw1
  rw [if_pos hk, turnL_length]
  by_cases hl : l.length < 8
  · rw [if_pos hl, if_pos (by simpa using hl)]
  · rw [if_neg hl, ← h (by omega), turnL_drop, if_neg (show ¬ (false || decide (l.length < 8)) = true by simpa using hl)]
theorem raw1_bool {d : Bool} {l : List UInt8} : raw1 3 (turnL d l) = if (false || l.isEmpty) = true then none else some (⟨3, (nxt d l).toNat, []⟩, turnL d (l.drop 1)) := by
  unfold raw1
  rw [if_neg (by decide), if_pos rfl]
  match l with
  | [] => rw [turnL_nil]; rfl
  | b :: r => rw [turnL_cons]; rfl
theorem raw1_text {k : Int} (hk : k = 4 ∨ k = 5) {d : Bool} {l s l' : List UInt8} {bad : Bool} (h : txtK (turnL d l) = none ∧ bad = true ∨ bad = false ∧ txtK (turnL d l) = some (s, turnL d l')) :
    raw1 k (turnL d l) = if bad = true then none else some (⟨k, 0, s⟩, turnL d l') := by
  unfold raw1
  rw [if_neg (by omega), if_neg (by omega)]
  rcases h with ⟨h, rfl⟩ | ⟨rfl, h⟩
  · rw [h]; rfl
  · rw [h]; rfl

set_option maxHeartbeats 2000000 in
theorem rd_there (p : Nat) (d : Bool) (k : Int) (l : List UInt8) (w : World) (h : RdIn p d l false w) (hl : l.length ≤ 4096) (hk1 : 1 ≤ k) (hk5 : k ≤ 5) :
    Calls Tryd.prog 49 #[.pointer (some ⟨p, 0, none⟩), .int .i64 k] w fun e w' => TherePost p d k l w e w' := by
  have H := Lib.hid h
  have HL := Lib.hid hl
  have hk : k = 1 ∨ k = 2 ∨ k = 3 ∨ k = 4 ∨ k = 5 := by omega
  clear h hl hk1 hk5
  rcases hk with rfl | rfl | rfl | rfl | rfl
  · go_enter Tryd.func49, Tryd.ntmps49
    go_wp2_with fail
    refine (rd_number p d l false _ (H.out.alloc _)).mono ?_
    rintro e w1 ⟨n, rfl, hn, hv, hr, ho⟩
    have hx := flip_bits n hn
    have HN := Lib.hid (flipN_lt hn)
    have HV := Lib.hid (raw1_num (.inl rfl) hv)
    have HR := Lib.hid (fun a b c => rd_set3 hr H.out.lt a b c)
    have HO := Lib.hid (fun a b c => only_set3 ho a b c)
    obtain ⟨⟨c0, c1, c2⟩, f0, f1, f2⟩ := res_only ho H.out.lt
    obtain ⟨m, hm⟩ : ∃ m, flipN n = m := ⟨_, rfl⟩
    have HM := Lib.hid hm
    rw [hm] at hx
    clear hn hv hr ho hm
    go_wp2
    refine bodyPost_ret (v := vlv 1 (m : Int) ⟨#[]⟩) (by simp [results, Tryd.results49, go_sem, c0, c1, c2]) rfl ?_
    refine ⟨1, m, ⟨#[]⟩, _, _, rfl, u64_nat (by rw [← HM.out]; exact HN.out), HR.out _ _ _, HO.out _ _ _, ?_⟩
    rw [HV.out, vl_nil, HM.out]; rfl
  · go_enter Tryd.func49, Tryd.ntmps49
    go_wp2_with fail
    refine (rd_number p d l false _ (H.out.alloc _)).mono ?_
    rintro e w1 ⟨m, rfl, hn, hv, hr, ho⟩
    have HN := Lib.hid hn
    have HV := Lib.hid (raw1_num (.inr rfl) hv)
    have HR := Lib.hid (fun a b c => rd_set3 hr H.out.lt a b c)
    have HO := Lib.hid (fun a b c => only_set3 ho a b c)
    obtain ⟨⟨c0, c1, c2⟩, f0, f1, f2⟩ := res_only ho H.out.lt
    clear hn hv hr ho
    go_wp2
    refine bodyPost_ret (v := vlv 2 (m : Int) ⟨#[]⟩) (by simp [results, Tryd.results49, go_sem, c0, c1, c2]) rfl ?_
    refine ⟨2, m, ⟨#[]⟩, _, _, rfl, u64_nat HN.out, HR.out _ _ _, HO.out _ _ _, ?_⟩
    rw [HV.out, vl_nil]; rfl
  · go_enter Tryd.func49, Tryd.ntmps49
    go_wp2_with fail
    refine (rd_next p d l false _ (H.out.alloc _)).mono ?_
    rintro e w1 ⟨rfl, hr, ho⟩
    have HV := Lib.hid (raw1_bool (d := d) (l := l))
    have HR := Lib.hid (fun a b c => rd_set3 hr H.out.lt a b c)
    have HO := Lib.hid (fun a b c => only_set3 ho a b c)
    obtain ⟨⟨c0, c1, c2⟩, f0, f1, f2⟩ := res_only ho H.out.lt
    obtain ⟨b, hb⟩ : ∃ b, nxt d l = b := ⟨_, rfl⟩
    rw [hb] at HV ⊢
    have hw : IntKind.u64.wrap (b.toNat : Int) = (b.toNat : Int) := by have := b.toNat_lt; rw [IntKind.wrap_u64]; omega
    clear hr ho hb
    go_wp2
    refine bodyPost_ret (v := vlv 3 (b.toNat : Int) ⟨#[]⟩) (by simp [results, Tryd.results49, go_sem, c0, c1, c2]) rfl ?_
    refine ⟨3, b.toNat, ⟨#[]⟩, _, _, rfl, u64_nat (by have := b.toNat_lt; omega), HR.out _ _ _, HO.out _ _ _, ?_⟩
    rw [HV.out, vl_nil]
  all_goals
    go_enter Tryd.func49, Tryd.ntmps49
    go_wp2_with fail
    refine (rd_text p d l _ (H.out.alloc _) HL.out).mono ?_
    rintro e w1 ⟨s, l', bad, rfl, hr, ho, hv⟩
    have HV := Lib.hid hv
    have HR := Lib.hid (fun a b c => rd_set3 hr H.out.lt a b c)
    have HO := Lib.hid (fun a b c => only_set3 ho a b c)
    obtain ⟨⟨c0, c1, c2⟩, f0, f1, f2⟩ := res_only ho H.out.lt
    clear hv hr ho
    go_wp2
  · refine bodyPost_ret (v := vlv 4 0 ⟨s.toArray⟩) (by simp [results, Tryd.results49, go_sem, c0, c1, c2]) rfl ?_
    refine ⟨4, 0, ⟨s.toArray⟩, l', bad, rfl, u64_nat (n := 0) (by omega), HR.out _ _ _, HO.out _ _ _, ?_⟩
    rw [raw1_text (.inl rfl) HV.out, show vl 4 0 ⟨s.toArray⟩ = ⟨4, 0, s⟩ from by show (⟨4, 0, (ByteArray.mk s.toArray).toList⟩ : Vl) = _; rw [ba_mk1]]
  · refine bodyPost_ret (v := vlv 5 0 ⟨s.toArray⟩) (by simp [results, Tryd.results49, go_sem, c0, c1, c2]) rfl ?_
    refine ⟨5, 0, ⟨s.toArray⟩, l', bad, rfl, u64_nat (n := 0) (by omega), HR.out _ _ _, HO.out _ _ _, ?_⟩
    rw [raw1_text (.inr rfl) HV.out, show vl 5 0 ⟨s.toArray⟩ = ⟨5, 0, s⟩ from by show (⟨5, 0, (ByteArray.mk s.toArray).toList⟩ : Vl) = _; rw [ba_mk1]]

def ValPost (p : Nat) (d : Bool) (k : Int) (l : List UInt8) (w : World) (e : Ending) (w' : World) : Prop :=
  ∃ (K N : Int) (S : ByteArray) (l' : List UInt8) (bad : Bool), e = .returned (vlv K N S) ∧ U64 N ∧ RdIn p d l' bad w' ∧ Only (fun k => k = p) w w' ∧
    val1 k (turnL d l) = if bad = true then none else okV (some (vl K N S, turnL d l'))

theorem val1_nil (k : Int) (d : Bool) : val1 k (turnL d []) = none := by rw [turnL_nil]; rfl
theorem val1_cons (k : Int) (d : Bool) (c : UInt8) (r : List UInt8) : val1 k (turnL d (c :: r)) = if nxt d (c :: r) = 0 then some (⟨0, 0, []⟩, turnL d r) else if nxt d (c :: r) = 1 then okV (raw1 k (turnL d r)) else none := by
  rw [turnL_cons]; rfl

set_option maxHeartbeats 2000000 in
theorem rd_value (p : Nat) (d : Bool) (k : Int) (l : List UInt8) (w : World) (h : RdIn p d l false w) (hl : l.length ≤ 4096) (hk1 : 1 ≤ k) (hk5 : k ≤ 5) :
    Calls Tryd.prog 29 #[.pointer (some ⟨p, 0, none⟩), .int .i64 k] w fun e w' => ValPost p d k l w e w' := by
  have H := Lib.hid h
  have HL := Lib.hid hl
  have HK := Lib.hid (And.intro hk1 hk5)
  clear h hl hk1 hk5
  rcases (show l = [] ∨ ∃ c r, l = c :: r by cases l with | nil => exact .inl rfl | cons c r => exact .inr ⟨c, r, rfl⟩) with rfl | ⟨c, r, rfl⟩
  · go_enter Tryd.func29, Tryd.ntmps29
    go_wp2_with fail
    refine (rd_next p d [] false _ (H.out.alloc _)).mono ?_
    rintro e w1 ⟨rfl, hr, ho⟩
    have HR := Lib.hid (fun a b c => rd_set3 hr H.out.lt a b c)
    have HO := Lib.hid (fun a b c => only_set3 ho a b c)
    obtain ⟨⟨c0, c1, c2⟩, f0, f1, f2⟩ := res_only ho H.out.lt
    clear ho hr
    rw [nxt_nil]
    go_wp2
    refine bodyPost_ret (v := vlv 0 0 ⟨#[]⟩) (by simp [results, Tryd.results29, go_sem, c0, c1, c2]) rfl ?_
    exact ⟨0, 0, _, [], true, rfl, u64_nat (n := 0) (by omega), HR.out _ _ _, HO.out _ _ _, by rw [val1_nil]; rfl⟩
  · go_enter Tryd.func29, Tryd.ntmps29
    go_wp2_with fail
    refine (rd_next p d (c :: r) false _ (H.out.alloc _)).mono ?_
    rintro e w1 ⟨rfl, hr, ho⟩
    have hr : RdIn p d r false w1 := hr
    have HR1 := Lib.hid hr
    have HO1 := Lib.hid ho
    have HR := Lib.hid (fun a b c => rd_set3 hr H.out.lt a b c)
    have HO := Lib.hid (fun a b c => only_set3 ho a b c)
    obtain ⟨⟨c0, c1, c2⟩, f0, f1, f2⟩ := res_only ho H.out.lt
    have hv := val1_cons k d c r
    obtain ⟨b, hb⟩ : ∃ b, nxt d (c :: r) = b := ⟨_, rfl⟩
    rw [hb] at hv ⊢
    clear hb hr ho
    by_cases hb0 : b = 0
    · rw [if_pos hb0] at hv
      have HV := Lib.hid hv
      rw [hb0, show ((0 : UInt8).toNat : Int) = 0 from rfl]
      clear hb0 hv
      go_wp2
      refine bodyPost_ret (v := vlv 0 0 ⟨#[]⟩) (by simp [results, Tryd.results29, go_sem, c0, c1, c2]) rfl ?_
      refine ⟨0, 0, _, r, false, rfl, u64_nat (n := 0) (by omega), HR.out _ _ _, HO.out _ _ _, ?_⟩
      rw [HV.out, show vl 0 0 ⟨#[]⟩ = ⟨0, 0, []⟩ from vl_nil 0 0]
      rfl
    · have hz := nxt_int hb0
      rw [if_neg hb0] at hv
      by_cases hb1 : b = 1
      · rw [if_pos hb1] at hv
        have HV := Lib.hid hv
        rw [hb1, show ((1 : UInt8).toNat : Int) = 1 from rfl]
        clear hb0 hb1 hv hz
        go_wp2_with fail
        refine (rd_there p d k r _ HR1.out (by have := HL.out; simp at this; omega) HK.out.1 HK.out.2).mono ?_
        rintro e w2 ⟨K, N, S, l', bad, rfl, hN, hr2, ho2, hw⟩
        have HN := Lib.hid hN
        have ho := HO1.out.trans ho2 (fun _ _ e => e)
        have HR2 := Lib.hid (fun a b c => rd_set3 hr2 H.out.lt a b c)
        have HO2 := Lib.hid (fun a b c => only_set3 ho a b c)
        have HW := Lib.hid hw
        clear c0 c1 c2 f0 f1 f2
        obtain ⟨⟨c0, c1, c2⟩, f0, f1, f2⟩ := res_only ho H.out.lt
        clear hN hr2 ho2 hw ho
        go_wp2
        refine bodyPost_ret (v := vlv K N S) (by simp [results, Tryd.results29, go_sem, c0, c1, c2]) rfl ?_
        refine ⟨K, N, S, l', bad, rfl, HN.out, HR2.out _ _ _, HO2.out _ _ _, ?_⟩
        rw [HV.out, HW.out]
        cases bad <;> rfl
      · rw [if_neg hb1] at hv
        have HV := Lib.hid hv
        have hz1 : ((b.toNat : Int) == 1) = false := by
          have : b.toNat ≠ 1 := fun e => hb1 (UInt8.toNat_inj.1 e)
          simp
          omega
        have cb := HR1.out.cell2
        have fb := HR1.out.free 2
        have ho := HO1.out.trans (Only.cell w1 p 2 (.bool true)) (fun _ _ e => e)
        have HR2 := Lib.hid (fun a b c => rd_set3 (HR1.out.mark true) H.out.lt a b c)
        have HO2 := Lib.hid (fun a b c => only_set3 ho a b c)
        have hne : p ≠ w.heap.size := by have := H.out.lt; omega
        clear hb0 hb1 hv ho
        go_wp2
        refine bodyPost_ret (v := vlv 0 0 ⟨#[]⟩) (by simp [results, Tryd.results29, go_sem, c0, c1, c2, hne, hne.symm]) rfl ?_
        exact ⟨0, 0, _, r, true, rfl, u64_nat (n := 0) (by omega), HR2.out _ _ _, HO2.out _ _ _, HV.out⟩

end Go.Proofs.YtgkcflindenboaaDoor

namespace Go.Proofs.YtgkcflindenboaaDoor
open Go Go.RowKit Go.Lib
set_option linter.unusedVariables false
set_option linter.unusedSimpArgs false
set_option maxRecDepth 100000

theorem Tryd.infoU8 : (Tryd.prog.info? 5).map (fun i => (i.zero, i.size, i.bytes)) = some (some (.int .u8 0), 1, 1) := by kernel_rfl

theorem run_strC {w : World} {v : Value} {xs : List UInt8} (h : SlC w v xs) : (convert 49 9 v).run Tryd.prog w = .ok (.string ⟨xs.toArray⟩) w := by
  rcases h with ⟨rfl, rfl⟩ | ⟨a, cap, rfl, hc⟩
  · rw [run_convert_bytes_string w 49 9 5 none 0 0 Tryd.underlying49 Tryd.underlying5 Tryd.underlying9]
    kernel_rfl
  · refine run_convert_bytes_back w 49 9 5 a cap xs Tryd.underlying49 Tryd.underlying5 Tryd.underlying9 (fun j hj => ?_)
    rw [hc j hj]
    simp [hj]

/-- append onto a fresh empty slice: a copy in new memory. -/
theorem wp_fresh {ops : Array Oper} {rest : List Oper} {o : Oper} {a : Act} {Q : Exit → Act → World → Prop} (w : World) (v : Value) (xs : List UInt8) (hC : SlC w v xs) (hlen : xs.length ≤ 140737488355328)
    (hgd : o.guard = none) (s x : Operand) (ho : o.op = .call { callee := .builtin .append, args := #[s, x], argTypes := #[49, 49] })
    (hs : a.eval s = .slice (some ⟨w.heap.size, 0, none⟩) 0 0) (hx : a.eval x = v)
    (h : ∀ ao cap w', Hid (w'.ownsRow w.heap.size 5 1 (.slice ao xs.length cap) xs.length (u8s xs)) → Hid (Only (fun _ => False) w w') → wpList Tryd.prog ops Q rest (a.put o.dst (.slice ao xs.length cap)) w') :
    wpList Tryd.prog ops Q (o :: rest) a (w.alloc (.cells #[] 5)) := by
  obtain ⟨i0, hi, hz0, hz1, hz2⟩ := info_parts Tryd.infoU8
  have hmade := World.ownsRow_made (base := w.heap.size) (e := 5) (size := 1) w #[] 0 (Nat.le_refl _) (by decide) rfl
  rcases hC with ⟨rfl, rfl⟩ | ⟨ad, cap, rfl, hc⟩
  · refine wpList_append_own_none hgd s x 49 ho w.heap.size 5 i0 1 Tryd.underlying49 hi _ 0 [] hs hmade hx ?_
    exact h (some ⟨w.heap.size, 0, none⟩) 0 _ hmade ((Only.refl _ w).alloc _)
  · refine wpList_append_own _ hgd s x 49 ho w.heap.size 5 i0 (.int .u8 0) 1 1 Tryd.underlying49 hi hz0 hz1 hz2 rfl (by decide) _ 0 [] hs hmade ad xs.length cap (u8s xs) hx ?_ ?_ (u8s_oneCell xs) ?_ ?_ ?_ ?_
    · rw [u8s_length, Nat.mul_one]
    · intro j u hu
      obtain ⟨hj, rfl⟩ := u8s_get hu
      have h1 := hc j hj
      have hb : (ad.add j).block < w.heap.size := World.block_lt_of_cell? w _ h1
      exact (World.cell?_of_block (Below.heap_alloc w _ _ hb)).trans h1
    · unfold maxLen; omega
    · omega
    · simp
    · intro v' w1 hown hg _
      rw [Nat.zero_add, List.nil_append] at hown
      obtain ⟨ao, cap', rfl⟩ := own_shape hown
      exact h ao cap' w1 hown (((Only.refl _ w).alloc _).grown hg (fun k hk e => by simp [Value.ownBlock] at e; omega))

end Go.Proofs.YtgkcflindenboaaDoor
