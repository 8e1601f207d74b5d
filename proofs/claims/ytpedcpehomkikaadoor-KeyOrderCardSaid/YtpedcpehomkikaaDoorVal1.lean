/-
  The order of values: package cmp's Compare at four types, Or of three numbers, package value's Cmp and the reference's: each returns 'vcmp'.
-/
import Derived.Test.YtpedcpehomkikaaDoorRows
import Derived.Test.YtpedcpehomkikaaDoorValSt
import Derived.WalkKit
import Derived.WalkSpells
import Derived.WalkLawsBesides
import Derived.StillTailTactics
import Derived.Deep.QuietTactic
import Derived.BigQuiet
import Derived.Lib.SmallJoins
import Derived.Deep.CutBlock
import Derived.Deep.DeepCutAuto
import Derived.Outline
import Derived.Lib.Hide
namespace Go.Proofs.YtpedcpehomkikaaDoor
open Go Go.RowKit
set_option linter.unusedVariables false
set_option linter.unusedSimpArgs false
set_option maxRecDepth 100000

def zcmp (a b : Int) : Int := if a < b then -1 else if b < a then 1 else 0
theorem zcmp_lt {a b : Int} (h : a < b) : zcmp a b = -1 := if_pos h
theorem zcmp_gt {a b : Int} (h : b < a) : zcmp a b = 1 := by unfold zcmp; rw [if_neg (by omega), if_pos h]
theorem zcmp_eq {a b : Int} (h : a = b) : zcmp a b = 0 := by unfold zcmp; rw [if_neg (by omega), if_neg (by omega)]

theorem compare_u64 (a b : Int) (w : World) :
    Calls Tryd.prog 45 #[.int .u64 a, .int .u64 b] w fun e w' => e = .returned (.int .i64 (zcmp a b)) ∧ w = w' := by
  rcases Int.lt_trichotomy a b with h | h | h
  · rw [zcmp_lt h]
    go_enter Tryd.func45, Tryd.ntmps45
    go_wp2
    go_ret
    exact ⟨rfl, rfl⟩
  · rw [zcmp_eq h]
    subst h
    go_enter Tryd.func45, Tryd.ntmps45
    go_wp2
    go_ret
    exact ⟨rfl, rfl⟩
  · rw [zcmp_gt h]
    have h2 : ¬ a < b := by omega
    go_enter Tryd.func45, Tryd.ntmps45
    go_wp2
    go_ret
    exact ⟨rfl, rfl⟩
theorem compare_i64 (a b : Int) (w : World) :
    Calls Tryd.prog 46 #[.int .i64 a, .int .i64 b] w fun e w' => e = .returned (.int .i64 (zcmp a b)) ∧ w = w' := by
  rcases Int.lt_trichotomy a b with h | h | h
  · rw [zcmp_lt h]
    go_enter Tryd.func46, Tryd.ntmps46
    go_wp2
    go_ret
    exact ⟨rfl, rfl⟩
  · rw [zcmp_eq h]
    subst h
    go_enter Tryd.func46, Tryd.ntmps46
    go_wp2
    go_ret
    exact ⟨rfl, rfl⟩
  · rw [zcmp_gt h]
    have h2 : ¬ a < b := by omega
    go_enter Tryd.func46, Tryd.ntmps46
    go_wp2
    go_ret
    exact ⟨rfl, rfl⟩
theorem compare_int (a b : Int) (w : World) :
    Calls Tryd.prog 48 #[.int .i64 a, .int .i64 b] w fun e w' => e = .returned (.int .i64 (zcmp a b)) ∧ w = w' := by
  rcases Int.lt_trichotomy a b with h | h | h
  · rw [zcmp_lt h]
    go_enter Tryd.func48, Tryd.ntmps48
    go_wp2
    go_ret
    exact ⟨rfl, rfl⟩
  · rw [zcmp_eq h]
    subst h
    go_enter Tryd.func48, Tryd.ntmps48
    go_wp2
    go_ret
    exact ⟨rfl, rfl⟩
  · rw [zcmp_gt h]
    have h2 : ¬ a < b := by omega
    go_enter Tryd.func48, Tryd.ntmps48
    go_wp2
    go_ret
    exact ⟨rfl, rfl⟩

theorem less_bcmp : ∀ x y : List UInt8, Op.bytesLess x y = decide (bcmp x y = -1)
  | [], [] => rfl
  | [], _ :: _ => rfl
  | _ :: _, [] => rfl
  | a :: x, b :: y => by
    rw [Op.bytesLess, bcmp, less_bcmp x y]
    by_cases h : a.toNat < b.toNat
    · have : a < b := UInt8.lt_iff_toNat_lt.2 h
      rw [if_pos h]
      simp [this]
    · have h1 : ¬ a < b := fun e => h (UInt8.lt_iff_toNat_lt.1 e)
      rw [if_neg h]
      by_cases h2 : b.toNat < a.toNat
      · rw [if_pos h2]
        have : a ≠ b := fun e => by subst e; omega
        simp [h1, this]
      · rw [if_neg h2]
        have : a = b := UInt8.toNat_inj.1 (by omega)
        simp [h1, this]
theorem eq_bcmp (x y : List UInt8) : (x == y) = decide (bcmp x y = 0) := by
  rw [Bool.eq_iff_iff]
  simp [bcmp_eq]

theorem ba_eq {a b : ByteArray} (h : a.toList = b.toList) : a = b := by
  rw [ByteArray.toList_eq, ByteArray.toList_eq] at h
  cases a; cases b
  exact congrArg ByteArray.mk (Array.toList_inj.1 h)
theorem compare_str (a b : ByteArray) (w : World) :
    Calls Tryd.prog 49 #[.string a, .string b] w fun e w' => e = .returned (.int .i64 (bcmp a.toList b.toList)) ∧ w = w' := by
  have h1 := less_bcmp a.toList b.toList
  have h2 := eq_bcmp a.toList b.toList
  rcases bcmp_range a.toList b.toList with h | h | h
  · rw [h] at h1 h2 ⊢
    have h3 : Op.bytesLess a.toList b.toList = true := h1
    clear h h1 h2
    go_enter Tryd.func49, Tryd.ntmps49
    go_wp2
    go_ret
    exact ⟨rfl, rfl⟩
  · rw [h] at h1 ⊢
    have h4 := ba_eq ((bcmp_eq _ _).1 h)
    have h3 : Op.bytesLess a.toList b.toList = false := h1
    clear h h1 h2
    subst h4
    go_enter Tryd.func49, Tryd.ntmps49
    go_wp2
    go_ret
    exact ⟨rfl, rfl⟩
  · rw [h] at h1 h2 ⊢
    have h3 : Op.bytesLess a.toList b.toList = false := h1
    have h4 : (a.toList == b.toList) = false := h2
    clear h h1 h2
    go_enter Tryd.func49, Tryd.ntmps49
    go_wp2
    go_ret
    exact ⟨rfl, rfl⟩

theorem ret_i {a b : Int} (h : a = b) : Ending.returned (Value.int .i64 a) = .returned (.int .i64 b) := by rw [h]
def or3 (x y z : Int) : Int := if x ≠ 0 then x else if y ≠ 0 then y else z
theorem or3_1 {x : Int} (y z : Int) (h : x ≠ 0) : or3 x y z = x := if_pos h
theorem or3_2 {y : Int} (z : Int) (h : y ≠ 0) : or3 0 y z = y := by unfold or3; rw [if_neg (by simp), if_pos h]
theorem or3_3 (z : Int) : or3 0 0 z = z := by simp [or3]
def OrAt (x y z : Int) (i : Value) : Prop := i = .int .i64 0 ∨ (i = .int .i64 1 ∧ x = 0) ∨ (i = .int .i64 2 ∧ x = 0 ∧ y = 0) ∨ (i = .int .i64 3 ∧ x = 0 ∧ y = 0 ∧ z = 0)
theorem or_any (x y z : Int) (b c : Nat) (w : World) (h0 : w.cell? ⟨b, 0, none⟩ = some (.int .i64 x)) (h1 : w.cell? ⟨b, 1, none⟩ = some (.int .i64 y)) (h2 : w.cell? ⟨b, 2, none⟩ = some (.int .i64 z)) :
    Calls Tryd.prog 47 #[.slice (some ⟨b, 0, none⟩) 3 c] w fun e w' => e = .returned (.int .i64 (or3 x y z)) ∧ w = w' := by
  obtain ⟨r, hr⟩ : ∃ r, or3 x y z = r := ⟨_, rfl⟩
  rw [hr]
  have HE := Lib.hid hr
  clear hr
  go_enter Tryd.func47, Tryd.ntmps47
  go_wp2
  go_loop [5, 8] (fun _ i => OrAt x y z i) (fun _ i => 3 - (intOf i).toNat)
  case atStart => exact .inl rfl
  case round =>
    rcases hrel with rfl | ⟨rfl, hx⟩ | ⟨rfl, hx, hy⟩ | ⟨rfl, hx, hy, hz⟩
    · by_cases hx : x = 0
      · subst hx
        go_wp2
        go_round
        case rel => exact .inr (.inl ⟨rfl, rfl⟩)
        case measure => simp [intOf]
      · have HX := Lib.hid hx
        have hb : (x != 0) = true := by simpa using hx
        clear hx
        go_wp2
        go_ret
        exact ⟨ret_i ((or3_1 y z HX.out).symm.trans HE.out), rfl⟩
    · subst hx
      by_cases hy : y = 0
      · subst hy
        go_wp2
        go_round
        case rel => exact .inr (.inr (.inl ⟨rfl, rfl, rfl⟩))
        case measure => simp [intOf]
      · have HX := Lib.hid hy
        have hb : (y != 0) = true := by simpa using hy
        clear hy
        go_wp2
        go_ret
        exact ⟨ret_i ((or3_2 z HX.out).symm.trans HE.out), rfl⟩
    · subst hx hy
      by_cases hz : z = 0
      · subst hz
        go_wp2
        go_round
        case rel => exact .inr (.inr (.inr ⟨rfl, rfl, rfl, rfl⟩))
        case measure => simp [intOf]
      · have hb : (z != 0) = true := by simpa using hz
        clear hz
        go_wp2
        go_ret
        exact ⟨ret_i ((or3_3 z).symm.trans HE.out), rfl⟩
    · subst hx hy hz
      go_wp2
      go_ret
      exact ⟨ret_i ((or3_3 0).symm.trans HE.out), rfl⟩

/-- The value of a kind, a number and a string. -/
abbrev vlv (K N : Int) (s : ByteArray) : Value := .agg #[.int .i64 K, .int .u64 N, .string s]
abbrev vl (K N : Int) (s : ByteArray) : Vl := ⟨K, N.toNat, s.toList⟩
/-- A number that a uint64 holds. -/
structure U64 (n : Int) : Prop where
  lo : 0 ≤ n
  hi : n < 18446744073709551616
theorem conv_sgn {n : Int} (h : U64 n) : wrap64 n = sgn n.toNat := by
  obtain ⟨a, b⟩ := h
  unfold sgn wrap64
  by_cases hn : n < 9223372036854775808
  · rw [if_pos (by omega)]; omega
  · rw [if_neg (by omega)]; omega
theorem or3_iff (a b c d e : Int) : or3 (zcmp a b) (zcmp c d) e = if a < b then -1 else if b < a then 1 else if c < d then -1 else if d < c then 1 else e := by
  unfold or3 zcmp
  by_cases h1 : a < b
  · simp [h1]
  · by_cases h2 : b < a
    · simp [h1, h2]
    · by_cases h3 : c < d
      · simp [h1, h2, h3]
      · by_cases h4 : d < c <;> simp [h1, h2, h3, h4]
theorem vcmp_or {K N L M n m : Int} {s t : ByteArray} (hN : U64 N) (hM : U64 M) (h : K = 1 ∧ n = sgn N.toNat ∧ m = sgn M.toNat ∨ K ≠ 1 ∧ n = N ∧ m = M) :
    or3 (zcmp K L) (zcmp n m) (bcmp s.toList t.toList) = vcmp (vl K N s) (vl L M t) := by
  obtain ⟨a, b⟩ := hN
  obtain ⟨c, d⟩ := hM
  rw [or3_iff, vcmp_iff _ _ (show N.toNat < _ by omega) (show M.toNat < _ by omega)]
  unfold ordN
  by_cases hl : K < L
  · rw [if_pos hl, if_pos (show K < L from hl)]
  rw [if_neg hl, if_neg (show ¬ K < L from hl)]
  by_cases hg : L < K
  · rw [if_pos hg, if_pos (show L < K from hg)]
  rw [if_neg hg, if_neg (show ¬ L < K from hg)]
  have hK : L = K := by omega
  subst hK
  rcases h with ⟨rfl, rfl, rfl⟩ | ⟨h, hn, hm⟩
  · simp
  · subst hn hm
    simp only [if_neg h]
    rw [Int.toNat_of_nonneg a, Int.toNat_of_nonneg c]

theorem below_2 (w : World) (o p : Obj) : Below w.heap.size w ((w.alloc o).alloc p) := ((Below.refl _ _).alloc (Nat.le_refl _) _).alloc (by simp) _
theorem cmp_any {K N L M : Int} {s t : ByteArray} (hN : U64 N) (hM : U64 M) (w : World) :
    Calls Tryd.prog 34 #[vlv K N s, vlv L M t] w fun e w' => e = .returned (.int .i64 (vcmp (vl K N s) (vl L M t))) ∧ Below w.heap.size w w' := by
  obtain ⟨v, hv⟩ : ∃ v, vcmp (vl K N s) (vl L M t) = v := ⟨_, rfl⟩
  rw [hv]
  obtain ⟨n, hn⟩ : ∃ n, wrap64 N = n := ⟨_, rfl⟩
  obtain ⟨m, hm⟩ : ∃ m, wrap64 M = m := ⟨_, rfl⟩
  by_cases hK : K = 1
  all_goals
    first
    | (obtain ⟨y, hy⟩ : ∃ y, zcmp n m = y := ⟨_, rfl⟩
       have HV := Lib.hid (hy ▸ (vcmp_or (L := L) (s := s) (t := t) hN hM (.inl ⟨hK, hn.symm.trans (conv_sgn hN), hm.symm.trans (conv_sgn hM)⟩)).trans hv)
       have hb : (K == 1) = true := by simpa using hK
       clear hv hK)
    | (obtain ⟨y, hy⟩ : ∃ y, zcmp N M = y := ⟨_, rfl⟩
       have HV := Lib.hid (hy ▸ (vcmp_or (L := L) (s := s) (t := t) hN hM (.inr ⟨hK, rfl, rfl⟩)).trans hv)
       have hb : (K == 1) = false := by simpa using hK
       clear hv hK)
    go_enter Tryd.func34, Tryd.ntmps34
    go_upto_region 4 with (first | (go_at_call 45; refine (compare_u64 _ _ _).mono ?_; rintro e w' ⟨rfl, rfl⟩) | (go_at_call 46; refine (compare_i64 _ _ _).mono ?_; rintro e w' ⟨rfl, rfl⟩))
    have HB := Lib.hid (below_2 w (Obj.cells #[Value.int IntKind.i64 K, Value.int IntKind.u64 N, Value.string s] 35) (Obj.cells #[Value.int IntKind.i64 L, Value.int IntKind.u64 M, Value.string t] 35))
    obtain ⟨p, hp⟩ : ∃ p, p = w.heap.size := ⟨_, rfl⟩
    have HP := Lib.hid hp
    rw [← hp]
    have a0 : ((w.alloc (Obj.cells #[Value.int IntKind.i64 K, Value.int IntKind.u64 N, Value.string s] 35)).alloc (Obj.cells #[Value.int IntKind.i64 L, Value.int IntKind.u64 M, Value.string t] 35)).cell? ⟨p, 0, none⟩ = some (.int .i64 K) := by subst hp; go_simp
    have a2 : ((w.alloc (Obj.cells #[Value.int IntKind.i64 K, Value.int IntKind.u64 N, Value.string s] 35)).alloc (Obj.cells #[Value.int IntKind.i64 L, Value.int IntKind.u64 M, Value.string t] 35)).cell? ⟨p, 2, none⟩ = some (.string s) := by subst hp; go_simp
    have b0 : ((w.alloc (Obj.cells #[Value.int IntKind.i64 K, Value.int IntKind.u64 N, Value.string s] 35)).alloc (Obj.cells #[Value.int IntKind.i64 L, Value.int IntKind.u64 M, Value.string t] 35)).cell? ⟨p + 1, 0, none⟩ = some (.int .i64 L) := by subst hp; go_simp
    have b2 : ((w.alloc (Obj.cells #[Value.int IntKind.i64 K, Value.int IntKind.u64 N, Value.string s] 35)).alloc (Obj.cells #[Value.int IntKind.i64 L, Value.int IntKind.u64 M, Value.string t] 35)).cell? ⟨p + 1, 2, none⟩ = some (.string t) := by subst hp; go_simp
    clear hp
    generalize ((w.alloc (Obj.cells #[Value.int IntKind.i64 K, Value.int IntKind.u64 N, Value.string s] 35)).alloc (Obj.cells #[Value.int IntKind.i64 L, Value.int IntKind.u64 M, Value.string t] 35)) = wx at *
    go_still_tail 11, (by kernel_rfl)
    still_call ((compare_int _ _ _).mono (fun _ _ ⟨a, b⟩ => ⟨a, b.symm⟩))
    repeat still_step
    still_call ((compare_str _ _ _).mono (fun _ _ ⟨a, b⟩ => ⟨a, b.symm⟩))
    refine wpStill_nil ?_
    change wpList _ _ _ _ _ wx.drew
    have HBd := Lib.hid HB.out.drew
    clear a0 a2 b0 b2
    go_wp2_with fail
    refine (or_any (zcmp K L) y (bcmp s.toList t.toList) wx.heap.size _ _ (by go_simp) (by go_simp) (by go_simp)).mono ?_
    rintro e w2 ⟨rfl, rfl⟩
    go_wp2
    go_ret
    exact ⟨ret_i HV.out, HBd.out.alloc HBd.out.size _⟩

end Go.Proofs.YtpedcpehomkikaaDoor
