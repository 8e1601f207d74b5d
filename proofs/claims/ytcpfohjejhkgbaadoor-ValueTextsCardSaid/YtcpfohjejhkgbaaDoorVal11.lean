/-
  What is read of a text: strconv's ParseUint and ParseInt at base 10, package value's read.
-/
import Derived.Test.YtcpfohjejhkgbaaDoorVal10
import Derived.Test.YtcpfohjejhkgbaaDoorValP
import Derived.Test.YtcpfohjejhkgbaaDoorVal1
import Derived.Lib.ParseIntBTie
namespace Go.Proofs.YtcpfohjejhkgbaaDoor
open Go Go.RowKit
set_option linter.unusedVariables false
set_option linter.unusedSimpArgs false
set_option maxRecDepth 100000

theorem err_var {w : World} (h : Tabs w) : (∃ tp p, w.var? Tryd.prog "strconv.ErrSyntax" = some #[.iface tp p]) ∧ ∃ tp p, w.var? Tryd.prog "strconv.ErrRange" = some #[.iface tp p] := ⟨h.syn, h.rng⟩
theorem parseM_le (M : Nat) (hM : M < 18446744073709551616) : ∀ (l : List UInt8) (acc u : Nat), acc < 18446744073709551616 → Lib.parseUintM M acc l = .ok u → u < 18446744073709551616
  | [], acc, u, ha, h => by
    simp only [Lib.parseUintM] at h
    injection h with h
    omega
  | c :: r, acc, u, ha, h => by
    simp only [Lib.parseUintM] at h
    split at h
    · split at h
      · cases h
      · split at h
        · cases h
        · exact parseM_le M hM r _ u (by omega) h
    · cases h
theorem parseU_lt {l : List UInt8} {u : Nat} (h : Lib.parseUintB 64 l = .ok u) : u < M64 := by
  unfold Lib.parseUintB at h
  split at h
  · cases h
  · exact parseM_le _ (by decide) l 0 u (by decide) h
theorem parse_u64 (s : ByteArray) (hs : s.size ≤ 281474976710656) (w : World) (hT : Tabs w) :
    Calls Tryd.prog 42 #[.string s, .int .i64 10, .int .i64 64] w fun e w' => ∃ (n : Int) (ev : Value), e = .returned (.tuple #[.int .u64 n, ev]) ∧ U64 n ∧ (∀ m, m < M64 → s.toList = dig m → n.toNat = m) ∧ Below w.heap.size w w' := by
  cases h : Lib.parseUintB 64 s.data.toList
  case ok u =>
    have hu := parseU_lt h
    have hc : Calls Tryd.prog 42 #[.string s, .int .i64 10, .int .i64 64] w _ := Any.strconv_ParseUint_10_at64_ok Tryd.laysPu14 s (by omega) u h w
    refine hc.mono ?_
    rintro e w' ⟨rfl, hw⟩
    refine ⟨(u : Int), _, rfl, ⟨by omega, by unfold M64 at hu; omega⟩, fun m hm e => ?_, ?_⟩
    · rw [ByteArray.toList_eq] at e
      rw [e, parseU_dig m hm] at h
      injection h with h
      omega
    · rcases hw with rfl | rfl
      · exact Below.refl _ _
      · exact Lib.bytesWorld_below w _ s
  · obtain ⟨tp, p, hv⟩ := hT.syn
    have hc : Calls Tryd.prog 42 #[.string s, .int .i64 10, .int .i64 64] w _ := Any.strconv_ParseUint_10_at64_syntax_var Tryd.laysPu14 s hs h tp p w hv
    refine hc.mono ?_
    rintro e w' ⟨N, rfl, _, _, hb⟩
    refine ⟨0, _, rfl, ⟨by omega, by omega⟩, fun m hm e => ?_, hb⟩
    rw [ByteArray.toList_eq] at e
    rw [e, parseU_dig m hm] at h
    cases h
  · obtain ⟨tp, p, hv⟩ := hT.rng
    have hc : Calls Tryd.prog 42 #[.string s, .int .i64 10, .int .i64 64] w _ := Any.strconv_ParseUint_10_at64_range_var Tryd.laysPu14 s hs h tp p w hv
    refine hc.mono ?_
    rintro e w' ⟨N, rfl, _, _, hb⟩
    refine ⟨18446744073709551615, _, rfl, ⟨by omega, by omega⟩, fun m hm e => ?_, hb⟩
    rw [ByteArray.toList_eq] at e
    rw [e, parseU_dig m hm] at h
    cases h
/-- A number that an int64 holds. -/
structure I64 (n : Int) : Prop where
  lo : -9223372036854775808 ≤ n
  hi : n ≤ 9223372036854775807
theorem parse_i64 (s : ByteArray) (hs : s.size ≤ 281474976710656) (w : World) (hT : Tabs w) :
    Calls Tryd.prog 43 #[.string s, .int .i64 10, .int .i64 64] w fun e w' => ∃ (n : Int) (ev : Value), e = .returned (.tuple #[.int .i64 n, ev]) ∧ I64 n ∧ (∀ m, m < M64 → s.toList = itxt m → n = sgn m) ∧ Below w.heap.size w w' := by
  cases h : Lib.parseIntB 64 s.data.toList
  case ok u =>
    have hu := Lib.parseIntB_bounds h
    have hc : Calls Tryd.prog 43 #[.string s, .int .i64 10, .int .i64 64] w _ := Any.strconv_ParseInt_10_at64_ok Tryd.laysC174 s (by omega) u h w
    refine hc.mono ?_
    rintro e w' ⟨rfl, hw⟩
    refine ⟨u, _, rfl, ?_, fun m hm e => ?_, ?_⟩
    · have p63 : (2 : Nat) ^ (64 - 1) = 9223372036854775808 := by decide
      rw [p63] at hu
      exact ⟨by omega, by omega⟩
    · rw [ByteArray.toList_eq] at e
      rw [e, parseI_txt m hm] at h
      injection h with h
      exact h.symm
    · rcases hw with rfl | ⟨t, rfl⟩
      · exact Below.refl _ _
      · exact Lib.bytesWorld_below w _ t
  · obtain ⟨tp, p, hv⟩ := hT.syn
    have hc : Calls Tryd.prog 43 #[.string s, .int .i64 10, .int .i64 64] w _ := Any.strconv_ParseInt_10_at64_syntax_var Tryd.laysC174 s hs h tp p w hv
    refine hc.mono ?_
    rintro e w' ⟨N, rfl, _, _, hb⟩
    refine ⟨0, _, rfl, ⟨by omega, by omega⟩, fun m hm e => ?_, hb⟩
    rw [ByteArray.toList_eq] at e
    rw [e, parseI_txt m hm] at h
    cases h
  · obtain ⟨tp, p, hv⟩ := hT.rng
    have hc : Calls Tryd.prog 43 #[.string s, .int .i64 10, .int .i64 64] w _ := Any.strconv_ParseInt_10_at64_range_var Tryd.laysC174 s hs h tp p w hv
    refine hc.mono ?_
    rintro e w' ⟨N, rfl, _, _, hb⟩
    refine ⟨_, _, rfl, ?_, fun m hm e => ?_, hb⟩
    · unfold Lib.intSat
      split
      · exact ⟨by decide, by decide⟩
      · exact ⟨by decide, by decide⟩
    · rw [ByteArray.toList_eq] at e
      rw [e, parseI_txt m hm] at h
      cases h

/-- A comparison with a fixed text. -/
theorem eq_lit {s : ByteArray} {l : List UInt8} {b : Bool} (h : (s.toList == l) = b) : (s.toList == l) = b := h
theorem ne_lit {s : ByteArray} {l : List UInt8} (h : s.toList ≠ l) : (s.toList == l) = false := by simpa using h
theorem pre_yes {l r : List UInt8} {c : UInt8} (h : l = c :: r) : Lib.hasPrefix l [c] = true ∧ Lib.trimPrefix l [c] = r := by
  subst h
  have : Lib.hasPrefix (c :: r) [c] = true := by simp [Lib.hasPrefix]
  exact ⟨this, by unfold Lib.trimPrefix; rw [this]; rfl⟩
theorem pre_no {l : List UInt8} {c : UInt8} (h : l.head? ≠ some c) : Lib.hasPrefix l [c] = false := by
  unfold Lib.hasPrefix
  cases l with
  | nil => rfl
  | cons d r =>
    simp at h
    simp [List.isPrefixOf, Ne.symm h]
theorem suf_yes {l r : List UInt8} {c : UInt8} (h : l = r ++ [c]) : Lib.hasSuffix l [c] = true ∧ Lib.trimSuffix l [c] = r := by
  subst h
  have : Lib.hasSuffix (r ++ [c]) [c] = true := by simp [Lib.hasSuffix, List.isSuffixOf]
  exact ⟨this, by unfold Lib.trimSuffix; rw [this]; simp⟩
theorem suf_no {l : List UInt8} {c : UInt8} (h : l.getLast? ≠ some c) : Lib.hasSuffix l [c] = false := by
  unfold Lib.hasSuffix List.isSuffixOf
  rcases List.eq_nil_or_concat l with rfl | ⟨r, d, rfl⟩
  · rfl
  · simp at h
    simp [List.isPrefixOf]
    intro e; exact absurd e.symm h
def ReadRet (s : ByteArray) (w : World) (e : Ending) (w' : World) : Prop :=
  ∃ (K N : Int) (S : ByteArray), e = .returned (vlv K N S) ∧ U64 N ∧ Reads s.toList (vl K N S) ∧ Below w.heap.size w w'

theorem ba_nil : (ByteArray.mk #[]).toList = [] := ByteArray.toList_mk []
theorem ba_mk1 (l : List UInt8) : (ByteArray.mk l.toArray).toList = l := ByteArray.toList_mk l
theorem conv_uns {n : Int} (h : I64 n) : U64 (IntKind.u64.wrap n) ∧ ∀ m, m < M64 → n = sgn m → (IntKind.u64.wrap n).toNat = m := by
  obtain ⟨a, b⟩ := h
  rw [IntKind.wrap_u64]
  refine ⟨⟨by omega, by omega⟩, fun m hm e => ?_⟩
  unfold sgn M64 at *
  split at e <;> omega
theorem reads_lit {s : ByteArray} {K N : Int} {l : List UInt8} (h0 : s.toList = l) (hv : (⟨K, N.toNat, []⟩ : Vl).okB = true) (hN : N.toNat < M64) (ht : vtext ⟨K, N.toNat, []⟩ = l) : Reads s.toList (vl K N ⟨#[]⟩) := by
  show Reads s.toList ⟨K, N.toNat, (ByteArray.mk #[]).toList⟩
  rw [ba_nil, h0]
  exact reads_of hv hN ht

/-- What a fresh value holds behind a call. -/
theorem res_cells {w w1 : World} {t : TypeId} (hb : Below (w.alloc (.cells #[.int .i64 0, .int .u64 0, .string ⟨#[]⟩] t)).heap.size (w.alloc (.cells #[.int .i64 0, .int .u64 0, .string ⟨#[]⟩] t)) w1) :
    (w1.cell? ⟨w.heap.size, 0, none⟩ = some (.int .i64 0) ∧ w1.cell? ⟨w.heap.size, 1, none⟩ = some (.int .u64 0) ∧ w1.cell? ⟨w.heap.size, 2, none⟩ = some (.string ⟨#[]⟩)) ∧
    (w1.frozen? ⟨w.heap.size, 0, none⟩ = false ∧ w1.frozen? ⟨w.heap.size, 1, none⟩ = false ∧ w1.frozen? ⟨w.heap.size, 2, none⟩ = false) := by
  refine ⟨⟨?_, ?_, ?_⟩, ?_, ?_, ?_⟩
  · rw [hb.cell (by simp <;> omega)]; go_simp
  · rw [hb.cell (by simp <;> omega)]; go_simp
  · rw [hb.cell (by simp <;> omega)]; go_simp
  · rw [hb.frozen (by simp <;> omega)]; go_simp
  · rw [hb.frozen (by simp <;> omega)]; go_simp
  · rw [hb.frozen (by simp <;> omega)]; go_simp
theorem below_set3 {w w1 : World} (h : Below w.heap.size w w1) (a b c : Value) : Below w.heap.size w (((w1.setCell ⟨w.heap.size, 0, none⟩ a).setCell ⟨w.heap.size, 1, none⟩ b).setCell ⟨w.heap.size, 2, none⟩ c) :=
  ((h.setCell (p := ⟨w.heap.size, 0, none⟩) (Nat.le_refl _) a).setCell (p := ⟨w.heap.size, 1, none⟩) (Nat.le_refl _) b).setCell (p := ⟨w.heap.size, 2, none⟩) (Nat.le_refl _) c

set_option maxHeartbeats 2000000 in
theorem read_any (s : ByteArray) (hs : s.size ≤ 4096) (w : World) (hT : Tabs w) :
    Calls Tryd.prog 18 #[.string s] w fun e w' => ReadRet s w e w' := by
  have HT := Lib.hid hT
  have HB := Lib.hid (fun o => (Below.refl w.heap.size w).alloc (Nat.le_refl _) o)
  have HTA := Lib.hid (fun o => hT.keep (HB.out o))
  clear hT
  by_cases h0 : s.toList = tNull
  · have e0 : (s.toList == [110, 117, 108, 108]) = true := by rw [h0]; rfl
    have HR := Lib.hid (reads_lit (K := 0) (N := 0) h0 rfl (by decide) rfl)
    clear h0
    go_enter Tryd.func18, Tryd.ntmps18
    go_wp2
    refine bodyPost_ret (v := vlv 0 0 ⟨#[]⟩) (by simp [results, Tryd.results18, go_sem]) rfl ?_
    exact ⟨0, 0, _, rfl, ⟨by omega, by omega⟩, HR.out, HB.out _⟩
  have e0 := ne_lit h0
  unfold tNull at e0
  by_cases h1 : s.toList = tTrue
  · have e1 : (s.toList == [116, 114, 117, 101]) = true := by rw [h1]; rfl
    have HR := Lib.hid (reads_lit (K := 3) (N := 1) h1 rfl (by decide) rfl)
    clear h0 h1
    go_enter Tryd.func18, Tryd.ntmps18
    go_wp2
    refine bodyPost_ret (v := vlv 3 1 ⟨#[]⟩) (by simp [results, Tryd.results18, go_sem]) rfl ?_
    exact ⟨3, 1, _, rfl, ⟨by omega, by omega⟩, HR.out, HB.out _⟩
  have e1 := ne_lit h1
  unfold tTrue at e1
  by_cases h2 : s.toList = tFalse
  · have e2 : (s.toList == [102, 97, 108, 115, 101]) = true := by rw [h2]; rfl
    have HR := Lib.hid (reads_lit (K := 3) (N := 0) h2 rfl (by decide) rfl)
    clear h0 h1 h2
    go_enter Tryd.func18, Tryd.ntmps18
    go_wp2
    refine bodyPost_ret (v := vlv 3 0 ⟨#[]⟩) (by simp [results, Tryd.results18, go_sem]) rfl ?_
    exact ⟨3, 0, _, rfl, ⟨by omega, by omega⟩, HR.out, HB.out _⟩
  have e2 := ne_lit h2
  unfold tFalse at e2
  have HS := Lib.hid hs
  clear hs
  by_cases hx : s.toList.head? = some 120
  · obtain ⟨r, hr⟩ : ∃ r, s.toList = 120 :: r := by
      cases hl : s.toList with
      | nil => rw [hl] at hx; simp at hx
      | cons c r => rw [hl] at hx; simp at hx; exact ⟨r, by rw [hx]⟩
    obtain ⟨p1, p2⟩ := pre_yes hr
    obtain ⟨y, hy⟩ : ∃ y : ByteArray, (⟨r.toArray⟩ : ByteArray) = y := ⟨_, rfl⟩
    have HY : Hid (y.toList = r) := Lib.hid (by rw [← hy, ba_mk1])
    have HYS : Hid (y.size ≤ 4096) := Lib.hid (by
      have := congrArg List.length hr
      have h3 := HS.out
      rw [ba_size, List.length_cons] at this
      rw [← ba_size, HY.out]; omega)
    have HC : Hid (∀ w, Calls Tryd.prog 37 #[.string s, .string ⟨#[120]⟩] w fun e w' => e = .returned (.tuple #[.string y, .bool true]) ∧ w' = w) := Lib.hid (fun w => by
      have h := Tryd.strings_CutPrefix s ⟨#[120]⟩ w
      rw [← ByteArray.toList_eq, show (ByteArray.mk #[120]).data.toList = [120] from rfl, p1, p2, hy] at h
      exact h)
    have HR : Hid (∀ l : List UInt8, (∀ T, y.toList = hexB T → l = T) → Reads s.toList ⟨4, 0, l⟩) := Lib.hid (fun l h => by
      rw [hr]; rw [HY.out] at h; exact reads_x h)
    clear h0 h1 h2 hx hr p1 p2 hy
    go_enter Tryd.func18, Tryd.ntmps18
    go_wp2_with fail
    refine (HC.out _).mono ?_
    rintro e w1 ⟨rfl, rfl⟩
    go_wp2_with fail
    refine (unhex_any y HYS.out _ (HTA.out _)).mono ?_
    rintro e w1 ⟨l, rfl, _, hl, hb1⟩
    have HR1 : Hid (Reads s.toList (vl 4 0 ⟨l.toArray⟩)) := Lib.hid (by show Reads _ ⟨4, 0, (ByteArray.mk l.toArray).toList⟩; rw [ba_mk1 l]; exact HR.out l hl)
    have H1 := Lib.hid (below_set3 ((HB.out _).trans (hb1.mono (by simp))))
    obtain ⟨⟨c0, c1, c2⟩, f0, f1, f2⟩ := res_cells hb1
    clear hb1 hl HR
    go_wp2
    refine bodyPost_ret (v := vlv 4 0 ⟨l.toArray⟩) (by simp [results, Tryd.results18, go_sem, c0, c1, c2]) rfl ?_
    exact ⟨4, 0, _, rfl, ⟨by omega, by omega⟩, HR1.out, H1.out _ _ _⟩
  have HCX : Hid (∀ w, Calls Tryd.prog 37 #[.string s, .string ⟨#[120]⟩] w fun e w' => (∃ y : ByteArray, e = .returned (.tuple #[.string y, .bool false])) ∧ w' = w) := Lib.hid (fun w => by
    refine (Tryd.strings_CutPrefix s ⟨#[120]⟩ w).mono ?_
    rintro e w' ⟨rfl, rfl⟩
    rw [← ByteArray.toList_eq, show (ByteArray.mk #[120]).data.toList = [120] from rfl, pre_no hx]
    exact ⟨⟨_, rfl⟩, rfl⟩)
  by_cases hq : s.toList.head? = some 34
  · obtain ⟨r, hr⟩ : ∃ r, s.toList = 34 :: r := by
      cases hl : s.toList with
      | nil => rw [hl] at hq; simp at hq
      | cons c r => rw [hl] at hq; simp at hq; exact ⟨r, by rw [hq]⟩
    obtain ⟨p1, p2⟩ := pre_yes hr
    obtain ⟨y, hy⟩ : ∃ y : ByteArray, (⟨r.toArray⟩ : ByteArray) = y := ⟨_, rfl⟩
    have HY : Hid (y.toList = r) := Lib.hid (by rw [← hy, ba_mk1])
    obtain ⟨z, hz⟩ : ∃ z : ByteArray, (⟨(Lib.trimSuffix r [34]).toArray⟩ : ByteArray) = z := ⟨_, rfl⟩
    have HZ : Hid (z.toList = Lib.trimSuffix r [34]) := Lib.hid (by rw [← hz, ba_mk1])
    have HYS : Hid (y.size ≤ 4096) := Lib.hid (by
      have := congrArg List.length hr
      have h3 := HS.out
      rw [ba_size, List.length_cons] at this
      rw [← ba_size, HY.out]; omega)
    have HZS : Hid (z.size ≤ 4096) := Lib.hid (by
      have h3 := HYS.out
      rw [← ba_size, HY.out] at h3
      rw [← ba_size, HZ.out]
      unfold Lib.trimSuffix
      split
      · have := List.length_take_le (r.length - [(34 : UInt8)].length) r; omega
      · exact h3)
    have HC : Hid (∀ w, Calls Tryd.prog 37 #[.string s, .string ⟨#[34]⟩] w fun e w' => e = .returned (.tuple #[.string y, .bool true]) ∧ w' = w) := Lib.hid (fun w => by
      have h := Tryd.strings_CutPrefix s ⟨#[34]⟩ w
      rw [← ByteArray.toList_eq, show (ByteArray.mk #[34]).data.toList = [34] from rfl, p1, p2, hy] at h
      exact h)
    have HTS : Hid (∀ w, Calls Tryd.prog 40 #[.string y, .string ⟨#[34]⟩] w fun e w' => e = .returned (.string z) ∧ w' = w) := Lib.hid (fun w => by
      have h := Tryd.strings_TrimSuffix y ⟨#[34]⟩ w (by have := HYS.out; omega)
      rw [← ByteArray.toList_eq, show (ByteArray.mk #[34]).data.toList = [34] from rfl, HY.out, hz] at h
      exact h)
    have HR : Hid (∀ l : List UInt8, (∀ T, z.toList = escB T → l = T) → Reads s.toList ⟨5, 0, l⟩) := Lib.hid (fun l h => by
      rw [hr]
      refine reads_q (fun T hT => h T ?_)
      rw [HZ.out, hT]
      exact (suf_yes rfl).2)
    clear h0 h1 h2 hx hq hr p1 p2 hy hz
    go_enter Tryd.func18, Tryd.ntmps18
    go_wp2_with fail
    refine (HCX.out _).mono ?_
    rintro e w1 ⟨⟨y0, rfl⟩, rfl⟩
    go_wp2_with fail
    refine (HC.out _).mono ?_
    rintro e w1 ⟨rfl, rfl⟩
    go_wp2_with fail
    refine (HTS.out _).mono ?_
    rintro e w1 ⟨rfl, rfl⟩
    go_wp2_with fail
    refine (unescape_any z HZS.out _ (HTA.out _)).mono ?_
    rintro e w1 ⟨l, rfl, _, hl, hb1⟩
    have HR1 : Hid (Reads s.toList (vl 5 0 ⟨l.toArray⟩)) := Lib.hid (by show Reads _ ⟨5, 0, (ByteArray.mk l.toArray).toList⟩; rw [ba_mk1 l]; exact HR.out l hl)
    have H1 := Lib.hid (below_set3 ((HB.out _).trans (hb1.mono (by simp))))
    obtain ⟨⟨c0, c1, c2⟩, f0, f1, f2⟩ := res_cells hb1
    clear hb1 hl HR
    go_wp2
    refine bodyPost_ret (v := vlv 5 0 ⟨l.toArray⟩) (by simp [results, Tryd.results18, go_sem, c0, c1, c2]) rfl ?_
    exact ⟨5, 0, _, rfl, ⟨by omega, by omega⟩, HR1.out, H1.out _ _ _⟩
  have HCQ : Hid (∀ w, Calls Tryd.prog 37 #[.string s, .string ⟨#[34]⟩] w fun e w' => (∃ y : ByteArray, e = .returned (.tuple #[.string y, .bool false])) ∧ w' = w) := Lib.hid (fun w => by
    refine (Tryd.strings_CutPrefix s ⟨#[34]⟩ w).mono ?_
    rintro e w' ⟨rfl, rfl⟩
    rw [← ByteArray.toList_eq, show (ByteArray.mk #[34]).data.toList = [34] from rfl, pre_no hq]
    exact ⟨⟨_, rfl⟩, rfl⟩)
  by_cases hu : s.toList.getLast? = some 117
  · obtain ⟨r, hr⟩ : ∃ r, s.toList = r ++ [117] := by
      rcases List.eq_nil_or_concat s.toList with h | ⟨r, c, h⟩
      · rw [h] at hu; simp at hu
      · rw [List.concat_eq_append] at h
        rw [h] at hu; simp at hu; exact ⟨r, by rw [h, hu]⟩
    obtain ⟨p1, p2⟩ := suf_yes hr
    obtain ⟨y, hy⟩ : ∃ y : ByteArray, (⟨r.toArray⟩ : ByteArray) = y := ⟨_, rfl⟩
    have HY : Hid (y.toList = r) := Lib.hid (by rw [← hy, ba_mk1])
    have HYS : Hid (y.size ≤ 4096) := Lib.hid (by
      have := congrArg List.length hr
      have h3 := HS.out
      rw [ba_size, List.length_append, List.length_singleton] at this
      rw [← ba_size, HY.out]; omega)
    have HC : Hid (∀ w, Calls Tryd.prog 41 #[.string s, .string ⟨#[117]⟩] w fun e w' => e = .returned (.tuple #[.string y, .bool true]) ∧ w' = w) := Lib.hid (fun w => by
      have h := Tryd.strings_CutSuffix s ⟨#[117]⟩ w (by have := HS.out; omega)
      rw [← ByteArray.toList_eq, show (ByteArray.mk #[117]).data.toList = [117] from rfl, p1, p2, hy] at h
      exact h)
    have HR : Hid (∀ n : Nat, (∀ m, m < M64 → y.toList = dig m → n = m) → Reads s.toList ⟨2, n, []⟩) := Lib.hid (fun n h => by
      rw [HY.out] at h
      exact reads_u hr hx hq h)
    clear h0 h1 h2 hx hq hu hr p1 p2 hy
    go_enter Tryd.func18, Tryd.ntmps18
    go_wp2_with fail
    refine (HCX.out _).mono ?_
    rintro e w1 ⟨⟨y0, rfl⟩, rfl⟩
    go_wp2_with fail
    refine (HCQ.out _).mono ?_
    rintro e w1 ⟨⟨y1, rfl⟩, rfl⟩
    go_wp2_with fail
    refine (HC.out _).mono ?_
    rintro e w1 ⟨rfl, rfl⟩
    go_wp2_with fail
    refine (parse_u64 y (by have := HYS.out; omega) _ (HTA.out _)).mono ?_
    rintro e w1 ⟨n, ev, rfl, hn, hl, hb1⟩
    have HN := Lib.hid hn
    have HR1 : Hid (Reads s.toList (vl 2 n ⟨#[]⟩)) := Lib.hid (by show Reads _ ⟨2, n.toNat, (ByteArray.mk #[]).toList⟩; rw [ba_nil]; exact HR.out n.toNat hl)
    have H1 := Lib.hid (below_set3 ((HB.out _).trans (hb1.mono (by simp))))
    obtain ⟨⟨c0, c1, c2⟩, f0, f1, f2⟩ := res_cells hb1
    clear hb1 hl hn HR
    go_wp2
    refine bodyPost_ret (v := vlv 2 n ⟨#[]⟩) (by simp [results, Tryd.results18, go_sem, c0, c1, c2]) rfl ?_
    exact ⟨2, n, _, rfl, HN.out, HR1.out, H1.out _ _ _⟩
  have HCU : Hid (∀ w, Calls Tryd.prog 41 #[.string s, .string ⟨#[117]⟩] w fun e w' => (∃ y : ByteArray, e = .returned (.tuple #[.string y, .bool false])) ∧ w' = w) := Lib.hid (fun w => by
    refine (Tryd.strings_CutSuffix s ⟨#[117]⟩ w (by have := HS.out; omega)).mono ?_
    rintro e w' ⟨rfl, rfl⟩
    rw [← ByteArray.toList_eq, show (ByteArray.mk #[117]).data.toList = [117] from rfl, suf_no hu]
    exact ⟨⟨_, rfl⟩, rfl⟩)
  have HR : Hid (∀ n : Nat, (∀ m, m < M64 → s.toList = itxt m → n = m) → Reads s.toList ⟨1, n, []⟩) := Lib.hid (fun n h => reads_i h0 h1 h2 hx hq hu h)
  clear h0 h1 h2 hx hq hu
  go_enter Tryd.func18, Tryd.ntmps18
  go_wp2_with fail
  refine (HCX.out _).mono ?_
  rintro e w1 ⟨⟨y0, rfl⟩, rfl⟩
  go_wp2_with fail
  refine (HCQ.out _).mono ?_
  rintro e w1 ⟨⟨y1, rfl⟩, rfl⟩
  go_wp2_with fail
  refine (HCU.out _).mono ?_
  rintro e w1 ⟨⟨y2, rfl⟩, rfl⟩
  go_wp2_with fail
  refine (parse_i64 s (by have := HS.out; omega) _ (HTA.out _)).mono ?_
  rintro e w1 ⟨n, ev, rfl, hn, hl, hb1⟩
  obtain ⟨hu1, hu2⟩ := conv_uns hn
  obtain ⟨k, hk⟩ : ∃ k, IntKind.u64.wrap n = k := ⟨_, rfl⟩
  rw [hk] at hu1 hu2
  have HN := Lib.hid hu1
  have HR1 : Hid (Reads s.toList (vl 1 k ⟨#[]⟩)) := Lib.hid (by show Reads _ ⟨1, k.toNat, (ByteArray.mk #[]).toList⟩; rw [ba_nil]; exact HR.out k.toNat (fun m hm e => hu2 m hm (hl m hm e)))
  have H1 := Lib.hid (below_set3 ((HB.out _).trans (hb1.mono (by simp))))
  obtain ⟨⟨c0, c1, c2⟩, f0, f1, f2⟩ := res_cells hb1
  clear hb1 hl hn HR hu1 hu2
  go_wp2
  refine bodyPost_ret (v := vlv 1 k ⟨#[]⟩) (by simp [results, Tryd.results18, go_sem, c0, c1, c2]) rfl ?_
  exact ⟨1, k, _, rfl, HN.out, HR1.out, H1.out _ _ _⟩

end Go.Proofs.YtcpfohjejhkgbaaDoor
