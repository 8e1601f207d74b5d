/-
  What is read of a text: strconv's ParseUint and ParseInt at base 10, package value's read.
-/
import Derived.Test.YtpedcpehomkikaaDoorVal10
import Derived.Test.YtpedcpehomkikaaDoorValP
import Derived.Test.YtpedcpehomkikaaDoorVal1
import Derived.Lib.ParseIntBTie
namespace Go.Proofs.YtpedcpehomkikaaDoor
open Go Go.RowKit
set_option linter.unusedVariables false
set_option linter.unusedSimpArgs false
set_option maxRecDepth 100000

theorem err_var {w : World} (h : Tabs w) : (∃ tp p, w.var? Tryd.prog "strconv.ErrSyntax" = some #[.iface tp p]) ∧ ∃ tp p, w.var? Tryd.prog "strconv.ErrRange" = some #[.iface tp p] := ⟨h.syn, h.rng⟩
theorem parseM_le (M : Nat) (hM : M < 18446744073709551616) : ∀ (l : List UInt8) (acc u : Nat), acc < 18446744073709551616 → Lib.parseUintM M acc l = .ok u → u < 18446744073709551616
  | [], acc, u, ha, h => by
    simp only [Lib.parseUintM] at h
    injection h with h
    omega
  | c :: r, acc, u, ha, h => by
    simp only [Lib.parseUintM] at h
    split at h
    · split at h
      · cases h
      · split at h
        · cases h
        · exact parseM_le M hM r _ u (by omega) h
    · cases h
theorem parseU_lt {l : List UInt8} {u : Nat} (h : Lib.parseUintB 64 l = .ok u) : u < M64 := by
  unfold Lib.parseUintB at h
  split at h
  · cases h
  · exact parseM_le _ (by decide) l 0 u (by decide) h

/-- A number that an int64 holds. -/
structure I64 (n : Int) : Prop where
  lo : -9223372036854775808 ≤ n
  hi : n ≤ 9223372036854775807

/-- A comparison with a fixed text. -/
theorem eq_lit {s : ByteArray} {l : List UInt8} {b : Bool} (h : (s.toList == l) = b) : (s.toList == l) = b := h
theorem ne_lit {s : ByteArray} {l : List UInt8} (h : s.toList ≠ l) : (s.toList == l) = false := by simpa using h
theorem pre_yes {l r : List UInt8} {c : UInt8} (h : l = c :: r) : Lib.hasPrefix l [c] = true ∧ Lib.trimPrefix l [c] = r := by
  subst h
  have : Lib.hasPrefix (c :: r) [c] = true := by simp [Lib.hasPrefix]
  exact ⟨this, by unfold Lib.trimPrefix; rw [this]; rfl⟩
theorem pre_no {l : List UInt8} {c : UInt8} (h : l.head? ≠ some c) : Lib.hasPrefix l [c] = false := by
  unfold Lib.hasPrefix
  cases l with
  | nil => rfl
  | cons d r =>
    simp at h
    simp [List.isPrefixOf, Ne.symm h]
theorem suf_yes {l r : List UInt8} {c : UInt8} (h : l = r ++ [c]) : Lib.hasSuffix l [c] = true ∧ Lib.trimSuffix l [c] = r := by
  subst h
  have : Lib.hasSuffix (r ++ [c]) [c] = true := by simp [Lib.hasSuffix, List.isSuffixOf]
  exact ⟨this, by unfold Lib.trimSuffix; rw [this]; simp⟩
theorem suf_no {l : List UInt8} {c : UInt8} (h : l.getLast? ≠ some c) : Lib.hasSuffix l [c] = false := by
  unfold Lib.hasSuffix List.isSuffixOf
  rcases List.eq_nil_or_concat l with rfl | ⟨r, d, rfl⟩
  · rfl
  · simp at h
    simp [List.isPrefixOf]
    intro e; exact absurd e.symm h
def ReadRet (s : ByteArray) (w : World) (e : Ending) (w' : World) : Prop :=
  ∃ (K N : Int) (S : ByteArray), e = .returned (vlv K N S) ∧ U64 N ∧ Reads s.toList (vl K N S) ∧ Below w.heap.size w w'

theorem ba_nil : (ByteArray.mk #[]).toList = [] := ByteArray.toList_mk []
theorem ba_mk1 (l : List UInt8) : (ByteArray.mk l.toArray).toList = l := ByteArray.toList_mk l
theorem conv_uns {n : Int} (h : I64 n) : U64 (IntKind.u64.wrap n) ∧ ∀ m, m < M64 → n = sgn m → (IntKind.u64.wrap n).toNat = m := by
  obtain ⟨a, b⟩ := h
  rw [IntKind.wrap_u64]
  refine ⟨⟨by omega, by omega⟩, fun m hm e => ?_⟩
  unfold sgn M64 at *
  split at e <;> omega
theorem reads_lit {s : ByteArray} {K N : Int} {l : List UInt8} (h0 : s.toList = l) (hv : (⟨K, N.toNat, []⟩ : Vl).okB = true) (hN : N.toNat < M64) (ht : vtext ⟨K, N.toNat, []⟩ = l) : Reads s.toList (vl K N ⟨#[]⟩) := by
  show Reads s.toList ⟨K, N.toNat, (ByteArray.mk #[]).toList⟩
  rw [ba_nil, h0]
  exact reads_of hv hN ht

/-- What a fresh value holds behind a call. -/
theorem res_cells {w w1 : World} {t : TypeId} (hb : Below (w.alloc (.cells #[.int .i64 0, .int .u64 0, .string ⟨#[]⟩] t)).heap.size (w.alloc (.cells #[.int .i64 0, .int .u64 0, .string ⟨#[]⟩] t)) w1) :
    (w1.cell? ⟨w.heap.size, 0, none⟩ = some (.int .i64 0) ∧ w1.cell? ⟨w.heap.size, 1, none⟩ = some (.int .u64 0) ∧ w1.cell? ⟨w.heap.size, 2, none⟩ = some (.string ⟨#[]⟩)) ∧
    (w1.frozen? ⟨w.heap.size, 0, none⟩ = false ∧ w1.frozen? ⟨w.heap.size, 1, none⟩ = false ∧ w1.frozen? ⟨w.heap.size, 2, none⟩ = false) := by
  refine ⟨⟨?_, ?_, ?_⟩, ?_, ?_, ?_⟩
  · rw [hb.cell (by simp <;> omega)]; go_simp
  · rw [hb.cell (by simp <;> omega)]; go_simp
  · rw [hb.cell (by simp <;> omega)]; go_simp
  · rw [hb.frozen (by simp <;> omega)]; go_simp
  · rw [hb.frozen (by simp <;> omega)]; go_simp
  · rw [hb.frozen (by simp <;> omega)]; go_simp
theorem below_set3 {w w1 : World} (h : Below w.heap.size w w1) (a b c : Value) : Below w.heap.size w (((w1.setCell ⟨w.heap.size, 0, none⟩ a).setCell ⟨w.heap.size, 1, none⟩ b).setCell ⟨w.heap.size, 2, none⟩ c) :=
  ((h.setCell (p := ⟨w.heap.size, 0, none⟩) (Nat.le_refl _) a).setCell (p := ⟨w.heap.size, 1, none⟩) (Nat.le_refl _) b).setCell (p := ⟨w.heap.size, 2, none⟩) (Nat.le_refl _) c


end Go.Proofs.YtpedcpehomkikaaDoor
