/-
  ValueOrder: its walk.
-/
import Derived.Test.YtcpfohjejhkgbaaDoorVal13
namespace Go.Proofs.YtcpfohjejhkgbaaDoor
open Go Go.RowKit
set_option linter.unusedVariables false
set_option linter.unusedSimpArgs false
set_option maxRecDepth 100000

/-- A value that lies in block p. -/
structure At3 (w : World) (p : Nat) (K N : Int) (s : ByteArray) : Prop where
  k : w.cell? ⟨p, 0, none⟩ = some (.int .i64 K)
  n : w.cell? ⟨p, 1, none⟩ = some (.int .u64 N)
  s : w.cell? ⟨p, 2, none⟩ = some (.string s)
theorem At3.keep {w w1 : World} {p : Nat} {K N : Int} {s : ByteArray} (h : At3 w p K N s) (hb : Below w.heap.size w w1) : At3 w1 p K N s := ⟨keep0 h.k hb, keep0 h.n hb, keep0 h.s hb⟩
theorem At3.new (w : World) (K N : Int) (s : ByteArray) (t : TypeId) : At3 (w.alloc (.cells #[.int .i64 K, .int .u64 N, .string s] t)) w.heap.size K N s := ⟨by go_simp, by go_simp, by go_simp⟩
theorem At3.alloc {w : World} {p : Nat} {K N : Int} {s : ByteArray} (h : At3 w p K N s) (o : Obj) : At3 (w.alloc o) p K N s := h.keep ((Below.refl _ _).alloc (Nat.le_refl _) _)
theorem below3 (w : World) (a b c : Obj) : Below w.heap.size w (((w.alloc a).alloc b).alloc c) := (below_2 w a b).alloc (by simp; omega) _
/-- Two values: the same, or apart by the first field that differs. -/
theorem val_ways (K N : Int) (s : ByteArray) (L M : Int) (t : ByteArray) : (K = L ∧ N = M ∧ s = t) ∨ (K == L) = false ∨ (K = L ∧ (N == M) = false) ∨ (K = L ∧ N = M ∧ (s.toList == t.toList) = false) := by
  by_cases h1 : K = L
  · by_cases h2 : N = M
    · by_cases h3 : s.toList = t.toList
      · exact .inl ⟨h1, h2, ba_eq h3⟩
      · exact .inr (.inr (.inr ⟨h1, h2, by simpa using h3⟩))
    · exact .inr (.inr (.inl ⟨h1, by simpa using h2⟩))
  · exact .inr (.inl (by simpa using h1))
theorem vl_inj {K N L M : Int} {s t : ByteArray} (hN : U64 N) (hM : U64 M) (h : vl K N s = vl L M t) : K = L ∧ N = M ∧ s = t := by
  simp only [Vl.mk.injEq] at h
  have := hN.lo; have := hM.lo
  exact ⟨h.1, by omega, ba_eq h.2.2⟩


end Go.Proofs.YtcpfohjejhkgbaaDoor
