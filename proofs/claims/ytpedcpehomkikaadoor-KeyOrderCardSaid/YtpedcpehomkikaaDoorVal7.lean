/-
  What may stand in a column, and which columns there are: package value's Fits, boundFits and Column.
-/
import Derived.Test.YtpedcpehomkikaaDoorVal6
namespace Go.Proofs.YtpedcpehomkikaaDoor
open Go Go.RowKit
set_option linter.unusedVariables false
set_option linter.unusedSimpArgs false
set_option maxRecDepth 100000

/-- The value of a column. -/
abbrev colv (nm : ByteArray) (cK cM : Int) (nu : Bool) (dK dN : Int) (dS : ByteArray) : Value := .agg #[.string nm, .int .i64 cK, .int .i64 cM, .bool nu, .int .i64 dK, .int .u64 dN, .string dS]
def fitsE (cK cM : Int) (nu : Bool) (v : Vl) : Int :=
  if v.okB = false then 8 else if v.K = 0 ∧ nu = false then 8 else if v.K ≠ 0 ∧ v.K ≠ cK then 8 else if (v.K = 4 ∨ v.K = 5) ∧ cM < (v.S.length : Int) then 7 else 0
/-- What Fits' two arguments hold behind a call. -/
theorem fits_cells {nm : ByteArray} {cK cM : Int} {nu : Bool} {dK dN : Int} {dS : ByteArray} {K N : Int} {s : ByteArray} {w w1 : World} {t1 t2 : TypeId}
    (hb : Below ((w.alloc (.cells #[.string nm, .int .i64 cK, .int .i64 cM, .bool nu, .int .i64 dK, .int .u64 dN, .string dS] t1)).alloc (.cells #[.int .i64 K, .int .u64 N, .string s] t2)).heap.size ((w.alloc (.cells #[.string nm, .int .i64 cK, .int .i64 cM, .bool nu, .int .i64 dK, .int .u64 dN, .string dS] t1)).alloc (.cells #[.int .i64 K, .int .u64 N, .string s] t2)) w1) :
    w1.cell? ⟨w.heap.size, 0, none⟩ = some (.string nm) ∧ w1.cell? ⟨w.heap.size, 1, none⟩ = some (.int .i64 cK) ∧ w1.cell? ⟨w.heap.size, 2, none⟩ = some (.int .i64 cM) ∧ w1.cell? ⟨w.heap.size, 3, none⟩ = some (.bool nu) ∧
    w1.cell? ⟨w.heap.size + 1, 0, none⟩ = some (.int .i64 K) ∧ w1.cell? ⟨w.heap.size + 1, 2, none⟩ = some (.string s) := by
  refine ⟨?_, ?_, ?_, ?_, ?_, ?_⟩ <;> (rw [hb.cell (by simp <;> omega)]; go_simp)


def boundB (cK cM : Int) : Bool := if cK = 4 ∨ cK = 5 then decide (1 ≤ cM) && decide (cM ≤ 64) else decide (cM = 0)
def colE (nm : List UInt8) (cK cM : Int) (nu : Bool) (d : Vl) : Int :=
  if nameB nm = false then 1 else if cK < 1 ∨ 5 < cK then 8 else if boundB cK cM = false then 7 else fitsE cK cM nu d
/-- What Column's argument holds behind a call. -/
theorem col_cells {nm : ByteArray} {cK cM : Int} {nu : Bool} {dK dN : Int} {dS : ByteArray} {w w1 : World} {t1 : TypeId}
    (hb : Below (w.alloc (.cells #[.string nm, .int .i64 cK, .int .i64 cM, .bool nu, .int .i64 dK, .int .u64 dN, .string dS] t1)).heap.size (w.alloc (.cells #[.string nm, .int .i64 cK, .int .i64 cM, .bool nu, .int .i64 dK, .int .u64 dN, .string dS] t1)) w1) :
    w1.cell? ⟨w.heap.size, 0, none⟩ = some (.string nm) ∧ w1.cell? ⟨w.heap.size, 1, none⟩ = some (.int .i64 cK) ∧ w1.cell? ⟨w.heap.size, 2, none⟩ = some (.int .i64 cM) ∧ w1.cell? ⟨w.heap.size, 3, none⟩ = some (.bool nu) ∧
    w1.cell? ⟨w.heap.size, 4, none⟩ = some (.int .i64 dK) ∧ w1.cell? ⟨w.heap.size, 5, none⟩ = some (.int .u64 dN) ∧ w1.cell? ⟨w.heap.size, 6, none⟩ = some (.string dS) := by
  refine ⟨?_, ?_, ?_, ?_, ?_, ?_, ?_⟩ <;> (rw [hb.cell (by simp <;> omega)]; go_simp)


end Go.Proofs.YtpedcpehomkikaaDoor
