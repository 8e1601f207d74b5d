/-
  Three spans that lie in blocks of their own.
-/
import Derived.Test.YtpedcpehomkikaaDoorKey10
namespace Go.Proofs.YtpedcpehomkikaaDoor
open Go Go.RowKit
set_option linter.unusedVariables false
set_option maxRecDepth 100000

/-- Three spans that lie in blocks. -/
structure Sp3 (w0 w : World) (p : Nat) (la ha : ByteArray) (oa : Bool) (q : Nat) (lb hb : ByteArray) (ob : Bool) (r : Nat) (lc hc : ByteArray) (oc : Bool) : Prop where
  a : w.heap[p]? = some (.cells #[.string la, .string ha, .bool oa] 39 (0, 0))
  b : w.heap[q]? = some (.cells #[.string lb, .string hb, .bool ob] 39 (0, 0))
  c : w.heap[r]? = some (.cells #[.string lc, .string hc, .bool oc] 39 (0, 0))
  below : Below w0.heap.size w0 w
theorem Sp3.keep {w0 w w' : World} {p q r : Nat} {la ha lb hb lc hc : ByteArray} {oa ob oc : Bool} (h : Sp3 w0 w p la ha oa q lb hb ob r lc hc oc) (hbe : Below w.heap.size w w') : Sp3 w0 w' p la ha oa q lb hb ob r lc hc oc :=
  ⟨keep_heap h.a hbe, keep_heap h.b hbe, keep_heap h.c hbe, h.below.trans (hbe.mono h.below.size)⟩
theorem Sp3.cells {w0 w : World} {p q r : Nat} {la ha lb hb lc hc : ByteArray} {oa ob oc : Bool} (h : Sp3 w0 w p la ha oa q lb hb ob r lc hc oc) :
    w.cell? ⟨p, 0, none⟩ = some (.string la) ∧ w.cell? ⟨p, 1, none⟩ = some (.string ha) ∧ w.cell? ⟨p, 2, none⟩ = some (.bool oa) ∧ w.cell? ⟨q, 0, none⟩ = some (.string lb) ∧ w.cell? ⟨q, 1, none⟩ = some (.string hb) ∧ w.cell? ⟨q, 2, none⟩ = some (.bool ob) ∧ w.cell? ⟨r, 0, none⟩ = some (.string lc) ∧ w.cell? ⟨r, 1, none⟩ = some (.string hc) ∧ w.cell? ⟨r, 2, none⟩ = some (.bool oc) := by
  obtain ⟨a0, a1, a2⟩ := sp_read h.a
  obtain ⟨b0, b1, b2⟩ := sp_read h.b
  obtain ⟨c0, c1, c2⟩ := sp_read h.c
  exact ⟨a0, a1, a2, b0, b1, b2, c0, c1, c2⟩
theorem pre_l (a b : List UInt8) : a <+: a ++ b := ⟨b, rfl⟩

end Go.Proofs.YtpedcpehomkikaaDoor
