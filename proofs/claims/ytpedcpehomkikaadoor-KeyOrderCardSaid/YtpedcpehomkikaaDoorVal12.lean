/-
  Texts read: package value's Parse.
-/
import Derived.Test.YtpedcpehomkikaaDoorVal11
import Derived.Test.YtpedcpehomkikaaDoorVal6
import Derived.Test.YtpedcpehomkikaaDoorVal8
namespace Go.Proofs.YtpedcpehomkikaaDoor
open Go Go.RowKit
set_option linter.unusedVariables false
set_option linter.unusedSimpArgs false
set_option maxRecDepth 100000

/-- What a way to read texts may answer: the document's. -/
def ParseRet (s : ByteArray) (w : World) (e : Ending) (w' : World) : Prop :=
  ∃ (K N : Int) (S : ByteArray) (er : Int), e = .returned (.tuple #[vlv K N S, .int .i64 er]) ∧ U64 N ∧ (vl K N S, er) = vparse s.toList ∧ Below w.heap.size w w'
theorem vt_len (v : Vl) (hN : v.N < M64) : (vtext v).length ≤ 194 := by
  cases hv : v.okB with
  | false => rw [(vtext_nil v).2 hv]; simp
  | true =>
    have hS : v.S.length ≤ 64 := by
      have h := ok_size (K := v.K) (N := (v.N : Int)) (s := ⟨v.S.toArray⟩) (by
        show Vl.okB ⟨v.K, (v.N : Int).toNat, (ByteArray.mk v.S.toArray).toList⟩ = true
        rw [ba_mk1]; exact hv)
      rw [bl_mk] at h
      exact h
    rcases text_kinds v hv hN with ⟨_, t⟩ | ⟨_, t⟩ | ⟨_, t⟩ | ⟨_, t⟩ | ⟨_, t⟩ | ⟨_, t⟩ | ⟨_, t⟩
    · rw [t]; decide
    · rw [t]; decide
    · rw [t]; decide
    · rw [t, List.length_cons, hexB_length]; omega
    · rw [t]; have := escB_length v.S; simp only [List.length_cons, List.length_append, List.length_nil]; omega
    · rw [t, List.length_append]; have := dig_len20 (n := v.N) (by omega); simp only [List.length_cons, List.length_nil]; omega
    · rw [t]; unfold itxt
      split
      · have := dig_len20 (n := M64 - v.N) (by omega); simp only [List.length_cons]; omega
      · have := dig_len20 (n := v.N) (by omega); omega
theorem vparse_bad {s : List UInt8} (h : s = [] ∨ 194 < s.length) : vparse s = (⟨0, 0, []⟩, 2) := by
  rcases h with h | h
  · unfold vparse; rw [if_pos (.inl h)]
  · exact vparse_none (fun v hv hN e => by have := vt_len v hN; rw [e] at this; omega) (guess_lt s)
theorem u64_m {n : Int} (h : U64 n) : n.toNat < M64 := by have := h.lo; have := h.hi; unfold M64; omega

theorem cell_lt {w : World} {a : Addr} {v : Value} (h : w.cell? a = some v) : a.block < w.heap.size := by
  rcases Nat.lt_or_ge a.block w.heap.size with h' | h'
  · exact h'
  · simp [World.cell?, Array.getElem?_eq_none h'] at h
theorem keep_cell {w w1 : World} {o : Obj} {a : Addr} {v : Value} (h : w.cell? a = some v) (hb : Below (w.alloc o).heap.size (w.alloc o) w1) : w1.cell? a = some v := by
  have hl := cell_lt h
  have hb2 : Below w.heap.size w w1 := ((Below.refl _ w).alloc (Nat.le_refl _) o).trans (hb.mono (by simp))
  rw [hb2.cell hl]; exact h
theorem keep_frozen {w w1 : World} {o : Obj} {a : Addr} {v : Value} (h : w.cell? a = some v) (hf : w.frozen? a = false) (hb : Below (w.alloc o).heap.size (w.alloc o) w1) : w1.frozen? a = false := by
  have hl := cell_lt h
  have hb2 : Below w.heap.size w w1 := ((Below.refl _ w).alloc (Nat.le_refl _) o).trans (hb.mono (by simp))
  rw [hb2.frozen hl]; exact hf


end Go.Proofs.YtpedcpehomkikaaDoor
