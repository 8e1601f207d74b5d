/-
  Values and columns among the arguments.
-/
import Derived.Test.YtpedcpehomkikaaDoorVal7
import Derived.ProofKit
import Derived.OpenShut
import Derived.Lib.SmallJoins
import Derived.Deep.Fields
namespace Go.Proofs.YtpedcpehomkikaaDoor
open Go Go.RowKit Go.Joins Go.ChangeShapes Go.WideShapes Go.Deep
set_option linter.unusedVariables false
set_option maxRecDepth 100000

theorem laid0 : laidOutB Tryd.prog = true := by kernel_rfl
theorem own0 : ownKnob Tryd.prog.godebug = none := by kernel_rfl
theorem wf_u64 {n : Int} (h : (Lit.int .u64 n).wf = true) : U64 n := by
  have : 0 ≤ n ∧ n ≤ 18446744073709551615 := by simpa [Lit.wf, IntKind.min, IntKind.max, IntKind.signed, IntKind.bits] using h
  exact ⟨this.1, by omega⟩
theorem one_val {c v : Value} (h : [c] = [v]) : c = v := by injection h
theorem arr3 {α : Type} {l : Array α} (h : l.size = 3) : ∃ a b c, l = #[a, b, c] := array3 h
theorem arr7 {α : Type} {l : Array α} (h : l.size = 7) : ∃ a b c d e f g, l = #[a, b, c, d, e, f, g] := by
  obtain ⟨l⟩ := l
  match l, h with
  | [a, b, c, d, e, f, g], _ => exact ⟨a, b, c, d, e, f, g, rfl⟩
section
variable {H : Type} {enc : TypeId × Value → H} {W : World} {base b0 : Nat} {sp : Nat → Bool} {held : Bool} {r : Reach}
theorem val_cs {fuel : Nat} {a b c : Value} {x : DataW H × List MemPlace} (h : DataW.trod enc Tryd.prog W base sp held fuel 35 [a, b, c] = some x) : ∃ (K N : Int) (s : ByteArray), a = .int .i64 K ∧ b = .int .u64 N ∧ c = .string s ∧ U64 N ∧ s.size ≤ maxLen := by
  obtain ⟨xs, n, _, _, _, hlen, hf⟩ := DataW.trod_struct Tryd.underlying35 h
  match xs, hlen with
  | [y0, y1, y2], _ =>
    have c3 : Tryd.prog.cellsOf 3 = 1 := by kernel_rfl
    have c22 : Tryd.prog.cellsOf 33 = 1 := by kernel_rfl
    have c9 : Tryd.prog.cellsOf 9 = 1 := by kernel_rfl
    have h0 : DataW.trod enc Tryd.prog W base sp held n 3 (List.take (Tryd.prog.cellsOf 3) (List.drop 0 [a, b, c])) = some y0 := hf 0 _ rfl
    have h1 : DataW.trod enc Tryd.prog W base sp held n 33 (List.take (Tryd.prog.cellsOf 33) (List.drop 1 [a, b, c])) = some y1 := hf 1 _ rfl
    have h2 : DataW.trod enc Tryd.prog W base sp held n 9 (List.take (Tryd.prog.cellsOf 9) (List.drop 2 [a, b, c])) = some y2 := hf 2 _ rfl
    simp only [c3, c22, c9, List.drop_zero, List.drop_succ_cons, List.take_succ_cons, List.take_zero] at h0 h1 h2
    obtain ⟨K, e0, _, _⟩ := DataW.trod_int Tryd.underlying3 h0
    obtain ⟨N, e1, _, w1⟩ := DataW.trod_int Tryd.underlying33 h1
    obtain ⟨s, e2, _, w2⟩ := DataW.trod_string Tryd.underlying9 h2
    exact ⟨K, N, s, one_val e0, one_val e1, one_val e2, wf_u64 w1, w2⟩
theorem open_val {v : Value} {d : DataW H} {p : List MemPlace} (hv : Value.okWide Tryd.prog W r b0 35 v) (h : DataW.Trod enc Tryd.prog W base sp held 35 v d p) : ∃ (K N : Int) (s : ByteArray), v = vlv K N s ∧ U64 N ∧ s.size ≤ maxLen := by
  obtain ⟨cs, rfl, hsz⟩ := okWide_struct Tryd.underlying35 hv
  obtain ⟨a, b, c, rfl⟩ := arr3 (hsz.trans (by kernel_rfl))
  obtain ⟨fuel, hf⟩ := h
  obtain ⟨K, N, s, rfl, rfl, rfl, hN, hs⟩ := val_cs (show DataW.trod enc Tryd.prog W base sp held fuel 35 [a, b, c] = some (d, p) from hf)
  exact ⟨K, N, s, rfl, hN, hs⟩

end

end Go.Proofs.YtpedcpehomkikaaDoor
