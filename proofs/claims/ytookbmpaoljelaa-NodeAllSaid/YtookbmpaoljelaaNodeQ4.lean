/-
  The reference's Out as a part of memory. (Written by wip/tools/gennodeq4.py.)
-/
import Derived.Test.YtookbmpaoljelaaNodeMem
import Derived.Test.YtookbmpaoljelaaPackROut2
import Derived.Test.YtookbmpaoljelaaNodeOut
import Derived.Test.YtookbmpaoljelaaSepAc
namespace Go.Proofs.Ytookbmpaoljelaa.R
open Go Go.RowKit Go.Lib Go.Proofs.Ytookbmpaoljelaa
set_option linter.unusedVariables false
set_option linter.unusedSimpArgs false
set_option maxRecDepth 100000

/-- An Out of one's own. -/
def OutR (p : Nat) (xs : List UInt8) : Res := fun w F => ∃ v, R.OutV w p v xs ∧ ∀ k, F k ↔ OutS p v k
instance {p : Nat} {xs : List UInt8} : Stab (R.OutR p xs) where
  lt := by
    rintro w F ⟨v, h, hF⟩ k hk
    rcases (hF k).1 hk with rfl | hk
    · exact lt_of_some h.at'
    · exact own_lt h.own hk
  keep := by
    rintro w w' F ⟨v, h, hF⟩ hk
    exact ⟨v, ⟨(hk p ((hF p).2 (.inl rfl))).trans h.at', own_keepAt h.own (fun k e => hk k ((hF k).2 (.inr e)))⟩, hF⟩
theorem own_outcall {w0 w : World} {p : Nat} {xs ys : List UInt8} {J : Res} [Stab J] {f : FuncId} {args : Array Value} {val : Value} (h : Own w0 w (Sep (R.OutR p xs) J))
    (hc : ∀ v, R.OutV w p v xs → Calls Try.prog f args w fun e w' => e = .returned val ∧ ∃ v', R.OutV w' p v' ys ∧ (v'.ownBlock = v.ownBlock ∨ ∃ g, v'.ownBlock = some g ∧ w.heap.size ≤ g) ∧ Only (OutS p v) w w') :
    Calls Try.prog f args w fun e w' => e = .returned val ∧ Own w0 w' (Sep (R.OutR p ys) J) := by
  refine (Own.call (val := fun _ : Unit => val) (Q := fun _ => R.OutR p ys) h ?_).mono ?_
  · rintro F B ⟨v, hV, hF⟩ hJ hd h0
    refine (hc v hV).mono ?_
    rintro e w' ⟨rfl, v', hV', hb, ho⟩
    refine ⟨(), OutS p v', rfl, ⟨v', hV', fun k => Iff.rfl⟩, fun k hk => ?_, ho.mono fun k _ e => (hF k).2 e⟩
    rcases hk with rfl | hk
    · exact .inl ((hF _).2 (.inl rfl))
    · rcases hb with e | ⟨g, e, hg⟩
      · exact .inl ((hF k).2 (.inr (by rw [← e]; exact hk)))
      · rw [hk] at e
        simp only [Option.some.injEq] at e
        subst e
        exact .inr hg
  · rintro e w' ⟨_, rfl, hq⟩
    exact ⟨rfl, hq⟩
section
variable {w0 w : World} {p : Nat} {xs : List UInt8} {J : Res} [Stab J]
theorem own_num (h : Own w0 w (Sep (R.OutR p xs) J)) (z : Int) (n : Nat) (hz : NumW z) (hn : n ≤ 8) (hl : xs.length + n ≤ 140737488355328) :
    Calls Try.prog 46 #[.pointer (some ⟨p, 0, none⟩), .int .u64 z, .int .i64 n] w fun e w' => e = .returned (.tuple #[]) ∧ Own w0 w' (Sep (R.OutR p (xs ++ beB n z.toNat)) J) := by
  have hz0 := hz.1
  have hz1 := hz.2
  obtain ⟨x, rfl⟩ : ∃ x : Nat, z = (x : Int) := ⟨z.toNat, by omega⟩
  rw [Int.toNat_natCast]
  exact R.own_outcall h fun v hV => R.putNumber p x n v xs w hV hn (by omega) hl
theorem own_flag (h : Own w0 w (Sep (R.OutR p xs) J)) (b : Bool) (hl : xs.length + 1 ≤ 140737488355328) :
    Calls Try.prog 45 #[.pointer (some ⟨p, 0, none⟩), .bool b] w fun e w' => e = .returned (.tuple #[]) ∧ Own w0 w' (Sep (R.OutR p (xs ++ flagB b)) J) :=
  R.own_outcall h fun v hV => R.outFlag p b v xs w hV hl
theorem own_text (h : Own w0 w (Sep (R.OutR p xs) J)) (s : ByteArray) (hs : s.size ≤ 65535) (hl : xs.length + 2 + s.size ≤ 140737488355328) :
    Calls Try.prog 47 #[.pointer (some ⟨p, 0, none⟩), .string s] w fun e w' => e = .returned (.bool true) ∧ Own w0 w' (Sep (R.OutR p (xs ++ txtB s.toList)) J) :=
  R.own_outcall h fun v hV => by rw [ByteArray.toList_eq]; exact R.outText p s v xs w hV hs hl
omit [Stab J] in
/-- What an Out holds, as a slice of one's own. -/
theorem own_get (h : Own w0 w (Sep (R.OutR p xs) J)) : ∃ v, w.cell? ⟨p, 0, none⟩ = some v ∧ Own w0 w (RowV 5 1 v xs.length (u8s xs)) := by
  obtain ⟨F, ⟨A, B, ⟨v, hV, hA⟩, hB, hd, hF⟩, h2, h3⟩ := h
  exact ⟨v, hV.cell, fun k => v.ownBlock = some k, ⟨hV.own, fun k => Iff.rfl⟩, fun k hk => h2 k ((hF k).2 (.inl ((hA k).2 (.inr hk)))), h3⟩
theorem own_outnew {I : Res} [Stab I] (h : Own w0 w I) : Own w0 (w.alloc (.cells #[.slice none 0 0] 80)) (Sep (R.OutR w.heap.size []) I) := by
  refine h.fresh ((Only.refl _ w).alloc _) (B := fun k => k = w.heap.size) ⟨.slice none 0 0, ⟨heap_alloc_new w _, World.ownsRow_nil _ _ _ _⟩, fun k => ?_⟩ (fun k e => by omega)
  simp [OutS, Value.ownBlock]
end

end Go.Proofs.Ytookbmpaoljelaa.R
