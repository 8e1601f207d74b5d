/-
  Package pack's Out as a part of memory.
-/
import Derived.Test.YtookbmpaoljelaaNodeMem
import Derived.Test.YtookbmpaoljelaaPackOut3
import Derived.Deep.Onto
namespace Go.Proofs.Ytookbmpaoljelaa
open Go Go.RowKit
set_option linter.unusedVariables false
set_option linter.unusedSimpArgs false
set_option maxRecDepth 100000

/-- An Out of one's own. -/
def OutR (p : Nat) (xs : List UInt8) : Res := fun w F => ∃ v, OutV w p v xs ∧ ∀ k, F k ↔ OutS p v k
instance {p : Nat} {xs : List UInt8} : Stab (OutR p xs) where
  lt := by
    rintro w F ⟨v, h, hF⟩ k hk
    rcases (hF k).1 hk with rfl | hk
    · exact lt_of_some h.at'
    · exact own_lt h.own hk
  keep := by
    rintro w w' F ⟨v, h, hF⟩ hk
    exact ⟨v, ⟨(hk p ((hF p).2 (.inl rfl))).trans h.at', own_keepAt h.own (fun k e => hk k ((hF k).2 (.inr e)))⟩, hF⟩
theorem own_outcall {w0 w : World} {p : Nat} {xs ys : List UInt8} {J : Res} [Stab J] {f : FuncId} {args : Array Value} {val : Value} (h : Own w0 w (Sep (OutR p xs) J))
    (hc : ∀ v, OutV w p v xs → Calls Try.prog f args w fun e w' => e = .returned val ∧ ∃ v', OutV w' p v' ys ∧ (v'.ownBlock = v.ownBlock ∨ ∃ g, v'.ownBlock = some g ∧ w.heap.size ≤ g) ∧ Only (OutS p v) w w') :
    Calls Try.prog f args w fun e w' => e = .returned val ∧ Own w0 w' (Sep (OutR p ys) J) := by
  refine (Own.call (val := fun _ : Unit => val) (Q := fun _ => OutR p ys) h ?_).mono ?_
  · rintro F B ⟨v, hV, hF⟩ hJ hd h0
    refine (hc v hV).mono ?_
    rintro e w' ⟨rfl, v', hV', hb, ho⟩
    refine ⟨(), OutS p v', rfl, ⟨v', hV', fun k => Iff.rfl⟩, fun k hk => ?_, ho.mono fun k _ e => (hF k).2 e⟩
    rcases hk with rfl | hk
    · exact .inl ((hF _).2 (.inl rfl))
    · rcases hb with e | ⟨g, e, hg⟩
      · exact .inl ((hF k).2 (.inr (by rw [← e]; exact hk)))
      · rw [hk] at e
        simp only [Option.some.injEq] at e
        subst e
        exact .inr hg
  · rintro e w' ⟨_, rfl, hq⟩
    exact ⟨rfl, hq⟩
section
variable {w0 w : World} {p : Nat} {xs : List UInt8} {J : Res} [Stab J]
theorem own_outU64 (h : Own w0 w (Sep (OutR p xs) J)) (x : Nat) (hx : x < 18446744073709551616) (hl : xs.length + 8 ≤ 140737488355328) :
    Calls Try.prog 39 #[.pointer (some ⟨p, 0, none⟩), .int .u64 x] w fun e w' => e = .returned (.tuple #[]) ∧ Own w0 w' (Sep (OutR p (xs ++ beB 8 x)) J) :=
  own_outcall h fun v hV => outU64 p x v xs w hV hx hl
theorem own_outU16 (h : Own w0 w (Sep (OutR p xs) J)) (x : Nat) (hx : x < 65536) (hl : xs.length + 2 ≤ 140737488355328) :
    Calls Try.prog 72 #[.pointer (some ⟨p, 0, none⟩), .int .u16 x] w fun e w' => e = .returned (.tuple #[]) ∧ Own w0 w' (Sep (OutR p (xs ++ beB 2 x)) J) :=
  own_outcall h fun v hV => outU16 p x v xs w hV hx hl
theorem own_outU8 (h : Own w0 w (Sep (OutR p xs) J)) (x : Nat) (hx : x < 256) (hl : xs.length + 1 ≤ 140737488355328) :
    Calls Try.prog 71 #[.pointer (some ⟨p, 0, none⟩), .int .u8 x] w fun e w' => e = .returned (.tuple #[]) ∧ Own w0 w' (Sep (OutR p (xs ++ beB 1 x)) J) :=
  own_outcall h fun v hV => outU8 p x v xs w hV hx hl
theorem own_outFlag (h : Own w0 w (Sep (OutR p xs) J)) (b : Bool) (hl : xs.length + 1 ≤ 140737488355328) :
    Calls Try.prog 34 #[.pointer (some ⟨p, 0, none⟩), .bool b] w fun e w' => e = .returned (.tuple #[]) ∧ Own w0 w' (Sep (OutR p (xs ++ flagB b)) J) :=
  own_outcall h fun v hV => outFlag p b v xs w hV hl
theorem own_outText (h : Own w0 w (Sep (OutR p xs) J)) (s : ByteArray) (hs : s.size ≤ 65535) (hl : xs.length + 2 + s.size ≤ 140737488355328) :
    Calls Try.prog 73 #[.pointer (some ⟨p, 0, none⟩), .string s] w fun e w' => e = .returned (.bool true) ∧ Own w0 w' (Sep (OutR p (xs ++ txtB s.toList)) J) :=
  own_outcall h fun v hV => by rw [ByteArray.toList_eq]; exact outText p s v xs w hV hs hl
theorem own_outBytes (h : Own w0 w (Sep (OutR p xs) J)) (hl : xs.length ≤ 140737488355328) :
    Calls Try.prog 22 #[.pointer (some ⟨p, 0, none⟩)] w fun e w' => ∃ v, e = .returned v ∧ Own w0 w' (Sep (RowV 5 1 v xs.length (u8s xs)) (Sep (OutR p xs) J)) := by
  refine (Own.call (val := fun v : Value => v) (Q := fun v => Sep (RowV 5 1 v xs.length (u8s xs)) (OutR p xs)) h ?_).mono ?_
  · rintro F B ⟨v, hV, hF⟩ hJ hd h0
    refine (outBytes p v xs w hV hl).mono ?_
    rintro e w' ⟨r, rfl, hr, ho⟩
    have hO : OutR p xs w F := ⟨v, hV, hF⟩
    refine ⟨r, fun k => r.ownBlock = some k ∨ F k, rfl, ⟨fun k => r.ownBlock = some k, F, ⟨hr.mono (Nat.zero_le _), fun k => Iff.rfl⟩, Stab.keep hO (fun k hk => ho.block k (Stab.lt hO k hk) (fun h => h)), fun k h1 h2 => ?_, fun k => Iff.rfl⟩, fun k hk => ?_, ho.mono fun k _ h => h.elim⟩
    · have := Stab.lt hO k h2
      rcases hr.2 with ⟨rfl, _⟩ | ⟨g, cap, cur, rfl, hb, _⟩
      · simp [Value.ownBlock] at h1
      · simp [Value.ownBlock] at h1
        omega
    · rcases hk with hk | hk
      · rcases hr.2 with ⟨rfl, _⟩ | ⟨g, cap, cur, rfl, hb, _⟩
        · simp [Value.ownBlock] at hk
        · simp [Value.ownBlock] at hk
          exact .inr (by omega)
      · exact .inl hk
  · rintro e w' ⟨v, rfl, hq⟩
    exact ⟨v, rfl, hq.assoc⟩
theorem own_outnew {w0 w : World} {I : Res} [Stab I] (h : Own w0 w I) : Own w0 (w.alloc (.cells #[.slice none 0 0] 50)) (Sep (OutR w.heap.size []) I) := by
  refine h.fresh ((Only.refl _ w).alloc _) (B := fun k => k = w.heap.size) ⟨.slice none 0 0, ⟨heap_alloc_new w _, World.ownsRow_nil _ _ _ _⟩, fun k => ?_⟩ (fun k e => by omega)
  simp [OutS, Value.ownBlock]
end

end Go.Proofs.Ytookbmpaoljelaa
