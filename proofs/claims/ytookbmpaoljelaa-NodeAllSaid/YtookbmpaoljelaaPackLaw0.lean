/-
  The statements' awake: it answers true, and changes nothing that was there.
-/
import Derived.Test.YtookbmpaoljelaaPackIn5
import Derived.Test.YtookbmpaoljelaaPackOut3
namespace Go.Proofs.Ytookbmpaoljelaa
open Go Go.RowKit Go.Lib
set_option linter.unusedVariables false
set_option linter.unusedSimpArgs false
set_option maxRecDepth 100000

theorem OutV.new (w : World) : OutV (w.alloc (.cells #[.slice none 0 0] 50)) w.heap.size (.slice none 0 0) [] :=
  ⟨heap_alloc_new w _, World.ownsRow_nil _ _ _ _⟩

theorem Only.none {a b c : World} {S : Nat → Prop} (h : Only (fun _ => False) a b) (k : Only S b c) (hS : ∀ k, S k → a.heap.size ≤ k) : Only (fun _ => False) a c :=
  h.trans k (fun i hi hs => by have := hS i hs; omega)
theorem OutS.ge {B p : Nat} {v : Value} (hp : B ≤ p) (hv : v.ownBlock = .none ∨ ∃ g, v.ownBlock = some g ∧ B ≤ g) : ∀ k, OutS p v k → B ≤ k := by
  intro k h
  rcases h with rfl | h
  · exact hp
  · rcases hv with hv | ⟨g, hg, hB⟩
    · rw [hv] at h; cases h
    · rw [hg] at h; simp at h; omega
theorem row_ge {B : Nat} {w : World} {v v' : Value} (hB : B ≤ w.heap.size) (hv : v.ownBlock = .none ∨ ∃ g, v.ownBlock = some g ∧ B ≤ g) (h : v'.ownBlock = v.ownBlock ∨ ∃ g, v'.ownBlock = some g ∧ w.heap.size ≤ g) :
    v'.ownBlock = .none ∨ ∃ g, v'.ownBlock = some g ∧ B ≤ g := by
  rcases h with h | ⟨g, hg, hge⟩
  · rw [h]; exact hv
  · exact .inr ⟨g, hg, by omega⟩

theorem OutV.keep {S : Nat → Prop} {w w' : World} {p : Nat} {v : Value} {xs : List UInt8} (h : OutV w p v xs) (ho : Only S w w') (hp : ¬ S p) (hv : ∀ g, v.ownBlock = some g → ¬ S g) : OutV w' p v xs := by
  refine ⟨ho.keep h.at' hp, h.own.1, ?_⟩
  rcases h.own.2 with h0 | ⟨g, cap, cur, rfl, hb, hg, rest⟩
  · exact .inl h0
  · exact .inr ⟨g, cap, cur, rfl, hb, ho.keep hg (hv g rfl), rest⟩
theorem InV.keep {S : Nat → Prop} {w w' : World} {p : Nat} {v : Value} {xs : List UInt8} {bad : Bool} (h : InV w p v xs bad) (ho : Only S w w') (hp : ¬ S p)
    (hS : ∀ k cur, w.heap[k]? = some (.cells cur 5 (0, 0)) → ¬ S k) : InV w' p v xs bad :=
  ⟨ho.keep h.at' hp, h.sl.keep ho hS⟩
theorem SlB.lit (w : World) (xs : List UInt8) (cur : Array Value) (hm : xs.length ≤ maxLen) (h : cur = (u8s xs).toArray) :
    SlB (w.alloc (.cells cur 5)) (.slice (some ⟨w.heap.size, 0, none⟩) xs.length xs.length) xs :=
  .inr ⟨w.heap.size, 0, xs.length, cur, rfl, Nat.le_refl _, hm, heap_alloc_new w _, fun j hj => by subst h; simpa using u8s_at hj⟩


end Go.Proofs.Ytookbmpaoljelaa
