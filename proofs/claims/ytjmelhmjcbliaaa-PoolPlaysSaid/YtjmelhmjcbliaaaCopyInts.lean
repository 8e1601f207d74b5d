/-
  Numbers copied into new memory: append onto a fresh empty slice of int.
-/
import Derived.Test.YtjmelhmjcbliaaaOpen
import Derived.Test.YtjmelhmjcbliaaaMem2
namespace Go.Proofs.Ytjmelhmjcbliaaa
open Go Go.ChangeShapes Go.WideShapes Go.ChangeAt Go.RowKit
set_option linter.unusedVariables false
set_option linter.unusedSimpArgs false
set_option maxRecDepth 100000

theorem Try.infoInt : (Try.prog.info? 3).map (fun i => (i.zero, i.size, i.bytes)) = some (some (.int .i64 0), 1, 8) := by kernel_rfl

/-- An argument without memory has no room. -/
theorem nil_room {H : Type} {enc : TypeId × Value → H} {W : World} {n c : Nat} {ao : Option Addr} {d : DataW H} {ps : List MemPlace} (h : DataW.Trod enc Try.prog W 0 (fun _ => true) true 58 (.slice ao n c) d ps) : ao = none → c = 0 := by
  rintro rfl
  obtain ⟨fuel, hf⟩ := h
  rcases open_ints Try.underlying58 Try.underlying3 Try.cellsInt hf with ⟨hcs, _⟩ | ⟨a, len', cap', zs, hcs, _⟩
  · simp [Value.cells] at hcs; exact hcs.2
  · simp [Value.cells] at hcs

def i64s (ks : List Int) : List Value := ks.map (Value.int .i64)
theorem i64s_oneCell (ks : List Int) : ∀ u ∈ i64s ks, u.oneCell' = true := by
  intro u hu; simp [i64s] at hu; obtain ⟨b, _, rfl⟩ := hu; rfl
/-- The same numbers in new memory (or none). -/
def FreshI (w0 : World) (ao : Option Addr) (ks : List Int) (w : World) : Prop := SlI w ao ks ∧ (∀ a, ao = some a → w0.heap.size ≤ a.block ∧ a.block < w.heap.size) ∧ Only (fun _ => False) w0 w

theorem wp_freshI {ops : Array Oper} {rest : List Oper} {o : Oper} {a : Act} {Q : Exit → Act → World → Prop} (w : World) (ao : Option Addr) (c : Nat) (ks : List Int) (hI : SlI w ao ks) (hc : ao = none → c = 0) (hlen : ks.length * 8 ≤ 140737488355328)
    (hgd : o.guard = none) (s x : Operand) (ho : o.op = .call { callee := .builtin .append, args := #[s, x], argTypes := #[58, 58] })
    (hs : a.eval s = .slice (some ⟨w.heap.size, 0, none⟩) 0 0) (hx : a.eval x = .slice ao ks.length c)
    (h : ∀ bo cap w', Hid (FreshI w bo ks w') → wpList Try.prog ops Q rest (a.put o.dst (.slice bo ks.length cap)) w') :
    wpList Try.prog ops Q (o :: rest) a (w.alloc (.cells #[] 3)) := by
  obtain ⟨i0, hi, hz0, hz1, hz2⟩ := info_parts Try.infoInt
  have hmade := World.ownsRow_made (base := w.heap.size) (e := 3) (size := 1) w #[] 0 (Nat.le_refl _) (by decide) rfl
  have hOnly := (Only.refl (fun _ => False) w).alloc (.cells #[] 3)
  cases ao with
  | none =>
    obtain rfl := hc rfl
    have hk : ks = [] := by
      cases ks with
      | nil => rfl
      | cons z ks => obtain ⟨g, off, e, _⟩ := hI 0 (by simp); cases e
    subst hk
    refine wpList_append_own_none hgd s x 58 ho w.heap.size 3 i0 1 Try.underlying58 hi _ 0 [] hs hmade hx ?_
    exact h (some ⟨w.heap.size, 0, none⟩) 0 _ ⟨fun j hj => by simp at hj, fun a e => by simp at e; subst e; exact ⟨Nat.le_refl _, by simp⟩, hOnly⟩
  | some ad =>
    refine wpList_append_own _ hgd s x 58 ho w.heap.size 3 i0 (.int .i64 0) 1 8 Try.underlying58 hi hz0 hz1 hz2 rfl (by decide) _ 0 [] hs hmade ad ks.length c (i64s ks) hx ?_ ?_ (i64s_oneCell ks) ?_ ?_ ?_ ?_
    · simp [i64s]
    · intro j u hu
      simp only [i64s, List.getElem?_map, Option.map_eq_some_iff] at hu
      obtain ⟨z, hz, rfl⟩ := hu
      obtain ⟨hj, rfl⟩ := List.getElem?_eq_some_iff.1 hz
      obtain ⟨g, off, e, hcell⟩ := hI j hj
      simp at e
      subst e
      rw [add_lit]
      have hb := World.block_lt_of_cell? w _ hcell
      rw [World.cell?_of_block (Below.heap_alloc w _ _ hb), hcell]
      simp [hj]
    · unfold maxLen; omega
    · omega
    · simp
    · intro v' w1 hown hg _
      rw [Nat.zero_add, List.nil_append] at hown
      obtain ⟨bo, cap', rfl⟩ := own_shape hown
      refine h bo cap' w1 ⟨fun j hj => ?_, fun b e => ?_, hOnly.grown hg (fun k hk e => by simp [Value.ownBlock] at e; omega)⟩
      · have hrow : ∃ g, bo = some ⟨g, 0, none⟩ := by
          rcases hown.2 with ⟨hv, h0⟩ | ⟨g, cap, cur, hv, _⟩
          · omega
          · simp at hv; exact ⟨g, hv.1⟩
        obtain ⟨g, rfl⟩ := hrow
        refine ⟨g, 0, rfl, ?_⟩
        rw [Nat.zero_add, hown.cellAt j (by simpa [i64s] using hj)]
        simp [i64s, hj]
      · rcases hown.2 with ⟨hv, h0⟩ | ⟨g, cap, cur, hv, hge, _⟩
        · simp at hv; rw [e] at hv; simp at hv
        · simp at hv; rw [e] at hv; simp at hv; rw [hv.1]; exact ⟨hge, own_lt hown (by rw [e, hv.1]; rfl)⟩

/-- Numbers in a block of their own. -/
def IntR (ao : Option Addr) (ks : List Int) : Res := fun w F => SlI w ao ks ∧ (∀ a, ao = some a → a.block < w.heap.size) ∧ ∀ k, F k ↔ ∃ a, ao = some a ∧ a.block = k
instance {ao : Option Addr} {ks : List Int} : Stab (IntR ao ks) where
  lt := by
    rintro w F ⟨h1, h2, h3⟩ k hk
    obtain ⟨a, e, rfl⟩ := (h3 k).1 hk
    exact h2 a e
  keep := by
    rintro w w' F ⟨h1, h2, h3⟩ hk
    have hb : ∀ a, ao = some a → w'.heap[a.block]? = w.heap[a.block]? := fun a e => hk _ ((h3 _).2 ⟨a, e, rfl⟩)
    refine ⟨fun j hj => ?_, fun a e => ?_, h3⟩
    · obtain ⟨g, off, e, hc⟩ := h1 j hj
      exact ⟨g, off, e, (World.cell?_of_block (a := ⟨g, off + j, none⟩) (show w'.heap[g]? = w.heap[g]? from hb ⟨g, off, none⟩ e)).trans hc⟩
    · have h := h2 a e
      have e2 := hb a e
      rw [Array.getElem?_eq_getElem h] at e2
      exact lt_of_some e2
theorem fresh_own {w0 w w' : World} {I : Res} [Stab I] {ao : Option Addr} {ks : List Int} (h : Own w0 w I) (hf : FreshI w ao ks w') : Own w0 w' (Sep (IntR ao ks) I) :=
  h.fresh hf.2.2 (B := fun k => ∃ a, ao = some a ∧ a.block = k) ⟨hf.1, fun a e => (hf.2.1 a e).2, fun _ => Iff.rfl⟩ (fun k ⟨a, e, hk⟩ => hk ▸ (hf.2.1 a e).1)
theorem IntR.apart {w : World} {ao : Option Addr} {ks : List Int} {J : Res} {F B : Nat → Prop} (hJ : Sep (IntR ao ks) J w B) (hd : ∀ k, F k → ¬ B k) : SlI w ao ks ∧ ∀ a, ao = some a → ks ≠ [] → ¬ F a.block := by
  obtain ⟨A, C, hA, hC, hac, hB⟩ := hJ
  exact ⟨hA.1, fun a e _ hk => hd _ hk ((hB _).2 (.inl ((hA.2.2 _).2 ⟨a, e, rfl⟩)))⟩
end Go.Proofs.Ytjmelhmjcbliaaa
