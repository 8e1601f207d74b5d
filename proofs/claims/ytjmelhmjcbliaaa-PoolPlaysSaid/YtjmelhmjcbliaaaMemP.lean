/-
  Slices of bytes under the program's own types: as a text, and copied into new memory.
-/
import Derived.Test.YtjmelhmjcbliaaaRows
import Derived.Test.YtjmelhmjcbliaaaMem
import Derived.Laws.AppendOwnNone
import Derived.Laws.IdiomStrings
namespace Go.Proofs.Ytjmelhmjcbliaaa
open Go Go.RowKit Go.Lib
set_option linter.unusedVariables false
set_option linter.unusedSimpArgs false
set_option maxRecDepth 100000

theorem Try.infoU8 : (Try.prog.info? 5).map (fun i => (i.zero, i.size, i.bytes)) = some (some (.int .u8 0), 1, 1) := by kernel_rfl

theorem run_strC {w : World} {v : Value} {xs : List UInt8} (h : SlC w v xs) : (convert 35 9 v).run Try.prog w = .ok (.string ⟨xs.toArray⟩) w := by
  rcases h with ⟨rfl, rfl⟩ | ⟨a, cap, rfl, hc⟩
  · rw [run_convert_bytes_string w 35 9 5 none 0 0 Try.underlying35 Try.underlying5 Try.underlying9]
    kernel_rfl
  · refine run_convert_bytes_back w 35 9 5 a cap xs Try.underlying35 Try.underlying5 Try.underlying9 (fun j hj => ?_)
    rw [hc j hj]
    simp [hj]

/-- append onto a fresh empty slice: a copy in new memory. -/
theorem wp_fresh {ops : Array Oper} {rest : List Oper} {o : Oper} {a : Act} {Q : Exit → Act → World → Prop} (w : World) (v : Value) (xs : List UInt8) (hC : SlC w v xs) (hlen : xs.length ≤ 140737488355328)
    (hgd : o.guard = none) (s x : Operand) (ho : o.op = .call { callee := .builtin .append, args := #[s, x], argTypes := #[35, 35] })
    (hs : a.eval s = .slice (some ⟨w.heap.size, 0, none⟩) 0 0) (hx : a.eval x = v)
    (h : ∀ ao cap w', Hid (w'.ownsRow w.heap.size 5 1 (.slice ao xs.length cap) xs.length (u8s xs)) → Hid (Only (fun _ => False) w w') → wpList Try.prog ops Q rest (a.put o.dst (.slice ao xs.length cap)) w') :
    wpList Try.prog ops Q (o :: rest) a (w.alloc (.cells #[] 5)) := by
  obtain ⟨i0, hi, hz0, hz1, hz2⟩ := info_parts Try.infoU8
  have hmade := World.ownsRow_made (base := w.heap.size) (e := 5) (size := 1) w #[] 0 (Nat.le_refl _) (by decide) rfl
  rcases hC with ⟨rfl, rfl⟩ | ⟨ad, cap, rfl, hc⟩
  · refine wpList_append_own_none hgd s x 35 ho w.heap.size 5 i0 1 Try.underlying35 hi _ 0 [] hs hmade hx ?_
    exact h (some ⟨w.heap.size, 0, none⟩) 0 _ hmade ((Only.refl _ w).alloc _)
  · refine wpList_append_own _ hgd s x 35 ho w.heap.size 5 i0 (.int .u8 0) 1 1 Try.underlying35 hi hz0 hz1 hz2 rfl (by decide) _ 0 [] hs hmade ad xs.length cap (u8s xs) hx ?_ ?_ (u8s_oneCell xs) ?_ ?_ ?_ ?_
    · rw [u8s_length, Nat.mul_one]
    · intro j u hu
      obtain ⟨hj, rfl⟩ := u8s_get hu
      have h1 := hc j hj
      have hb : (ad.add j).block < w.heap.size := World.block_lt_of_cell? w _ h1
      exact (World.cell?_of_block (Below.heap_alloc w _ _ hb)).trans h1
    · unfold maxLen; omega
    · omega
    · simp
    · intro v' w1 hown hg _
      rw [Nat.zero_add, List.nil_append] at hown
      obtain ⟨ao, cap', rfl⟩ := own_shape hown
      exact h ao cap' w1 hown (((Only.refl _ w).alloc _).grown hg (fun k hk e => by simp [Value.ownBlock] at e; omega))

end Go.Proofs.Ytjmelhmjcbliaaa
