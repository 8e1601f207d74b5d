/-
  Laws of the walk on whole arrays and structs by value, over any program: a new variable that is filled at once; parts of rows of bytes.
-/
import Derived.Test.YtjmelhmjcbliaaaMem
import Derived.Deep.MidRow
import Derived.Deep.WholeRow
namespace Go.Proofs.Ytjmelhmjcbliaaa
open Go Go.RowKit
set_option linter.unusedVariables false
set_option linter.unusedSimpArgs false
set_option maxRecDepth 100000

theorem run_alloc_new {P : Program} (w : World) (T : TypeId) (z : Value) (n : Nat) (hi : (P.info? T).map (fun i => (i.zero, i.size)) = some (some z, n)) :
    (Instr.alloc T true (.tuple #[])).run P w = .ok (.pointer (some ⟨w.heap.size, 0, none⟩)) (w.alloc (.cells z.cells T)) := by
  unfold Instr.alloc
  rw [Sem.run_bind, (zero_of_info hi).1 w]
  rfl

theorem wpList_alloc_agg {P : Program} {ops : Array Oper} {rest : List Oper} {o : Oper} {a : Act} {w : World} {Q : Exit → Act → World → Prop} (hg : o.guard = none) (T : TypeId) (ho : o.op = .alloc T)
    (z : Array Value) (n : Nat) (hi : (P.info? T).map (fun i => (i.zero, i.size)) = some (some (.agg z), n))
    (h : wpList P ops Q rest (a.put o.dst (.pointer (some ⟨w.heap.size, 0, none⟩))) (w.alloc (.cells z T))) : wpList P ops Q (o :: rest) a w :=
  wpList_plain hg fun K hK => by
    unfold Oper.wp execOp
    simp only [ho, Sem.run_bind, run_alloc_new w T (.agg z) n hi, Result.andThen_ok, Sem.run_pure]
    exact hK _ _ h

theorem wpList_store_agg {P : Program} {ops : Array Oper} {rest : List Oper} {o : Oper} {a : Act} {w : World} {Q : Exit → Act → World → Prop} (hg : o.guard = none) (T : TypeId) (x y : Operand) (ho : o.op = .store T x y)
    (z cells : Array Value) (hx : a.eval x = .pointer (some ⟨w.heap.size, 0, none⟩)) (hy : a.eval y = .agg cells) (hi : (P.info? T).map (·.size) = some cells.size) (hz : z.size = cells.size) (h1 : cells.all (·.oneCell') = true)
    (h : wpList P ops Q rest (a.put o.dst undef) (w.alloc (.cells cells T))) : wpList P ops Q (o :: rest) a (w.alloc (.cells z T)) :=
  wpList_plain hg fun K hK => by
    unfold Oper.wp execOp
    simp only [ho, hx, hy, Sem.run_bind, run_storeAt_new w T z cells hi hz h1, Result.andThen_ok, Sem.run_pure]
    exact hK _ _ h

/-- A new variable, filled at once. -/
theorem wpList_alloc_store {P : Program} {ops : Array Oper} {rest : List Oper} {o1 o2 : Oper} {a : Act} {w : World} {Q : Exit → Act → World → Prop} (hg1 : o1.guard = none) (hg2 : o2.guard = none) (T : TypeId) (x y : Operand)
    (ho1 : o1.op = .alloc T) (ho2 : o2.op = .store T x y) (z : Array Value) (n : Nat) (hi : (P.info? T).map (fun i => (i.zero, i.size)) = some (some (.agg z), n)) (hz : z.size = n) (cells : Array Value) (hn : cells.size = n) (h1 : cells.all (·.oneCell') = true)
    (hx : (a.put o1.dst (.pointer (some ⟨w.heap.size, 0, none⟩))).eval x = .pointer (some ⟨w.heap.size, 0, none⟩)) (hy : (a.put o1.dst (.pointer (some ⟨w.heap.size, 0, none⟩))).eval y = .agg cells)
    (h : wpList P ops Q rest ((a.put o1.dst (.pointer (some ⟨w.heap.size, 0, none⟩))).put o2.dst undef) (w.alloc (.cells cells T))) : wpList P ops Q (o1 :: o2 :: rest) a w :=
  wpList_alloc_agg hg1 T ho1 z n hi (wpList_store_agg hg2 T x y ho2 z cells hx hy (by rw [(zero_of_info hi).2, hn]) (by rw [hz, hn]) h1 h)

/-- A struct or array made out of one part, its cells named. -/
theorem wpList_build_one {P : Program} {ops : Array Oper} {rest : List Oper} {o : Oper} {a : Act} {w : World} {Q : Exit → Act → World → Prop} (hg : o.guard = none) (t : TypeId) (k : Nat) (x : Operand) (ho : o.op = .build t #[(k, x)])
    (v : Value) (hv : a.eval x = v) (cells : Array Value) (hb : P.built t [(k, v)] = some cells)
    (h : wpList P ops Q rest (a.put o.dst (.agg cells)) w) : wpList P ops Q (o :: rest) a w := by
  have hL : ((#[(k, x)] : Array (Nat × Operand)).map fun (i, x) => (i, a.eval x)).toList = [(k, v)] := by simp [hv]
  refine wpList_build hg t _ ho (by rw [hL, hb]; rfl) ?_
  rw [hL, hb]
  exact h

theorem u8s_take (xs : List UInt8) (n : Nat) : u8s (xs.take n) = (u8s xs).take n := by simp [u8s]
theorem u8s_drop (xs : List UInt8) (n : Nat) : u8s (xs.drop n) = (u8s xs).drop n := by simp [u8s]
/-- Part of a row of bytes. -/
theorem range_of_row {w : World} {g : Nat} {xs : List UInt8} {t : TypeId} {fr : Nat × Nat} (h : w.heap[g]? = some (.cells (u8s xs).toArray t fr)) (o n : Nat) : w.rangeAt g o (u8s ((xs.drop o).take n)) := fun j v hv => by
  rw [cell_of_row w g (o + j) _ t fr h]
  rw [u8s_take, u8s_drop, List.getElem?_take] at hv
  split at hv
  · rw [List.getElem?_drop] at hv
    simpa using hv
  · cases hv
theorem there_of_row {w : World} {g : Nat} {cs : Array Value} {t : TypeId} (h : w.heap[g]? = some (.cells cs t (0, 0))) {o n : Nat} (hn : o + n ≤ cs.size) : w.there g o n := fun j hj => by
  rw [cell_of_row w g (o + j) _ t _ h]
  exact ⟨by simp; omega, frozen_of_row w g _ _ t h⟩
theorem range_of_list {w : World} {g : Nat} {L : List Value} {t : TypeId} {fr : Nat × Nat} (h : w.heap[g]? = some (.cells L.toArray t fr)) (o n : Nat) : w.rangeAt g o ((L.drop o).take n) := fun j v hv => by
  rw [cell_of_row w g (o + j) _ t fr h]
  rw [List.getElem?_take] at hv
  split at hv
  · rw [List.getElem?_drop] at hv
    simpa using hv
  · cases hv

/-- Many cells stored: the block whole. -/
theorem heap_setCells (g : Nat) (t : TypeId) : ∀ (vs : List Value) (o : Nat) (w : World) (L : List Value), w.heap[g]? = some (.cells L.toArray t (0, 0)) → o + vs.length ≤ L.length →
    (w.setCells g o vs).heap[g]? = some (.cells (L.take o ++ vs ++ L.drop (o + vs.length)).toArray t (0, 0))
  | [], o, w, L, h, _ => by simpa [World.setCells] using h
  | v :: r, o, w, L, h, hl => by
    rw [World.setCells]
    have h1 : (w.setCell ⟨g, o, none⟩ v).heap[g]? = some (.cells (L.set o v).toArray t (0, 0)) := by rw [heap_set h]; simp
    rw [heap_setCells g t r (o + 1) _ (L.set o v) h1 (by simp at hl ⊢; omega)]
    simp at hl
    have e1 : (L.set o v).take (o + 1) = L.take o ++ [v] := by
      rw [List.take_succ_eq_append_getElem (by simp; omega), List.take_set_of_le (Nat.le_refl o)]
      simp
    have e2 : (L.set o v).drop (o + 1 + r.length) = L.drop (o + (v :: r).length) := by
      rw [List.drop_set_of_lt (by omega)]
      congr 1
      simp
      omega
    rw [e1, e2]
    simp
theorem heap_setCells_other (g : Nat) : ∀ (vs : List Value) (o : Nat) (w : World) (k : Nat), k ≠ g → (w.setCells g o vs).heap[k]? = w.heap[k]?
  | [], _, _, _, _ => rfl
  | v :: r, o, w, k, h => by rw [World.setCells, heap_setCells_other g r (o + 1) _ k h, Below.heap_setCell _ _ _ _ h]
theorem size_setCells (g : Nat) : ∀ (vs : List Value) (o : Nat) (w : World), (w.setCells g o vs).heap.size = w.heap.size
  | [], _, _ => rfl
  | v :: r, o, w => by rw [World.setCells, size_setCells g r]; simp [World.setCell]
theorem parts_setCells (g : Nat) : ∀ (vs : List Value) (o : Nat) (w : World), (w.setCells g o vs).os = w.os ∧ (w.setCells g o vs).tape = w.tape ∧ (w.setCells g o vs).output = w.output
  | [], _, _ => ⟨rfl, rfl, rfl⟩
  | v :: r, o, w => by rw [World.setCells]; exact parts_setCells g r (o + 1) _
theorem Only.setCells (w : World) (g o : Nat) (vs : List Value) : Only (fun k => k = g) w (w.setCells g o vs) :=
  ⟨(parts_setCells g vs o w).1, (parts_setCells g vs o w).2.1, (parts_setCells g vs o w).2.2, by rw [size_setCells]; exact Nat.le_refl _, fun k _ hk => heap_setCells_other g vs o w k hk⟩


theorem foldl_set (l : List Value) : ∀ (k : Nat) (A : Array Value), k + l.length ≤ A.size →
    ((l.zipIdx k).foldl (fun cs x => cs.setIfInBounds (0 + x.2) x.1) A).toList = A.toList.take k ++ l ++ A.toList.drop (k + l.length) := by
  induction l with
  | nil => intro k A h; simp
  | cons v l ih =>
    intro k A h
    simp at h
    rw [List.zipIdx_cons, List.foldl_cons, ih (k + 1) _ (by simp; omega)]
    have e1 : (A.setIfInBounds (0 + k) v).toList = A.toList.set k v := by simp
    have hk : k < A.toList.length := by simp; omega
    rw [e1]
    have e2 : (A.toList.set k v).take (k + 1) = A.toList.take k ++ [v] := by
      rw [List.take_succ_eq_append_getElem (by simpa using hk), List.take_set_of_le (Nat.le_refl k)]
      simp
    have e3 : (A.toList.set k v).drop (k + 1 + l.length) = A.toList.drop (k + (v :: l).length) := by
      rw [List.drop_set_of_lt (by omega)]
      congr 1
      simp
      omega
    rw [e2, e3]
    simp

/-- A slice of one struct or array, made out of its cells. -/
theorem run_buildSlice_one {P : Program} (w : World) (t e : TypeId) (z : Value) (n : Nat) (hu : P.underlying t = some (.slice e)) (hi : (P.info? e).map (fun i => (i.zero, i.size)) = some (some z, n)) (hz : z.cells.size = n) (h0 : 0 < n) (hn : n ≤ 16777216)
    (cells : Array Value) (hc : cells.size = n) : (Instr.buildSlice t 1 #[(0, .agg cells)]).run P w = .ok (.slice (some ⟨w.heap.size, 0, none⟩) 1 1) (w.alloc (.cells cells e)) := by
  obtain ⟨hzr, hsz⟩ := zero_of_info hi
  cases hq : P.info? e with
  | none => simp [hq] at hi
  | some i =>
    have hs : i.size = n := by simpa [hq] using hsz
    have hsize : (sizeOf e).run P w = .ok n w := by simp [sizeOf, typeInfo, hq, hs]
    have hz0 := hzr w
    have hfill : Instr.fill (fun i => some (i * n, n)) ((Array.range n).map (z.cells[· % n]!)) [(0, .agg cells)] = some cells := by
      have h1 : ((cells.zipIdx.foldl (fun cs x => cs.setIfInBounds (0 + x.2) x.1) ((Array.range n).map (z.cells[· % n]!)))) = cells := by
        apply Array.toList_inj.1
        rw [← Array.foldl_toList, Array.toList_zipIdx, foldl_set cells.toList 0 _ (by simp [hc])]
        rw [List.drop_of_length_le (by simp [hc])]
        simp
      simp only [Instr.fill, Value.cells, Nat.zero_mul]
      rw [if_neg (by simp [hc])]
      exact congrArg some h1
    have hgt : ¬ (n > 2 ^ 24) := by simp; omega
    have hne : ¬ (n = 0) := by omega
    subst hz
    simp [Instr.buildSlice, run_underlying hu, hsize, hz0, hgt, hne, hfill, newRow]


/-- The same as a step of a region that draws its order. -/
theorem step_buildSlice_one {P : Program} {ops : Array Oper} {o : Oper} {a : Act} {w : World} {K : Act → World → Prop} {Q : Exit → Act → World → Prop} {E : Prop} (hgd : o.guard = none) (t e : TypeId) (z : Value) (n : Nat) (hu : P.underlying t = some (.slice e)) (hi : (P.info? e).map (fun i => (i.zero, i.size)) = some (some z, n)) (hz : z.cells.size = n) (h0 : 0 < n) (hn : n ≤ 16777216)
    (x : Operand) (ho : o.op = .buildSlice t 1 #[(0, x)]) (cells : Array Value) (hx : a.eval x = .agg cells) (hc : cells.size = n)
    (h : K (a.put o.dst (.slice (some ⟨w.heap.size, 0, none⟩) 1 1)) (w.alloc (.cells cells e))) : if Region.wanted o (yielded ops a.tmps) = true then Oper.wp P o a w K Q else E := by
  have hw : Region.wanted o (yielded ops a.tmps) = true := by simp [Region.wanted, hgd]
  rw [if_pos hw]
  have hrun := run_buildSlice_one (P := P) w t e z n hu hi hz h0 hn cells hc
  have hp : ((#[(0, x)] : Array (Nat × Operand)).map fun (i, x) => (i, a.eval x)) = #[(0, .agg cells)] := by simp [hx]
  unfold Oper.wp execOp
  simp only [ho, hp, Sem.run_bind, hrun, Result.andThen_ok, Sem.run_pure]
  exact h

end Go.Proofs.Ytjmelhmjcbliaaa
