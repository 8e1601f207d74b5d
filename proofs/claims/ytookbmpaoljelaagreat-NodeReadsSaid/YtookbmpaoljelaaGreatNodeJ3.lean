/-
  Joined: Wide NodeMem NodeOut Node1 Node7 RowIn.
-/
import Derived.Test.YtookbmpaoljelaaGreatNodeJ2
import Derived.Deep.MidRow
import Derived.Deep.WholeRow
import Derived.Deep.Onto
import Derived.Deep.RegionHeld3
import Derived.StillTailTactics
import Derived.BigQuiet
import Derived.Deep.QuietTactic
import Derived.Deep.CutBlock
import Derived.Deep.DeepCutAuto
import Derived.Laws.StructEq
import Derived.IntWalk

namespace Go.Proofs.YtookbmpaoljelaaGreat
open Go Go.RowKit
set_option linter.unusedVariables false
set_option linter.unusedSimpArgs false
set_option maxRecDepth 100000

theorem run_alloc_new {P : Program} (w : World) (T : TypeId) (z : Value) (n : Nat) (hi : (P.info? T).map (fun i => (i.zero, i.size)) = some (some z, n)) :
    (Instr.alloc T true (.tuple #[])).run P w = .ok (.pointer (some ⟨w.heap.size, 0, none⟩)) (w.alloc (.cells z.cells T)) := by
  unfold Instr.alloc
  rw [Sem.run_bind, (zero_of_info hi).1 w]
  rfl

theorem wpList_alloc_agg {P : Program} {ops : Array Oper} {rest : List Oper} {o : Oper} {a : Act} {w : World} {Q : Exit → Act → World → Prop} (hg : o.guard = none) (T : TypeId) (ho : o.op = .alloc T)
    (z : Array Value) (n : Nat) (hi : (P.info? T).map (fun i => (i.zero, i.size)) = some (some (.agg z), n))
    (h : wpList P ops Q rest (a.put o.dst (.pointer (some ⟨w.heap.size, 0, none⟩))) (w.alloc (.cells z T))) : wpList P ops Q (o :: rest) a w :=
  wpList_plain hg fun K hK => by
    unfold Oper.wp execOp
    simp only [ho, Sem.run_bind, run_alloc_new w T (.agg z) n hi, Result.andThen_ok, Sem.run_pure]
    exact hK _ _ h

theorem wpList_store_agg {P : Program} {ops : Array Oper} {rest : List Oper} {o : Oper} {a : Act} {w : World} {Q : Exit → Act → World → Prop} (hg : o.guard = none) (T : TypeId) (x y : Operand) (ho : o.op = .store T x y)
    (z cells : Array Value) (hx : a.eval x = .pointer (some ⟨w.heap.size, 0, none⟩)) (hy : a.eval y = .agg cells) (hi : (P.info? T).map (·.size) = some cells.size) (hz : z.size = cells.size) (h1 : cells.all (·.oneCell') = true)
    (h : wpList P ops Q rest (a.put o.dst undef) (w.alloc (.cells cells T))) : wpList P ops Q (o :: rest) a (w.alloc (.cells z T)) :=
  wpList_plain hg fun K hK => by
    unfold Oper.wp execOp
    simp only [ho, hx, hy, Sem.run_bind, run_storeAt_new w T z cells hi hz h1, Result.andThen_ok, Sem.run_pure]
    exact hK _ _ h

/-- A new variable, filled at once. -/
theorem wpList_alloc_store {P : Program} {ops : Array Oper} {rest : List Oper} {o1 o2 : Oper} {a : Act} {w : World} {Q : Exit → Act → World → Prop} (hg1 : o1.guard = none) (hg2 : o2.guard = none) (T : TypeId) (x y : Operand)
    (ho1 : o1.op = .alloc T) (ho2 : o2.op = .store T x y) (z : Array Value) (n : Nat) (hi : (P.info? T).map (fun i => (i.zero, i.size)) = some (some (.agg z), n)) (hz : z.size = n) (cells : Array Value) (hn : cells.size = n) (h1 : cells.all (·.oneCell') = true)
    (hx : (a.put o1.dst (.pointer (some ⟨w.heap.size, 0, none⟩))).eval x = .pointer (some ⟨w.heap.size, 0, none⟩)) (hy : (a.put o1.dst (.pointer (some ⟨w.heap.size, 0, none⟩))).eval y = .agg cells)
    (h : wpList P ops Q rest ((a.put o1.dst (.pointer (some ⟨w.heap.size, 0, none⟩))).put o2.dst undef) (w.alloc (.cells cells T))) : wpList P ops Q (o1 :: o2 :: rest) a w :=
  wpList_alloc_agg hg1 T ho1 z n hi (wpList_store_agg hg2 T x y ho2 z cells hx hy (by rw [(zero_of_info hi).2, hn]) (by rw [hz, hn]) h1 h)

/-- A struct or array made out of one part, its cells named. -/
theorem wpList_build_one {P : Program} {ops : Array Oper} {rest : List Oper} {o : Oper} {a : Act} {w : World} {Q : Exit → Act → World → Prop} (hg : o.guard = none) (t : TypeId) (k : Nat) (x : Operand) (ho : o.op = .build t #[(k, x)])
    (v : Value) (hv : a.eval x = v) (cells : Array Value) (hb : P.built t [(k, v)] = some cells)
    (h : wpList P ops Q rest (a.put o.dst (.agg cells)) w) : wpList P ops Q (o :: rest) a w := by
  have hL : ((#[(k, x)] : Array (Nat × Operand)).map fun (i, x) => (i, a.eval x)).toList = [(k, v)] := by simp [hv]
  refine wpList_build hg t _ ho (by rw [hL, hb]; rfl) ?_
  rw [hL, hb]
  exact h

theorem u8s_take (xs : List UInt8) (n : Nat) : u8s (xs.take n) = (u8s xs).take n := by simp [u8s]
theorem u8s_drop (xs : List UInt8) (n : Nat) : u8s (xs.drop n) = (u8s xs).drop n := by simp [u8s]
/-- Part of a row of bytes. -/
theorem range_of_row {w : World} {g : Nat} {xs : List UInt8} {t : TypeId} {fr : Nat × Nat} (h : w.heap[g]? = some (.cells (u8s xs).toArray t fr)) (o n : Nat) : w.rangeAt g o (u8s ((xs.drop o).take n)) := fun j v hv => by
  rw [cell_of_row w g (o + j) _ t fr h]
  rw [u8s_take, u8s_drop, List.getElem?_take] at hv
  split at hv
  · rw [List.getElem?_drop] at hv
    simpa using hv
  · cases hv
theorem there_of_row {w : World} {g : Nat} {cs : Array Value} {t : TypeId} (h : w.heap[g]? = some (.cells cs t (0, 0))) {o n : Nat} (hn : o + n ≤ cs.size) : w.there g o n := fun j hj => by
  rw [cell_of_row w g (o + j) _ t _ h]
  exact ⟨by simp; omega, frozen_of_row w g _ _ t h⟩
theorem range_of_list {w : World} {g : Nat} {L : List Value} {t : TypeId} {fr : Nat × Nat} (h : w.heap[g]? = some (.cells L.toArray t fr)) (o n : Nat) : w.rangeAt g o ((L.drop o).take n) := fun j v hv => by
  rw [cell_of_row w g (o + j) _ t fr h]
  rw [List.getElem?_take] at hv
  split at hv
  · rw [List.getElem?_drop] at hv
    simpa using hv
  · cases hv

/-- Many cells stored: the block whole. -/
theorem heap_setCells (g : Nat) (t : TypeId) : ∀ (vs : List Value) (o : Nat) (w : World) (L : List Value), w.heap[g]? = some (.cells L.toArray t (0, 0)) → o + vs.length ≤ L.length →
    (w.setCells g o vs).heap[g]? = some (.cells (L.take o ++ vs ++ L.drop (o + vs.length)).toArray t (0, 0))
  | [], o, w, L, h, _ => by simpa [World.setCells] using h
  | v :: r, o, w, L, h, hl => by
    rw [World.setCells]
    have h1 : (w.setCell ⟨g, o, none⟩ v).heap[g]? = some (.cells (L.set o v).toArray t (0, 0)) := by rw [heap_set h]; simp
    rw [heap_setCells g t r (o + 1) _ (L.set o v) h1 (by simp at hl ⊢; omega)]
    simp at hl
    have e1 : (L.set o v).take (o + 1) = L.take o ++ [v] := by
      rw [List.take_succ_eq_append_getElem (by simp; omega), List.take_set_of_le (Nat.le_refl o)]
      simp
    have e2 : (L.set o v).drop (o + 1 + r.length) = L.drop (o + (v :: r).length) := by
      rw [List.drop_set_of_lt (by omega)]
      congr 1
      simp
      omega
    rw [e1, e2]
    simp
theorem heap_setCells_other (g : Nat) : ∀ (vs : List Value) (o : Nat) (w : World) (k : Nat), k ≠ g → (w.setCells g o vs).heap[k]? = w.heap[k]?
  | [], _, _, _, _ => rfl
  | v :: r, o, w, k, h => by rw [World.setCells, heap_setCells_other g r (o + 1) _ k h, Below.heap_setCell _ _ _ _ h]
theorem size_setCells (g : Nat) : ∀ (vs : List Value) (o : Nat) (w : World), (w.setCells g o vs).heap.size = w.heap.size
  | [], _, _ => rfl
  | v :: r, o, w => by rw [World.setCells, size_setCells g r]; simp [World.setCell]
theorem parts_setCells (g : Nat) : ∀ (vs : List Value) (o : Nat) (w : World), (w.setCells g o vs).os = w.os ∧ (w.setCells g o vs).tape = w.tape ∧ (w.setCells g o vs).output = w.output
  | [], _, _ => ⟨rfl, rfl, rfl⟩
  | v :: r, o, w => by rw [World.setCells]; exact parts_setCells g r (o + 1) _
theorem Only.setCells (w : World) (g o : Nat) (vs : List Value) : Only (fun k => k = g) w (w.setCells g o vs) :=
  ⟨(parts_setCells g vs o w).1, (parts_setCells g vs o w).2.1, (parts_setCells g vs o w).2.2, by rw [size_setCells]; exact Nat.le_refl _, fun k _ hk => heap_setCells_other g vs o w k hk⟩


theorem foldl_set (l : List Value) : ∀ (k : Nat) (A : Array Value), k + l.length ≤ A.size →
    ((l.zipIdx k).foldl (fun cs x => cs.setIfInBounds (0 + x.2) x.1) A).toList = A.toList.take k ++ l ++ A.toList.drop (k + l.length) := by
  induction l with
  | nil => intro k A h; simp
  | cons v l ih =>
    intro k A h
    simp at h
    rw [List.zipIdx_cons, List.foldl_cons, ih (k + 1) _ (by simp; omega)]
    have e1 : (A.setIfInBounds (0 + k) v).toList = A.toList.set k v := by simp
    have hk : k < A.toList.length := by simp; omega
    rw [e1]
    have e2 : (A.toList.set k v).take (k + 1) = A.toList.take k ++ [v] := by
      rw [List.take_succ_eq_append_getElem (by simpa using hk), List.take_set_of_le (Nat.le_refl k)]
      simp
    have e3 : (A.toList.set k v).drop (k + 1 + l.length) = A.toList.drop (k + (v :: l).length) := by
      rw [List.drop_set_of_lt (by omega)]
      congr 1
      simp
      omega
    rw [e2, e3]
    simp

/-- A slice of one struct or array, made out of its cells. -/
theorem run_buildSlice_one {P : Program} (w : World) (t e : TypeId) (z : Value) (n : Nat) (hu : P.underlying t = some (.slice e)) (hi : (P.info? e).map (fun i => (i.zero, i.size)) = some (some z, n)) (hz : z.cells.size = n) (h0 : 0 < n) (hn : n ≤ 16777216)
    (cells : Array Value) (hc : cells.size = n) : (Instr.buildSlice t 1 #[(0, .agg cells)]).run P w = .ok (.slice (some ⟨w.heap.size, 0, none⟩) 1 1) (w.alloc (.cells cells e)) := by
  obtain ⟨hzr, hsz⟩ := zero_of_info hi
  cases hq : P.info? e with
  | none => simp [hq] at hi
  | some i =>
    have hs : i.size = n := by simpa [hq] using hsz
    have hsize : (sizeOf e).run P w = .ok n w := by simp [sizeOf, typeInfo, hq, hs]
    have hz0 := hzr w
    have hfill : Instr.fill (fun i => some (i * n, n)) ((Array.range n).map (z.cells[· % n]!)) [(0, .agg cells)] = some cells := by
      have h1 : ((cells.zipIdx.foldl (fun cs x => cs.setIfInBounds (0 + x.2) x.1) ((Array.range n).map (z.cells[· % n]!)))) = cells := by
        apply Array.toList_inj.1
        rw [← Array.foldl_toList, Array.toList_zipIdx, foldl_set cells.toList 0 _ (by simp [hc])]
        rw [List.drop_of_length_le (by simp [hc])]
        simp
      simp only [Instr.fill, Value.cells, Nat.zero_mul]
      rw [if_neg (by simp [hc])]
      exact congrArg some h1
    have hgt : ¬ (n > 2 ^ 24) := by simp; omega
    have hne : ¬ (n = 0) := by omega
    subst hz
    simp [Instr.buildSlice, run_underlying hu, hsize, hz0, hgt, hne, hfill, newRow]


/-- The same as a step of a region that draws its order. -/
theorem step_buildSlice_one {P : Program} {ops : Array Oper} {o : Oper} {a : Act} {w : World} {K : Act → World → Prop} {Q : Exit → Act → World → Prop} {E : Prop} (hgd : o.guard = none) (t e : TypeId) (z : Value) (n : Nat) (hu : P.underlying t = some (.slice e)) (hi : (P.info? e).map (fun i => (i.zero, i.size)) = some (some z, n)) (hz : z.cells.size = n) (h0 : 0 < n) (hn : n ≤ 16777216)
    (x : Operand) (ho : o.op = .buildSlice t 1 #[(0, x)]) (cells : Array Value) (hx : a.eval x = .agg cells) (hc : cells.size = n)
    (h : K (a.put o.dst (.slice (some ⟨w.heap.size, 0, none⟩) 1 1)) (w.alloc (.cells cells e))) : if Region.wanted o (yielded ops a.tmps) = true then Oper.wp P o a w K Q else E := by
  have hw : Region.wanted o (yielded ops a.tmps) = true := by simp [Region.wanted, hgd]
  rw [if_pos hw]
  have hrun := run_buildSlice_one (P := P) w t e z n hu hi hz h0 hn cells hc
  have hp : ((#[(0, x)] : Array (Nat × Operand)).map fun (i, x) => (i, a.eval x)) = #[(0, .agg cells)] := by simp [hx]
  unfold Oper.wp execOp
  simp only [ho, hp, Sem.run_bind, hrun, Result.andThen_ok, Sem.run_pure]
  exact h

end Go.Proofs.YtookbmpaoljelaaGreat

namespace Go.Proofs.YtookbmpaoljelaaGreat
open Go Go.RowKit
set_option linter.unusedVariables false
set_option linter.unusedSimpArgs false
set_option maxRecDepth 100000
set_option linter.unusedSimpArgs false
set_option maxRecDepth 100000

abbrev env (e : En) : Value := .agg #[.string e.k, .bool e.h, .string e.v, .int .u64 e.x, .bool e.n, .string e.nv]
abbrev msv (m : Ms) : Value := .agg #[.int .u64 m.sq, .int .i64 m.K, .string m.k, .int .u64 m.x, .string m.v, .int .i64 m.off, .int .u64 m.num]
theorem below_quiet {w w' : World} (h : Below w.heap.size w w') : Only (fun _ => False) w w' := ⟨h.os, h.tape, h.output, h.size, fun k hk _ => h.block k hk⟩
theorem only_b {w w' : World} (h : Only (fun _ => False) w w') : Below w.heap.size w w' := h.below (Nat.le_refl _) (fun _ h => h.elim)
theorem qkeep {w w' : World} (h : Only (fun _ => False) w w') {k : Nat} {o : Obj} (hk : w.heap[k]? = some o) : w'.heap[k]? = some o := h.keep hk (fun h => h)
theorem Own.belows {w0 w : World} {I : Res} (h : Own w0 w I) : Below w0.heap.size w0 w := h.only.below (Nat.le_refl _) (fun _ h => h.elim)

/-! ### Elements of several cells -/
/-- The head of a slice. -/
structure Hd where
  ao : Option Addr
  n : Nat
  c : Nat
instance : Inhabited Hd := ⟨⟨none, 0, 0⟩⟩
class Cel (α : Type) where
  size : Nat
  cells : α → List Value
  len : ∀ a, (cells a).length = size
  one : ∀ a, ∀ u ∈ cells a, u.oneCell' = true
  pos : 0 < size
instance : Cel En := ⟨6, fun e => [.string e.k, .bool e.h, .string e.v, .int .u64 e.x, .bool e.n, .string e.nv], fun _ => rfl, fun a u h => by
  simp only [List.mem_cons, List.not_mem_nil, or_false] at h
  rcases h with rfl | rfl | rfl | rfl | rfl | rfl <;> rfl, by decide⟩
instance : Cel Ms := ⟨7, fun m => [.int .u64 m.sq, .int .i64 m.K, .string m.k, .int .u64 m.x, .string m.v, .int .i64 m.off, .int .u64 m.num], fun _ => rfl, fun a u h => by
  simp only [List.mem_cons, List.not_mem_nil, or_false] at h
  rcases h with rfl | rfl | rfl | rfl | rfl | rfl | rfl <;> rfl, by decide⟩
instance : Cel ByteArray := ⟨1, fun s => [.string s], fun _ => rfl, fun a u h => by
  simp only [List.mem_singleton] at h
  subst h; rfl, by decide⟩
instance : Cel Int := ⟨1, fun k => [.int .u64 k], fun _ => rfl, fun a u h => by
  simp only [List.mem_singleton] at h
  subst h; rfl, by decide⟩
instance : Cel Hd := ⟨1, fun h => [.slice h.ao h.n h.c], fun _ => rfl, fun a u h => by
  simp only [List.mem_singleton] at h
  subst h; rfl, by decide⟩
def cAll {α : Type} [Cel α] : List α → List Value
  | [] => []
  | c :: r => Cel.cells c ++ cAll r
section
variable {α : Type} [Cel α]
theorem cAll_append : ∀ (l k : List α), cAll (l ++ k) = cAll l ++ cAll k
  | [], k => rfl
  | c :: l, k => by rw [List.cons_append, cAll, cAll, cAll_append l k, List.append_assoc]
theorem cAll_length : ∀ l : List α, (cAll l).length = l.length * Cel.size α
  | [] => by simp [cAll]
  | c :: l => by
    rw [cAll, List.length_append, Cel.len, cAll_length l, List.length_cons, Nat.succ_mul, Nat.add_comm]
theorem cAll_one : ∀ (l : List α), ∀ u ∈ cAll l, u.oneCell' = true
  | [], u, h => by cases h
  | c :: l, u, h => by
    rw [cAll, List.mem_append] at h
    rcases h with h | h
    · exact Cel.one c u h
    · exact cAll_one l u h
theorem cel_some (a : α) {i : Nat} (hi : i < Cel.size α) : ((Cel.cells a)[i]?).isSome = true := by
  rw [List.getElem?_eq_getElem (by rw [Cel.len]; exact hi)]
  rfl
/-- What is asked of a type of elements. -/
structure ElT (α : Type) [Cel α] (t e : TypeId) (bytes : Nat) : Prop where
  u : Tryz.prog.underlying t = some (.slice e)
  i : ∃ i0 z, Tryz.prog.info? e = some i0 ∧ i0.zero = some z ∧ i0.size = Cel.size α ∧ i0.bytes = bytes ∧ z.cells.size = Cel.size α
/-- A slice of one's own. -/
abbrev RowG (e : TypeId) (v : Value) (l : List α) : Res := RowV e (Cel.size α) v l.length (cAll l)
/-- What an append of one element to a slice of one's own leaves. -/
theorem own_appendG {t e : TypeId} {bytes : Nat} (hT : ElT α t e bytes) {ops : Array Oper} {rest : List Oper} {o : Oper} {a : Act} {Q : Exit → Act → World → Prop} {w0 wx : World} {v : Value} {xs : List α} {J : Res} [Stab J] (h : Own w0 wx (Sep (RowG e v xs) J)) (m : α) (c : Nat)
    (hlen : (xs.length + 1) * bytes ≤ 140737488351232) (h63 : xs.length + 1 ≤ 140737488351232) (hgd : o.guard = none) (s x : Operand) (ho : o.op = .call { callee := .builtin .append, args := #[s, x], argTypes := #[t, t] })
    (hs : a.eval s = v) (cs : Array Value) (hcs : cs.toList = Cel.cells m) (hx : a.eval x = .slice (some ⟨wx.heap.size, 0, none⟩) 1 c)
    (k : ∀ g cap n w', Hid (n = (xs ++ [m]).length) → Hid (Own w0 w' (Sep (RowG e (.slice (some ⟨g, 0, none⟩) n cap) (xs ++ [m])) J)) → wpList Tryz.prog ops Q rest (a.put o.dst (.slice (some ⟨g, 0, none⟩) n cap)) w') :
    wpList Tryz.prog ops Q (o :: rest) a (wx.alloc (.cells cs e)) := by
  obtain ⟨i0, z, hi, hz0, hz1, hz2, hz3⟩ := hT.i
  have HA := (h.alloc (.cells cs e)).snd
  have hcq : ∀ j u, (Cel.cells m)[j]? = some u → (wx.alloc (.cells cs e)).cell? ((⟨wx.heap.size, 0, none⟩ : Addr).add j) = some u := by
    rw [← hcs]
    exact World.news_of_block (B := wx.heap.size) (heap_alloc_new wx _)
  refine wpList_append_lies (P := Tryz.prog) (wx.alloc (.cells cs e)) hgd s x t ho 0 e i0 z (Cel.size α) bytes hT.u hi hz0 hz1 hz2 hz3 Cel.pos v xs.length (cAll xs) hs
    HA.owns ⟨wx.heap.size, 0, none⟩ 1 c (Cel.cells m) hx (by rw [Cel.len, Nat.one_mul]) hcq (Cel.one m) (Nat.le_refl _) (by unfold maxLen; omega) (by omega) (Nat.zero_le _) (wx.heap.size + 1) (by simp) ?_
  intro g cap w1 hown hgrow hat hlt
  have he : cAll xs ++ Cel.cells m = cAll (xs ++ [m]) := by rw [cAll_append]; simp [cAll]
  have h5 := HA.appended hown hgrow (hat.imp id (fun e => by simp; omega))
  rw [he] at h5
  refine k g cap (xs.length + 1) w1 (Lib.hid (by simp)) (Lib.hid ?_)
  have hn : (xs ++ [m]).length = xs.length + 1 := by simp
  show Own w0 w1 (Sep (RowV e (Cel.size α) _ (xs ++ [m]).length _) J)
  rw [hn]
  exact h5
variable [Inhabited α]
theorem cAll_at : ∀ (l : List α) (j i : Nat), j < l.length → i < Cel.size α → (cAll l)[j * Cel.size α + i]? = (Cel.cells (l.getD j default))[i]?
  | [], j, i, h, _ => by simp at h
  | c :: l, 0, i, _, hi => by
    rw [cAll, Nat.zero_mul, Nat.zero_add, List.getElem?_append_left (by rw [Cel.len]; exact hi)]
    rfl
  | c :: l, j + 1, i, h, hi => by
    have ih := cAll_at l j i (by simpa using h) hi
    rw [cAll, List.getElem?_append_right (by rw [Cel.len, Nat.succ_mul]; omega), List.getD_cons_succ, ← ih]
    congr 1
    rw [Cel.len, Nat.succ_mul]
    omega

/-- A slice of elements. -/
def SlG (w : World) (ao : Option Addr) (l : List α) : Prop := ∀ j, j < l.length → ∃ g off, ao = some ⟨g, off, none⟩ ∧ ∀ i, i < Cel.size α → w.cell? ⟨g, off + j * Cel.size α + i, none⟩ = (Cel.cells (l.getD j default))[i]?
theorem SlG.nil (w : World) (ao : Option Addr) : SlG w ao ([] : List α) := fun j hj => by simp at hj
theorem cellq_eq {w w' : World} (ho : Only (fun _ => False) w w') {p : Addr} {v : Option Value} (h : w.cell? p = v) (hv : v.isSome = true) : w'.cell? p = v := by
  cases v with
  | none => cases hv
  | some u => exact ho.cellq h
theorem SlG.keep {w w' : World} {ao : Option Addr} {l : List α} (h : SlG w ao l) (ho : Only (fun _ => False) w w') : SlG w' ao l := fun j hj => by
  obtain ⟨g, off, e, h⟩ := h j hj
  exact ⟨g, off, e, fun i hi => cellq_eq ho (h i hi) (cel_some _ hi)⟩
theorem slg_of {w : World} {g : Nat} {cs : List α} (h : ∀ j u, (cAll cs)[j]? = some u → w.cell? ⟨g, j, none⟩ = some u) : SlG w (some ⟨g, 0, none⟩) cs := fun j hj => by
  refine ⟨g, 0, rfl, fun i hi => ?_⟩
  have e := cAll_at cs j i hj hi
  have hs := cel_some (cs.getD j default) hi
  rw [Option.isSome_iff_exists] at hs
  obtain ⟨u, hu⟩ := hs
  rw [hu] at e ⊢
  rw [Nat.zero_add]
  exact h _ _ e
theorem slg_cells {w : World} {ao : Option Addr} {cs : List α} (h : SlG w ao cs) : ∀ ad, ao = some ad → ∀ j u, (cAll cs)[j]? = some u → w.cell? (ad.add j) = some u := by
  rintro ad rfl j u hj
  have hl := (List.getElem?_eq_some_iff.1 hj).1
  rw [cAll_length] at hl
  have hp := Cel.pos (α := α)
  have hq : j / Cel.size α < cs.length := (Nat.div_lt_iff_lt_mul hp).2 hl
  obtain ⟨g, off, e, hv⟩ := h (j / Cel.size α) hq
  simp only [Option.some.injEq] at e
  subst e
  rw [add_lit]
  have hm := Nat.mod_lt j hp
  have he := Nat.div_add_mod j (Cel.size α)
  have h1 := hv (j % Cel.size α) hm
  rw [← cAll_at cs _ _ hq hm, Nat.add_assoc, Nat.mul_comm, he, hj] at h1
  exact h1
theorem rowg_slg {w : World} {e : TypeId} {v : Value} {l : List α} (h : w.ownsRow 0 e (Cel.size α) v l.length (cAll l)) : ∃ ao cap, v = .slice ao l.length cap ∧ SlG w ao l ∧ (ao = none → l.length = 0 ∧ cap = 0) ∧ l.length ≤ cap := by
  rcases h.2 with ⟨rfl, h0⟩ | ⟨g, cap, cur, rfl, hb, hg, hc, _⟩
  · exact ⟨none, 0, by rw [h0], fun j hj => by omega, fun _ => ⟨h0, rfl⟩, by omega⟩
  · refine ⟨some ⟨g, 0, none⟩, cap, rfl, slg_of (fun j u hj => ?_), (fun e => by cases e), hc⟩
    have hl := (List.getElem?_eq_some_iff.1 hj).1
    have := h.cellAt j (by rw [cAll_length] at hl; exact hl)
    rw [this]
    exact hj
end
theorem SlG.en {w : World} {ao : Option Addr} {l : List En} (h : SlG w ao l) {j : Nat} (hj : j < l.length) : ∃ g off, ao = some ⟨g, off, none⟩ ∧ w.cell? ⟨g, off + j * 6, none⟩ = some (.string (l.getD j default).k) ∧ w.cell? ⟨g, off + j * 6 + 1, none⟩ = some (.bool (l.getD j default).h) ∧
    w.cell? ⟨g, off + j * 6 + 2, none⟩ = some (.string (l.getD j default).v) ∧ w.cell? ⟨g, off + j * 6 + 3, none⟩ = some (.int .u64 (l.getD j default).x) ∧ w.cell? ⟨g, off + j * 6 + 4, none⟩ = some (.bool (l.getD j default).n) ∧ w.cell? ⟨g, off + j * 6 + 5, none⟩ = some (.string (l.getD j default).nv) := by
  obtain ⟨g, off, e, h⟩ := h j hj
  exact ⟨g, off, e, h 0 (by decide), h 1 (by decide), h 2 (by decide), h 3 (by decide), h 4 (by decide), h 5 (by decide)⟩
theorem SlG.ms {w : World} {ao : Option Addr} {l : List Ms} (h : SlG w ao l) {j : Nat} (hj : j < l.length) : ∃ g off, ao = some ⟨g, off, none⟩ ∧ w.cell? ⟨g, off + j * 7, none⟩ = some (.int .u64 (l.getD j default).sq) ∧ w.cell? ⟨g, off + j * 7 + 1, none⟩ = some (.int .i64 (l.getD j default).K) ∧
    w.cell? ⟨g, off + j * 7 + 2, none⟩ = some (.string (l.getD j default).k) ∧ w.cell? ⟨g, off + j * 7 + 3, none⟩ = some (.int .u64 (l.getD j default).x) ∧ w.cell? ⟨g, off + j * 7 + 4, none⟩ = some (.string (l.getD j default).v) ∧ w.cell? ⟨g, off + j * 7 + 5, none⟩ = some (.int .i64 (l.getD j default).off) ∧
    w.cell? ⟨g, off + j * 7 + 6, none⟩ = some (.int .u64 (l.getD j default).num) := by
  obtain ⟨g, off, e, h⟩ := h j hj
  exact ⟨g, off, e, h 0 (by decide), h 1 (by decide), h 2 (by decide), h 3 (by decide), h 4 (by decide), h 5 (by decide), h 6 (by decide)⟩
theorem SlG.st {w : World} {ao : Option Addr} {l : List ByteArray} (h : SlG w ao l) {j : Nat} (hj : j < l.length) : ∃ g off, ao = some ⟨g, off, none⟩ ∧ w.cell? ⟨g, off + j, none⟩ = some (.string (l.getD j default)) := by
  obtain ⟨g, off, e, h⟩ := h j hj
  have h0 := h 0 (by decide)
  rw [show off + j * Cel.size ByteArray + 0 = off + j from by show off + j * 1 + 0 = _; omega] at h0
  exact ⟨g, off, e, h0⟩
theorem SlG.nu {w : World} {ao : Option Addr} {l : List Int} (h : SlG w ao l) {j : Nat} (hj : j < l.length) : ∃ g off, ao = some ⟨g, off, none⟩ ∧ w.cell? ⟨g, off + j, none⟩ = some (.int .u64 (l.getD j default)) := by
  obtain ⟨g, off, e, h⟩ := h j hj
  have h0 := h 0 (by decide)
  rw [show off + j * Cel.size Int + 0 = off + j from by show off + j * 1 + 0 = _; omega] at h0
  exact ⟨g, off, e, h0⟩
theorem SlG.hd {w : World} {ao : Option Addr} {l : List Hd} (h : SlG w ao l) {j : Nat} (hj : j < l.length) : ∃ g off, ao = some ⟨g, off, none⟩ ∧ w.cell? ⟨g, off + j, none⟩ = some (.slice (l.getD j default).ao (l.getD j default).n (l.getD j default).c) := by
  obtain ⟨g, off, e, h⟩ := h j hj
  have h0 := h 0 (by decide)
  rw [show off + j * Cel.size Hd + 0 = off + j from by show off + j * 1 + 0 = _; omega] at h0
  exact ⟨g, off, e, h0⟩

/-! ### Parts of memory that stay as they are -/
def Fix (P : World → Prop) : Res := fun w F => (∀ k, F k → k < w.heap.size) ∧ ∀ w', (∀ k, F k → w'.heap[k]? = w.heap[k]?) → P w'
theorem lt_same {w w' : World} {k : Nat} (h : k < w.heap.size) (e : w'.heap[k]? = w.heap[k]?) : k < w'.heap.size := by
  rw [Array.getElem?_eq_getElem h] at e
  exact lt_of_some e
instance {P : World → Prop} : Stab (Fix P) where
  lt := fun h k hk => h.1 k hk
  keep := fun h hk => ⟨fun k h1 => lt_same (h.1 k h1) (hk k h1), fun w' h2 => h.2 w' (fun k h1 => (h2 k h1).trans (hk k h1))⟩
theorem Own.fixed {w0 w : World} {P : World → Prop} {J : Res} (h : Own w0 w (Sep (Fix P) J)) : P w := by
  obtain ⟨F, ⟨A, B, hA, _⟩, _⟩ := h
  exact hA.2 w (fun _ _ => rfl)
theorem Own.fix2 {w0 w : World} {P Q : World → Prop} {J : Res} (h : Own w0 w (Sep (Fix P) (Sep (Fix Q) J))) : Own w0 w (Sep (Fix fun w => P w ∧ Q w) J) := by
  refine h.assoc'.imp fun F hF => hF.imp (fun C hC => ?_) (fun _ h => h)
  obtain ⟨A, B, hA, hB, hd, hC⟩ := hC
  exact ⟨fun k hk => ((hC k).1 hk).elim (hA.1 k) (hB.1 k), fun w' h2 => ⟨hA.2 w' (fun k hk => h2 k ((hC k).2 (.inl hk))), hB.2 w' (fun k hk => h2 k ((hC k).2 (.inr hk)))⟩⟩
theorem Own.fixI {w0 w : World} {P Q : World → Prop} {J : Res} (h : Own w0 w (Sep (Fix P) J)) (hPQ : ∀ w, P w → Q w) : Own w0 w (Sep (Fix Q) J) :=
  h.imp fun F hF => hF.imp (fun A hA => ⟨hA.1, fun w' h2 => hPQ _ (hA.2 w' h2)⟩) (fun _ h => h)
theorem Own.fix0 {w0 w : World} {P : World → Prop} {J : Res} (h : Own w0 w J) (hP : ∀ w, P w) : Own w0 w (Sep (Fix P) J) := by
  obtain ⟨F, h1, h2, h3⟩ := h
  exact ⟨F, ⟨fun _ => False, F, ⟨fun _ h => h.elim, fun w' _ => hP w'⟩, h1, fun _ h => h.elim, fun k => by simp⟩, h2, h3⟩
/-- A slice of one's own that is written to no more. -/
theorem Own.rowFix {α : Type} [Cel α] [Inhabited α] {w0 w : World} {e : TypeId} {v : Value} {l : List α} {J : Res} (h : Own w0 w (Sep (RowG e v l) J)) : ∃ ao cap, v = .slice ao l.length cap ∧ (ao = none → l.length = 0 ∧ cap = 0) ∧ l.length ≤ cap ∧ Own w0 w (Sep (Fix fun w => SlG w ao l) J) := by
  obtain ⟨ao, cap, rfl, hs, h0, hc⟩ := rowg_slg h.owns
  refine ⟨ao, cap, rfl, h0, hc, h.imp fun F hF => hF.imp (fun A hA => ?_) (fun _ h => h)⟩
  refine ⟨fun k hk => Stab.lt hA k hk, fun w' h2 => ?_⟩
  obtain ⟨ao', cap', e, hs', _⟩ := rowg_slg (own_keepAt hA.1 (fun k e => h2 k ((hA.2 k).2 e)))
  simp only [Value.slice.injEq] at e
  rw [e.1]
  exact hs'

/-! ### Nodes -/
/-- A slice of lists of messages. -/
def SlL (w : World) (bo : Option Addr) (bs : List (List Ms)) : Prop := ∀ j, j < bs.length → ∃ g off ao c, bo = some ⟨g, off, none⟩ ∧ w.cell? ⟨g, off + j, none⟩ = some (.slice ao (bs.getD j default).length c) ∧ SlG w ao (bs.getD j default) ∧ (bs.getD j default).length ≤ 1954687338212
theorem SlL.keep {w w' : World} {bo : Option Addr} {bs : List (List Ms)} (h : SlL w bo bs) (ho : Only (fun _ => False) w w') : SlL w' bo bs := fun j hj => by
  obtain ⟨g, off, ao, c, e, h1, h2, h3⟩ := h j hj
  exact ⟨g, off, ao, c, e, ho.cellq h1, h2.keep ho, h3⟩
/-- The heads of a node's four slices. -/
structure Nh where
  eo : Option Addr
  ec : Nat
  po : Option Addr
  pc : Nat
  ko : Option Addr
  kc : Nat
  bo : Option Addr
  bc : Nat
structure NdAt (w : World) (h : Nh) (n : Nd) : Prop where
  e : SlG w h.eo n.es
  p : SlG w h.po n.ps
  k : SlG w h.ko n.ks
  b : SlL w h.bo n.bs
  le : n.es.length ≤ 140737488351232
  lp : n.ps.length ≤ 140737488351232
  lk : n.ks.length ≤ 140737488351232
  lb : n.bs.length ≤ 140737488351232
theorem NdAt.keep {w w' : World} {h : Nh} {n : Nd} (H : NdAt w h n) (ho : Only (fun _ => False) w w') : NdAt w' h n :=
  ⟨H.e.keep ho, H.p.keep ho, H.k.keep ho, H.b.keep ho, H.le, H.lp, H.lk, H.lb⟩
abbrev ndc (h : Nh) (n : Nd) : Array Value := #[.bool n.leaf, .slice h.eo n.es.length h.ec, .slice h.po n.ps.length h.pc, .slice h.ko n.ks.length h.kc, .slice h.bo n.bs.length h.bc]
abbrev ndv (h : Nh) (n : Nd) : Value := .agg (ndc h n)

end Go.Proofs.YtookbmpaoljelaaGreat

namespace Go.Proofs.YtookbmpaoljelaaGreat
open Go Go.RowKit
set_option linter.unusedVariables false
set_option linter.unusedSimpArgs false
set_option maxRecDepth 100000
set_option linter.unusedSimpArgs false
set_option maxRecDepth 100000

/-- An Out of one's own. -/
def OutR (p : Nat) (xs : List UInt8) : Res := fun w F => ∃ v, OutV w p v xs ∧ ∀ k, F k ↔ OutS p v k
instance {p : Nat} {xs : List UInt8} : Stab (OutR p xs) where
  lt := by
    rintro w F ⟨v, h, hF⟩ k hk
    rcases (hF k).1 hk with rfl | hk
    · exact lt_of_some h.at'
    · exact own_lt h.own hk
  keep := by
    rintro w w' F ⟨v, h, hF⟩ hk
    exact ⟨v, ⟨(hk p ((hF p).2 (.inl rfl))).trans h.at', own_keepAt h.own (fun k e => hk k ((hF k).2 (.inr e)))⟩, hF⟩
theorem own_outcall {w0 w : World} {p : Nat} {xs ys : List UInt8} {J : Res} [Stab J] {f : FuncId} {args : Array Value} {val : Value} (h : Own w0 w (Sep (OutR p xs) J))
    (hc : ∀ v, OutV w p v xs → Calls Tryz.prog f args w fun e w' => e = .returned val ∧ ∃ v', OutV w' p v' ys ∧ (v'.ownBlock = v.ownBlock ∨ ∃ g, v'.ownBlock = some g ∧ w.heap.size ≤ g) ∧ Only (OutS p v) w w') :
    Calls Tryz.prog f args w fun e w' => e = .returned val ∧ Own w0 w' (Sep (OutR p ys) J) := by
  refine (Own.call (val := fun _ : Unit => val) (Q := fun _ => OutR p ys) h ?_).mono ?_
  · rintro F B ⟨v, hV, hF⟩ hJ hd h0
    refine (hc v hV).mono ?_
    rintro e w' ⟨rfl, v', hV', hb, ho⟩
    refine ⟨(), OutS p v', rfl, ⟨v', hV', fun k => Iff.rfl⟩, fun k hk => ?_, ho.mono fun k _ e => (hF k).2 e⟩
    rcases hk with rfl | hk
    · exact .inl ((hF _).2 (.inl rfl))
    · rcases hb with e | ⟨g, e, hg⟩
      · exact .inl ((hF k).2 (.inr (by rw [← e]; exact hk)))
      · rw [hk] at e
        simp only [Option.some.injEq] at e
        subst e
        exact .inr hg
  · rintro e w' ⟨_, rfl, hq⟩
    exact ⟨rfl, hq⟩
section
variable {w0 w : World} {p : Nat} {xs : List UInt8} {J : Res} [Stab J]
theorem own_outU64 (h : Own w0 w (Sep (OutR p xs) J)) (x : Nat) (hx : x < 18446744073709551616) (hl : xs.length + 8 ≤ 140737488355328) :
    Calls Tryz.prog 58 #[.pointer (some ⟨p, 0, none⟩), .int .u64 x] w fun e w' => e = .returned (.tuple #[]) ∧ Own w0 w' (Sep (OutR p (xs ++ beB 8 x)) J) :=
  own_outcall h fun v hV => outU64 p x v xs w hV hx hl
theorem own_outU16 (h : Own w0 w (Sep (OutR p xs) J)) (x : Nat) (hx : x < 65536) (hl : xs.length + 2 ≤ 140737488355328) :
    Calls Tryz.prog 82 #[.pointer (some ⟨p, 0, none⟩), .int .u16 x] w fun e w' => e = .returned (.tuple #[]) ∧ Own w0 w' (Sep (OutR p (xs ++ beB 2 x)) J) :=
  own_outcall h fun v hV => outU16 p x v xs w hV hx hl
theorem own_outU8 (h : Own w0 w (Sep (OutR p xs) J)) (x : Nat) (hx : x < 256) (hl : xs.length + 1 ≤ 140737488355328) :
    Calls Tryz.prog 81 #[.pointer (some ⟨p, 0, none⟩), .int .u8 x] w fun e w' => e = .returned (.tuple #[]) ∧ Own w0 w' (Sep (OutR p (xs ++ beB 1 x)) J) :=
  own_outcall h fun v hV => outU8 p x v xs w hV hx hl
theorem own_outFlag (h : Own w0 w (Sep (OutR p xs) J)) (b : Bool) (hl : xs.length + 1 ≤ 140737488355328) :
    Calls Tryz.prog 53 #[.pointer (some ⟨p, 0, none⟩), .bool b] w fun e w' => e = .returned (.tuple #[]) ∧ Own w0 w' (Sep (OutR p (xs ++ flagB b)) J) :=
  own_outcall h fun v hV => outFlag p b v xs w hV hl
theorem own_outText (h : Own w0 w (Sep (OutR p xs) J)) (s : ByteArray) (hs : s.size ≤ 65535) (hl : xs.length + 2 + s.size ≤ 140737488355328) :
    Calls Tryz.prog 83 #[.pointer (some ⟨p, 0, none⟩), .string s] w fun e w' => e = .returned (.bool true) ∧ Own w0 w' (Sep (OutR p (xs ++ txtB s.toList)) J) :=
  own_outcall h fun v hV => by rw [ByteArray.toList_eq]; exact outText p s v xs w hV hs hl
theorem own_outBytes (h : Own w0 w (Sep (OutR p xs) J)) (hl : xs.length ≤ 140737488355328) :
    Calls Tryz.prog 29 #[.pointer (some ⟨p, 0, none⟩)] w fun e w' => ∃ v, e = .returned v ∧ Own w0 w' (Sep (RowV 5 1 v xs.length (u8s xs)) (Sep (OutR p xs) J)) := by
  refine (Own.call (val := fun v : Value => v) (Q := fun v => Sep (RowV 5 1 v xs.length (u8s xs)) (OutR p xs)) h ?_).mono ?_
  · rintro F B ⟨v, hV, hF⟩ hJ hd h0
    refine (outBytes p v xs w hV hl).mono ?_
    rintro e w' ⟨r, rfl, hr, ho⟩
    have hO : OutR p xs w F := ⟨v, hV, hF⟩
    refine ⟨r, fun k => r.ownBlock = some k ∨ F k, rfl, ⟨fun k => r.ownBlock = some k, F, ⟨hr.mono (Nat.zero_le _), fun k => Iff.rfl⟩, Stab.keep hO (fun k hk => ho.block k (Stab.lt hO k hk) (fun h => h)), fun k h1 h2 => ?_, fun k => Iff.rfl⟩, fun k hk => ?_, ho.mono fun k _ h => h.elim⟩
    · have := Stab.lt hO k h2
      rcases hr.2 with ⟨rfl, _⟩ | ⟨g, cap, cur, rfl, hb, _⟩
      · simp [Value.ownBlock] at h1
      · simp [Value.ownBlock] at h1
        omega
    · rcases hk with hk | hk
      · rcases hr.2 with ⟨rfl, _⟩ | ⟨g, cap, cur, rfl, hb, _⟩
        · simp [Value.ownBlock] at hk
        · simp [Value.ownBlock] at hk
          exact .inr (by omega)
      · exact .inl hk
  · rintro e w' ⟨v, rfl, hq⟩
    exact ⟨v, rfl, hq.assoc⟩
theorem own_outnew {w0 w : World} {I : Res} [Stab I] (h : Own w0 w I) : Own w0 (w.alloc (.cells #[.slice none 0 0] 63)) (Sep (OutR w.heap.size []) I) := by
  refine h.fresh ((Only.refl _ w).alloc _) (B := fun k => k = w.heap.size) ⟨.slice none 0 0, ⟨heap_alloc_new w _, World.ownsRow_nil _ _ _ _⟩, fun k => ?_⟩ (fun k e => by omega)
  simp [OutS, Value.ownBlock]
end

end Go.Proofs.YtookbmpaoljelaaGreat

namespace Go.Proofs.YtookbmpaoljelaaGreat
open Go Go.RowKit
set_option linter.unusedVariables false
set_option linter.unusedSimpArgs false
set_option maxRecDepth 100000
set_option linter.unusedSimpArgs false
set_option maxRecDepth 100000

theorem gone_any (e : En) (w : World) : Calls Tryz.prog 89 #[env e] w fun r w' => r = .returned (.bool (goneE e)) ∧ Only (fun _ => False) w w' := by
  have HB := Lib.hid (fun o => (Only.refl (fun _ => False) w).alloc o)
  obtain ⟨k, h, v, x, n, nv⟩ := e
  cases h <;> by_cases hx : x = 0
  all_goals
    have hb : (x == 0) = decide (x = 0) := by rw [Bool.eq_iff_iff]; simp
    simp only [hx, decide_true, decide_false] at hb
    try subst hx
    go_enter Tryz.func89, Tryz.ntmps89
    go_wp2
    go_ret
    exact ⟨by simp [goneE, *], HB.out _⟩

theorem keyfits_any (s : ByteArray) (w : World) : Calls Tryz.prog 71 #[.string s] w fun r w' => r = .returned (.bool (decide (s.size ≤ 256))) ∧ w = w' := by
  by_cases h : s.size ≤ 256
  · have hI : (s.size : Int) ≤ 256 := by omega
    go_enter Tryz.func71, Tryz.ntmps71
    go_wp2
    go_ret
    exact ⟨by simp [h], rfl⟩
  · have hI : ¬ (s.size : Int) ≤ 256 := by omega
    go_enter Tryz.func71, Tryz.ntmps71
    go_wp2
    go_ret
    exact ⟨by simp [h], rfl⟩

theorem nan_any (s : ByteArray) (w : World) : Calls Tryz.prog 91 #[.string s] w fun r w' => r = .returned (.bool false) ∧ w = w' := by
  go_enter Tryz.func91, Tryz.ntmps91
  go_wp2
  go_ret
  exact ⟨by simp, rfl⟩
theorem less_any (a b : ByteArray) (w : World) : Calls Tryz.prog 69 #[.string a, .string b] w fun r w' => r = .returned (.bool (blt a b)) ∧ w = w' := by
  obtain ⟨c, hc⟩ : ∃ c, Op.bytesLess a.toList b.toList = c := ⟨_, rfl⟩
  unfold blt
  rw [hc]
  go_enter Tryz.func69, Tryz.ntmps69
  go_wp2_with (go_at_call 91; refine (nan_any _ _).mono ?_; rintro e w' ⟨rfl, rfl⟩)
  go_ret
  exact ⟨by simp [hc], rfl⟩
theorem elt_any (a b : En) (w : World) : Calls Tryz.prog 63 #[env a, env b] w fun r w' => r = .returned (.bool (entryLt a b)) ∧ Only (fun _ => False) w w' := by
  obtain ⟨c, hc⟩ : ∃ c, Op.bytesLess a.k.toList b.k.toList = c := ⟨_, rfl⟩
  have HB := Lib.hid (fun o p => ((Only.refl (fun _ => False) w).alloc o).alloc p)
  unfold entryLt blt
  rw [hc]
  obtain ⟨k, h, v, x, n, nv⟩ := a
  obtain ⟨k2, h2, v2, x2, n2, nv2⟩ := b
  go_enter Tryz.func63, Tryz.ntmps63
  go_wp2
  go_ret
  exact ⟨by simp [hc], HB.out _ _⟩
theorem mlt_any (a b : Ms) (w : World) : Calls Tryz.prog 94 #[msv a, msv b] w fun r w' => r = .returned (.bool (msgLt a b)) ∧ Only (fun _ => False) w w' := by
  have HB := Lib.hid (fun o p => ((Only.refl (fun _ => False) w).alloc o).alloc p)
  obtain ⟨s, K, k, x, v, o, n⟩ := a
  obtain ⟨s2, K2, k2, x2, v2, o2, n2⟩ := b
  go_enter Tryz.func94, Tryz.ntmps94
  go_wp2
  go_ret
  exact ⟨rfl, HB.out _ _⟩

theorem ba_emp (v : ByteArray) : v.toList.isEmpty = decide (v.size = 0) := by
  rw [Bool.eq_iff_iff, List.isEmpty_iff, decide_eq_true_eq]
  have : v.toList.length = v.size := by rw [ByteArray.toList_eq]; rfl
  rw [← this, List.length_eq_zero_iff]
theorem ba_nil0 {v : ByteArray} (h : v.size = 0) : v.toList = [] := by
  have := ba_emp v
  rw [h] at this
  simpa using this
theorem ba_cons0 {v : ByteArray} (h : ¬ v.size = 0) : v.toList.isEmpty = false := by
  rw [ba_emp]
  simpa using h
theorem bare_any (m : Ms) (w : World) : Calls Tryz.prog 106 #[msv m] w fun r w' => r = .returned (.bool (decide (m.off = 0) && decide (m.num = 0) && decide (m.v.size = 0))) ∧ Only (fun _ => False) w w' := by
  have HB := Lib.hid (fun o => (Only.refl (fun _ => False) w).alloc o)
  obtain ⟨s, K, k, x, v, o, n⟩ := m
  go_enter Tryz.func106, Tryz.ntmps106
  go_wp2
  all_goals
    go_ret
    exact ⟨by simp [*, ba_emp], HB.out _⟩
set_option maxHeartbeats 1000000 in
theorem efits_any (e : En) (w : World) : Calls Tryz.prog 66 #[env e] w fun r w' => r = .returned (.bool (entryB e)) ∧ Only (fun _ => False) w w' := by
  have HG := Lib.hid (fun W => gone_any e W)
  obtain ⟨g, hg⟩ : ∃ g, goneE e = g := ⟨_, rfl⟩
  have HGE := Lib.hid hg
  rw [hg] at HG
  have HB := Lib.hid (fun o => (Only.refl (fun _ => False) w).alloc o)
  clear hg
  obtain ⟨k, h, v, x, n, nv⟩ := e
  by_cases hk : k.size ≤ 256
  rotate_left
  · have hkI : (256 : Int) < (k.size : Int) := by omega
    go_enter Tryz.func66, Tryz.ntmps66
    go_wp2
    go_ret
    exact ⟨by simp [entryB, *], HB.out _⟩
  have hkI : ¬ (256 : Int) < (k.size : Int) := by omega
  by_cases hv : v.size ≤ 512
  rotate_left
  · have hvI : (512 : Int) < (v.size : Int) := by omega
    go_enter Tryz.func66, Tryz.ntmps66
    go_wp2
    go_ret
    exact ⟨by simp [entryB, *], HB.out _⟩
  have hvI : ¬ (512 : Int) < (v.size : Int) := by omega
  by_cases hn : nv.size ≤ 512
  rotate_left
  · have hnI : (512 : Int) < (nv.size : Int) := by omega
    go_enter Tryz.func66, Tryz.ntmps66
    go_wp2
    go_ret
    exact ⟨by simp [entryB, *], HB.out _⟩
  have hnI : ¬ (512 : Int) < (nv.size : Int) := by omega
  have hA : (h = true ∨ h = false ∧ v.size = 0) ∨ (h = false ∧ ¬ v.size = 0) := by cases h <;> by_cases v.size = 0 <;> simp [*]
  rcases hA with hA | ⟨rfl, h0⟩
  rotate_left
  · have h1 := ba_cons0 h0
    have h2 : ¬ v.toList = [] := by intro e; rw [e] at h1; cases h1
    go_enter Tryz.func66, Tryz.ntmps66
    go_wp2
    go_ret
    exact ⟨by simp [entryB, *], HB.out _⟩
  have hX : (¬ x = 0 ∨ x = 0 ∧ n = false) ∨ (x = 0 ∧ n = true) := by cases n <;> by_cases x = 0 <;> simp [*]
  rcases hX with hX | ⟨rfl, rfl⟩
  rotate_left
  · rcases hA with rfl | ⟨rfl, h0⟩
    · go_enter Tryz.func66, Tryz.ntmps66
      go_wp2
      go_ret
      exact ⟨by simp [entryB, *], HB.out _⟩
    · have h1 := ba_nil0 h0
      have h2 : v.toList.isEmpty = true := by rw [h1]; rfl
      go_enter Tryz.func66, Tryz.ntmps66
      go_wp2
      go_ret
      exact ⟨by simp [entryB, *], HB.out _⟩
  have hN : (n = true ∨ n = false ∧ nv.size = 0) ∨ (n = false ∧ ¬ nv.size = 0) := by cases n <;> by_cases nv.size = 0 <;> simp [*]
  have hA' : h = true ∨ h = false ∧ v.size = 0 ∧ v.toList = [] ∧ v.toList.isEmpty = true := hA.imp id (fun ⟨a, b⟩ => ⟨a, b, ba_nil0 b, by rw [ba_nil0 b]; rfl⟩)
  have hX' : (x == 0) = false ∧ ¬ x = 0 ∨ x = 0 ∧ n = false := hX.imp (fun a => ⟨by simpa using a, a⟩) id
  clear hA hX
  rcases hN with hN | ⟨rfl, h0⟩
  rotate_left
  · have h1 := ba_cons0 h0
    have h2 : ¬ nv.toList = [] := by intro e; rw [e] at h1; cases h1
    rcases hA' with rfl | ⟨rfl, q1, q2, q3⟩ <;> rcases hX' with ⟨q4, q5⟩ | ⟨rfl, _⟩
    all_goals
      go_enter Tryz.func66, Tryz.ntmps66
      go_wp2
      go_ret
      exact ⟨by simp [entryB, *], HB.out _⟩
  have hN' : n = true ∨ n = false ∧ nv.size = 0 ∧ nv.toList = [] ∧ nv.toList.isEmpty = true := hN.imp id (fun ⟨a, b⟩ => ⟨a, b, ba_nil0 b, by rw [ba_nil0 b]; rfl⟩)
  clear hN
  rcases hA' with rfl | ⟨rfl, q1, q2, q3⟩ <;> rcases hN' with rfl | ⟨rfl, q6, q7, q8⟩ <;> rcases hX' with ⟨q4, q5⟩ | ⟨rfl, hf⟩
  all_goals (try (exact absurd hf (by decide)))
  all_goals
    go_enter Tryz.func66, Tryz.ntmps66
    go_wp2_with fail
    refine (HG.out _).mono ?_
    rintro e w' ⟨rfl, hw⟩
    have HW := Lib.hid ((HB.out _).trans hw (fun _ _ h => h))
    clear hw HG
    go_wp2_with fail
    go_ret
    exact ⟨by simp [entryB, HGE.out, *], HW.out⟩

def fieldB (m : Ms) : Bool := if m.K = 1 then decide (m.off = 0 ∧ m.num = 0) else if m.K = 2 then decide (m.off = 0 ∧ m.num = 0 ∧ m.v.size = 0) else if m.K = 3 then decide (0 ≤ m.off ∧ m.off ≤ 504 ∧ m.v.size = 0) else
    if m.K = 4 then decide (0 ≤ m.off ∧ m.off ≤ 254 ∧ m.num = 0 ∧ m.k.size = 0 ∧ m.x = 0) else decide (m.off = 0 ∧ m.num = 0 ∧ m.v.size = 0 ∧ m.x ≠ 0)
theorem checkE_eq (m : Ms) : checkE m = if m.K < 1 ∨ 6 < m.K then 1 else if 256 < m.k.size ∨ 512 < m.v.size then 7 else if fieldB m = true then 0 else 1 := rfl
set_option maxHeartbeats 1000000 in
theorem field_any (m : Ms) (w : World) (h1 : 1 ≤ m.K) (h6 : m.K ≤ 6) : Calls Tryz.prog 104 #[msv m] w fun r w' => r = .returned (.bool (fieldB m)) ∧ Only (fun _ => False) w w' := by
  have HB := Lib.hid (fun o => (Only.refl (fun _ => False) w).alloc o)
  have HR := Lib.hid (fun W => bare_any m W)
  obtain ⟨b, hb⟩ : ∃ b, (decide (m.off = 0) && decide (m.num = 0) && decide (m.v.size = 0)) = b := ⟨_, rfl⟩
  rw [hb] at HR
  have HBE := Lib.hid hb
  clear hb
  obtain ⟨s, K, k, x, v, o, n⟩ := m
  have hK : K = 1 ∨ K = 2 ∨ K = 3 ∨ K = 4 ∨ K = 5 ∨ K = 6 := by simp only at h1 h6; omega
  clear h1 h6
  rcases hK with rfl | rfl | rfl | rfl | rfl | rfl
  · go_enter Tryz.func104, Tryz.ntmps104
    go_wp2
    all_goals
      go_ret
      exact ⟨by (first | (simp [fieldB, *, ba_emp, -ByteArray.size_eq_zero_iff]; done) | (simp [fieldB, ba_emp, -ByteArray.size_eq_zero_iff]; done) | (simp [fieldB, ba_emp, -ByteArray.size_eq_zero_iff]; omega) | (simp [fieldB, ba_emp, -ByteArray.size_eq_zero_iff]; rw [Bool.eq_iff_iff]; simp [-ByteArray.size_eq_zero_iff] <;> omega)), HB.out _⟩
  · go_enter Tryz.func104, Tryz.ntmps104
    go_wp2_with fail
    refine (HR.out _).mono ?_
    rintro e w' ⟨rfl, hw⟩
    have HW := Lib.hid ((HB.out _).trans hw (fun _ _ h => h))
    clear hw HR
    go_wp2_with fail
    go_ret
    exact ⟨by rw [← HBE.out]; simp [fieldB, Bool.and_assoc, -ByteArray.size_eq_zero_iff], HW.out⟩
  · by_cases h0 : 0 ≤ o
    · by_cases h5 : o ≤ 504
      · go_enter Tryz.func104, Tryz.ntmps104
        go_wp2
        all_goals
          go_ret
          exact ⟨by (first | (simp [fieldB, *, ba_emp, -ByteArray.size_eq_zero_iff]; done) | (simp [fieldB, ba_emp, -ByteArray.size_eq_zero_iff]; done) | (simp [fieldB, ba_emp, -ByteArray.size_eq_zero_iff]; omega) | (simp [fieldB, ba_emp, -ByteArray.size_eq_zero_iff]; rw [Bool.eq_iff_iff]; simp [-ByteArray.size_eq_zero_iff] <;> omega)), HB.out _⟩
      · go_enter Tryz.func104, Tryz.ntmps104
        go_wp2
        all_goals
          go_ret
          exact ⟨by (first | (simp [fieldB, *, ba_emp, -ByteArray.size_eq_zero_iff]; done) | (simp [fieldB, ba_emp, -ByteArray.size_eq_zero_iff]; done) | (simp [fieldB, ba_emp, -ByteArray.size_eq_zero_iff]; omega) | (simp [fieldB, ba_emp, -ByteArray.size_eq_zero_iff]; rw [Bool.eq_iff_iff]; simp [-ByteArray.size_eq_zero_iff] <;> omega)), HB.out _⟩
    · go_enter Tryz.func104, Tryz.ntmps104
      go_wp2
      all_goals
        go_ret
        exact ⟨by (first | (simp [fieldB, *, ba_emp, -ByteArray.size_eq_zero_iff]; done) | (simp [fieldB, ba_emp, -ByteArray.size_eq_zero_iff]; done) | (simp [fieldB, ba_emp, -ByteArray.size_eq_zero_iff]; omega) | (simp [fieldB, ba_emp, -ByteArray.size_eq_zero_iff]; rw [Bool.eq_iff_iff]; simp [-ByteArray.size_eq_zero_iff] <;> omega)), HB.out _⟩
  · by_cases h0 : 0 ≤ o ∧ o ≤ 254 ∧ n = 0
    · obtain ⟨h0, h5, rfl⟩ := h0
      by_cases hk : k.size = 0
      · have h7 := ba_nil0 hk
        have h8 : k.toList.isEmpty = true := by rw [h7]; rfl
        go_enter Tryz.func104, Tryz.ntmps104
        go_wp2
        all_goals
          go_ret
          exact ⟨by (first | (simp [fieldB, *, ba_emp, -ByteArray.size_eq_zero_iff]; done) | (simp [fieldB, ba_emp, -ByteArray.size_eq_zero_iff]; done) | (simp [fieldB, ba_emp, -ByteArray.size_eq_zero_iff]; omega) | (simp [fieldB, ba_emp, -ByteArray.size_eq_zero_iff]; rw [Bool.eq_iff_iff]; simp [-ByteArray.size_eq_zero_iff] <;> omega)), HB.out _⟩
      · have h7 := ba_cons0 hk
        have h8 : ¬ k.toList = [] := by intro e; rw [e] at h7; cases h7
        go_enter Tryz.func104, Tryz.ntmps104
        go_wp2
        all_goals
          go_ret
          exact ⟨by (first | (simp [fieldB, *, ba_emp, -ByteArray.size_eq_zero_iff]; done) | (simp [fieldB, ba_emp, -ByteArray.size_eq_zero_iff]; done) | (simp [fieldB, ba_emp, -ByteArray.size_eq_zero_iff]; omega) | (simp [fieldB, ba_emp, -ByteArray.size_eq_zero_iff]; rw [Bool.eq_iff_iff]; simp [-ByteArray.size_eq_zero_iff] <;> omega)), HB.out _⟩
    · by_cases h1 : 0 ≤ o
      · by_cases h2 : o ≤ 254
        · have h3 : ¬ n = 0 := fun e => h0 ⟨h1, h2, e⟩
          have h4 : (n == 0) = false := by simpa using h3
          go_enter Tryz.func104, Tryz.ntmps104
          go_wp2
          all_goals
            go_ret
            exact ⟨by (first | (simp [fieldB, *, ba_emp, -ByteArray.size_eq_zero_iff]; done) | (simp [fieldB, ba_emp, -ByteArray.size_eq_zero_iff]; done) | (simp [fieldB, ba_emp, -ByteArray.size_eq_zero_iff]; omega) | (simp [fieldB, ba_emp, -ByteArray.size_eq_zero_iff]; rw [Bool.eq_iff_iff]; simp [-ByteArray.size_eq_zero_iff] <;> omega)), HB.out _⟩
        · go_enter Tryz.func104, Tryz.ntmps104
          go_wp2
          all_goals
            go_ret
            exact ⟨by (first | (simp [fieldB, *, ba_emp, -ByteArray.size_eq_zero_iff]; done) | (simp [fieldB, ba_emp, -ByteArray.size_eq_zero_iff]; done) | (simp [fieldB, ba_emp, -ByteArray.size_eq_zero_iff]; omega) | (simp [fieldB, ba_emp, -ByteArray.size_eq_zero_iff]; rw [Bool.eq_iff_iff]; simp [-ByteArray.size_eq_zero_iff] <;> omega)), HB.out _⟩
      · go_enter Tryz.func104, Tryz.ntmps104
        go_wp2
        all_goals
          go_ret
          exact ⟨by (first | (simp [fieldB, *, ba_emp, -ByteArray.size_eq_zero_iff]; done) | (simp [fieldB, ba_emp, -ByteArray.size_eq_zero_iff]; done) | (simp [fieldB, ba_emp, -ByteArray.size_eq_zero_iff]; omega) | (simp [fieldB, ba_emp, -ByteArray.size_eq_zero_iff]; rw [Bool.eq_iff_iff]; simp [-ByteArray.size_eq_zero_iff] <;> omega)), HB.out _⟩
  all_goals
    cases b
    all_goals
      go_enter Tryz.func104, Tryz.ntmps104
      go_wp2_with fail
      refine (HR.out _).mono ?_
      rintro e w' ⟨rfl, hw⟩
      have hc := hw.cellq (p := ⟨w.heap.size, 3, none⟩) (v := .int .u64 x) (by go_simp)
      have HW := Lib.hid ((HB.out _).trans hw (fun _ _ h => h))
      clear hw HR
      go_wp2_with fail
      go_ret
      exact ⟨by have := HBE.out; simp only [Bool.and_eq_true, Bool.and_eq_false_imp, decide_eq_true_eq, decide_eq_false_iff_not] at this; (first | (simp [fieldB, *, ba_emp, -ByteArray.size_eq_zero_iff]; done) | (simp [fieldB, ba_emp, -ByteArray.size_eq_zero_iff]; done) | (simp [fieldB, ba_emp, -ByteArray.size_eq_zero_iff]; omega) | (simp [fieldB, ba_emp, -ByteArray.size_eq_zero_iff]; rw [Bool.eq_iff_iff]; simp [-ByteArray.size_eq_zero_iff] <;> omega)), HW.out⟩
set_option maxHeartbeats 1000000 in
theorem check_any (m : Ms) (w : World) : Calls Tryz.prog 98 #[msv m] w fun r w' => r = .returned (.int .i64 (checkE m)) ∧ Only (fun _ => False) w w' := by
  have HB := Lib.hid (fun o => (Only.refl (fun _ => False) w).alloc o)
  have HR := Lib.hid (fun W => field_any m W)
  obtain ⟨b, hb⟩ : ∃ b, fieldB m = b := ⟨_, rfl⟩
  rw [hb] at HR
  rw [checkE_eq, hb]
  clear hb
  obtain ⟨s, K, k, x, v, o, n⟩ := m
  by_cases h1 : K < 1
  · go_enter Tryz.func98, Tryz.ntmps98
    go_wp2
    go_ret
    exact ⟨by simp [*], HB.out _⟩
  by_cases h6 : 6 < K
  · go_enter Tryz.func98, Tryz.ntmps98
    go_wp2
    go_ret
    exact ⟨by simp [*], HB.out _⟩
  by_cases hk : 256 < k.size
  · have hkI : (256 : Int) < (k.size : Int) := by omega
    go_enter Tryz.func98, Tryz.ntmps98
    go_wp2
    go_ret
    exact ⟨by simp [*], HB.out _⟩
  by_cases hv : 512 < v.size
  · have hkI : ¬ (256 : Int) < (k.size : Int) := by omega
    have hvI : (512 : Int) < (v.size : Int) := by omega
    go_enter Tryz.func98, Tryz.ntmps98
    go_wp2
    go_ret
    exact ⟨by simp [*], HB.out _⟩
  have hkI : ¬ (256 : Int) < (k.size : Int) := by omega
  have hvI : ¬ (512 : Int) < (v.size : Int) := by omega
  cases b
  all_goals
    go_enter Tryz.func98, Tryz.ntmps98
    go_wp2_with fail
    refine (HR.out _ (by show 1 ≤ K; omega) (by show K ≤ 6; omega)).mono ?_
    rintro e w' ⟨rfl, hw⟩
    have HW := Lib.hid ((HB.out _).trans hw (fun _ _ h => h))
    clear hw HR
    go_wp2_with fail
    go_ret
    exact ⟨by simp [*], HW.out⟩

end Go.Proofs.YtookbmpaoljelaaGreat

namespace Go.Proofs.YtookbmpaoljelaaGreat
open Go Go.RowKit
set_option linter.unusedVariables false
set_option linter.unusedSimpArgs false
set_option maxRecDepth 100000
set_option linter.unusedSimpArgs false
set_option maxRecDepth 100000

/-- An entry, a message that may be laid. -/
structure EnF (e : En) : Prop where
  k : e.k.size ≤ 512
  v : e.v.size ≤ 512
  n : e.nv.size ≤ 512
  x : NumW e.x
structure MsF (m : Ms) : Prop where
  k : m.k.size ≤ 512
  v : m.v.size ≤ 512
  w : MsW m
  K0 : 0 ≤ m.K
  K1 : m.K < 256
  o0 : 0 ≤ m.off
  o1 : m.off < 65536
theorem txtB_len (s : ByteArray) : (txtB s.toList).length = 2 + s.size := by
  have : s.toList.length = s.size := by rw [ByteArray.toList_eq]; rfl
  simp [txtB, beB_length, this]
theorem flagB_len (b : Bool) : (flagB b).length = 1 := by cases b <;> rfl
theorem encE_len {e : En} (h : EnF e) : (encE e).length ≤ 1600 := by
  have h1 := h.k
  have h2 := h.v
  have h3 := h.n
  simp only [encE, List.length_append, txtB_len, flagB_len, beB_length]
  omega
theorem encM_len {m : Ms} (h : MsF m) : (encM m).length ≤ 1600 := by
  have h1 := h.k
  have h2 := h.v
  simp only [encM, List.length_append, txtB_len, flagB_len, beB_length]
  omega
theorem flat_len {α : Type} {f : α → List UInt8} {b : Nat} : ∀ (l : List α), (∀ a ∈ l, (f a).length ≤ b) → (l.flatMap f).length ≤ l.length * b
  | [], _ => by simp
  | a :: l, h => by
    have h1 := h a (by simp)
    have h2 := flat_len l (fun x hx => h x (by simp [hx]))
    rw [List.flatMap_cons, List.length_append, List.length_cons, Nat.succ_mul]
    omega
theorem flat_step {α : Type} [Inhabited α] {f : α → List UInt8} {l : List α} {k : Nat} (h : k < l.length) : (l.take (k + 1)).flatMap f = (l.take k).flatMap f ++ f (l.getD k default) := by
  rw [List.take_succ_eq_append_getElem h, List.flatMap_append]
  simp [h]
theorem take_flat_len {α : Type} {f : α → List UInt8} {b k : Nat} {l : List α} (h : ∀ a ∈ l, (f a).length ≤ b) : ((l.take k).flatMap f).length ≤ l.length * b := by
  refine Nat.le_trans (flat_len _ (fun a ha => h a (List.mem_of_mem_take ha))) (Nat.mul_le_mul_right _ ?_)
  rw [List.length_take]
  omega
theorem getD_mem {α : Type} [Inhabited α] {l : List α} {k : Nat} (h : k < l.length) : l.getD k default ∈ l := by
  rw [show l.getD k default = l[k] by simp [h]]
  exact List.getElem_mem h
abbrev putv (p : Nat) : Value := .agg #[.pointer (some ⟨p, 0, none⟩)]
abbrev PutB (a p : Nat) : Res := Blk a (.cells #[.pointer (some ⟨p, 0, none⟩)] 65 (0, 0))

theorem pcount_any {w0 w : World} {p : Nat} {xs : List UInt8} {J : Res} [Stab J] (h : Own w0 w (Sep (OutR p xs) J)) (n : Nat) (hn : n < 65536) (hl : xs.length ≤ 1000000000) :
    Calls Tryz.prog 54 #[putv p, .int .i64 n] w fun e w' => e = .returned (.tuple #[]) ∧ Own w0 w' (Sep (OutR p (xs ++ beB 2 n)) J) := by
  have H := Lib.hid ((h.alloc (.cells #[.pointer (some ⟨p, 0, none⟩)] 65)).swap)
  have ha := blk_cell H.out.snd.held 0 rfl
  have hw : IntKind.u16.wrap (n : Int) = (n : Int) := by rw [IntKind.wrap_u16]; omega
  clear h
  go_enter Tryz.func54, Tryz.ntmps54
  go_wp2_with fail
  try rw [hw]
  refine (own_outU16 H.out n hn (by omega)).mono ?_
  rintro e w1 ⟨rfl, h1⟩
  have H1 := Lib.hid h1.drop2
  clear h1 H ha
  go_wp2_with fail
  exact bodyPost_end (results_none rfl _ _ _) rfl ⟨rfl, H1.out⟩
theorem pkey_any {w0 w : World} {p : Nat} {xs : List UInt8} {J : Res} [Stab J] (h : Own w0 w (Sep (OutR p xs) J)) (s : ByteArray) (hs : s.size ≤ 512) (hl : xs.length ≤ 1000000000) :
    Calls Tryz.prog 60 #[putv p, .string s] w fun e w' => e = .returned (.tuple #[]) ∧ Own w0 w' (Sep (OutR p (xs ++ encP s)) J) := by
  have H := Lib.hid ((h.alloc (.cells #[.pointer (some ⟨p, 0, none⟩)] 65)).swap)
  have ha := blk_cell H.out.snd.held 0 rfl
  clear h
  go_enter Tryz.func60, Tryz.ntmps60
  go_wp2_with fail
  refine (own_outText H.out s (by omega) (by omega)).mono ?_
  rintro e w1 ⟨rfl, h1⟩
  have H1 := Lib.hid h1.drop2
  clear h1 H ha
  go_wp2_with fail
  exact bodyPost_end (results_none rfl _ _ _) rfl ⟨rfl, H1.out⟩

set_option maxHeartbeats 4000000 in
theorem pentry_any {w0 w : World} {p : Nat} {xs : List UInt8} {J : Res} [Stab J] (h : Own w0 w (Sep (OutR p xs) J)) (k v nv : ByteArray) (h0 n : Bool) (x : Nat) (hk : k.size ≤ 512) (hv : v.size ≤ 512) (hnv : nv.size ≤ 512) (hx : x < 18446744073709551616) (hl : xs.length ≤ 900000000) :
    Calls Tryz.prog 56 #[putv p, env ⟨k, h0, v, (x : Int), n, nv⟩] w fun r w' => r = .returned (.tuple #[]) ∧ Own w0 w' (Sep (OutR p (xs ++ encE ⟨k, h0, v, (x : Int), n, nv⟩)) J) := by
  skip
  have H := Lib.hid ((((h.alloc (.cells #[.pointer (some ⟨p, 0, none⟩)] 65)).alloc (.cells #[.string k, .bool h0, .string v, .int .u64 (x : Int), .bool n, .string nv] 41)).ac (by ac_rfl) : Own w0 ((w.alloc (.cells #[.pointer (some ⟨p, 0, none⟩)] 65)).alloc (.cells #[.string k, .bool h0, .string v, .int .u64 (x : Int), .bool n, .string nv] 41)) (Sep (OutR p xs) (Sep (Blk w.heap.size (.cells #[.pointer (some ⟨p, 0, none⟩)] 65 (0, 0))) (Sep (Blk (w.alloc (.cells #[.pointer (some ⟨p, 0, none⟩)] 65)).heap.size (.cells #[.string k, .bool h0, .string v, .int .u64 (x : Int), .bool n, .string nv] 41 (0, 0))) J)))))
  rw [World.size_alloc] at H
  obtain ⟨E, hE⟩ : ∃ E, encE ⟨k, h0, v, (x : Int), n, nv⟩ = E := ⟨_, rfl⟩
  rw [hE]
  have HE := Lib.hid hE
  clear hE h
  have ha := blk_cell H.out.snd.held 0 rfl
  have y0 := blk_cell H.out.snd.snd.held 0 rfl
  have y1 := blk_cell H.out.snd.snd.held 1 rfl
  have y2 := blk_cell H.out.snd.snd.held 2 rfl
  have y3 := blk_cell H.out.snd.snd.held 3 rfl
  have y4 := blk_cell H.out.snd.snd.held 4 rfl
  have y5 := blk_cell H.out.snd.snd.held 5 rfl
  go_enter Tryz.func56, Tryz.ntmps56
  go_wp2_with fail
  refine (own_outText H.out k (by omega) (by omega)).mono ?_
  rintro r w1 ⟨rfl, h1⟩
  obtain ⟨ys1, hys⟩ : ∃ ys, xs ++ txtB k.toList = ys := ⟨_, rfl⟩
  have hl1 : ys1.length ≤ 900000600 := by rw [← hys, List.length_append, txtB_len]; omega
  rw [hys] at h1
  have HY1 := Lib.hid hys
  have H1 := Lib.hid h1
  clear h1 H hys ha y0 y1 y2 y3 y4 y5
  have ha := blk_cell H1.out.snd.held 0 rfl
  have y0 := blk_cell H1.out.snd.snd.held 0 rfl
  have y1 := blk_cell H1.out.snd.snd.held 1 rfl
  have y2 := blk_cell H1.out.snd.snd.held 2 rfl
  have y3 := blk_cell H1.out.snd.snd.held 3 rfl
  have y4 := blk_cell H1.out.snd.snd.held 4 rfl
  have y5 := blk_cell H1.out.snd.snd.held 5 rfl
  go_wp2_with fail
  refine (own_outFlag H1.out h0 (by omega)).mono ?_
  rintro r w2 ⟨rfl, h1⟩
  obtain ⟨ys2, hys⟩ : ∃ ys, ys1 ++ flagB h0 = ys := ⟨_, rfl⟩
  have hl2 : ys2.length ≤ 900001200 := by rw [← hys, List.length_append, flagB_len]; omega
  rw [hys] at h1
  have HY2 := Lib.hid hys
  have H2 := Lib.hid h1
  clear h1 H1 hys ha y0 y1 y2 y3 y4 y5
  have ha := blk_cell H2.out.snd.held 0 rfl
  have y0 := blk_cell H2.out.snd.snd.held 0 rfl
  have y1 := blk_cell H2.out.snd.snd.held 1 rfl
  have y2 := blk_cell H2.out.snd.snd.held 2 rfl
  have y3 := blk_cell H2.out.snd.snd.held 3 rfl
  have y4 := blk_cell H2.out.snd.snd.held 4 rfl
  have y5 := blk_cell H2.out.snd.snd.held 5 rfl
  go_wp2_with fail
  refine (own_outText H2.out v (by omega) (by omega)).mono ?_
  rintro r w3 ⟨rfl, h1⟩
  obtain ⟨ys3, hys⟩ : ∃ ys, ys2 ++ txtB v.toList = ys := ⟨_, rfl⟩
  have hl3 : ys3.length ≤ 900001800 := by rw [← hys, List.length_append, txtB_len]; omega
  rw [hys] at h1
  have HY3 := Lib.hid hys
  have H3 := Lib.hid h1
  clear h1 H2 hys ha y0 y1 y2 y3 y4 y5
  have ha := blk_cell H3.out.snd.held 0 rfl
  have y0 := blk_cell H3.out.snd.snd.held 0 rfl
  have y1 := blk_cell H3.out.snd.snd.held 1 rfl
  have y2 := blk_cell H3.out.snd.snd.held 2 rfl
  have y3 := blk_cell H3.out.snd.snd.held 3 rfl
  have y4 := blk_cell H3.out.snd.snd.held 4 rfl
  have y5 := blk_cell H3.out.snd.snd.held 5 rfl
  go_wp2_with fail
  refine (own_outU64 H3.out x hx (by omega)).mono ?_
  rintro r w4 ⟨rfl, h1⟩
  obtain ⟨ys4, hys⟩ : ∃ ys, ys3 ++ beB 8 x = ys := ⟨_, rfl⟩
  have hl4 : ys4.length ≤ 900002400 := by rw [← hys, List.length_append, beB_length]; omega
  rw [hys] at h1
  have HY4 := Lib.hid hys
  have H4 := Lib.hid h1
  clear h1 H3 hys ha y0 y1 y2 y3 y4 y5
  have ha := blk_cell H4.out.snd.held 0 rfl
  have y0 := blk_cell H4.out.snd.snd.held 0 rfl
  have y1 := blk_cell H4.out.snd.snd.held 1 rfl
  have y2 := blk_cell H4.out.snd.snd.held 2 rfl
  have y3 := blk_cell H4.out.snd.snd.held 3 rfl
  have y4 := blk_cell H4.out.snd.snd.held 4 rfl
  have y5 := blk_cell H4.out.snd.snd.held 5 rfl
  go_wp2_with fail
  refine (own_outFlag H4.out n (by omega)).mono ?_
  rintro r w5 ⟨rfl, h1⟩
  obtain ⟨ys5, hys⟩ : ∃ ys, ys4 ++ flagB n = ys := ⟨_, rfl⟩
  have hl5 : ys5.length ≤ 900003000 := by rw [← hys, List.length_append, flagB_len]; omega
  rw [hys] at h1
  have HY5 := Lib.hid hys
  have H5 := Lib.hid h1
  clear h1 H4 hys ha y0 y1 y2 y3 y4 y5
  have ha := blk_cell H5.out.snd.held 0 rfl
  have y0 := blk_cell H5.out.snd.snd.held 0 rfl
  have y1 := blk_cell H5.out.snd.snd.held 1 rfl
  have y2 := blk_cell H5.out.snd.snd.held 2 rfl
  have y3 := blk_cell H5.out.snd.snd.held 3 rfl
  have y4 := blk_cell H5.out.snd.snd.held 4 rfl
  have y5 := blk_cell H5.out.snd.snd.held 5 rfl
  go_wp2_with fail
  refine (own_outText H5.out nv (by omega) (by omega)).mono ?_
  rintro r w6 ⟨rfl, h1⟩
  obtain ⟨ys6, hys⟩ : ∃ ys, ys5 ++ txtB nv.toList = ys := ⟨_, rfl⟩
  have hl6 : ys6.length ≤ 900003600 := by rw [← hys, List.length_append, txtB_len]; omega
  rw [hys] at h1
  have HY6 := Lib.hid hys
  have H6 := Lib.hid h1
  clear h1 H5 hys ha y0 y1 y2 y3 y4 y5
  go_wp2_with fail
  have HF : xs ++ E = ys6 := by rw [← HE.out, ← HY6.out, ← HY5.out, ← HY4.out, ← HY3.out, ← HY2.out, ← HY1.out]; simp [encE]
  rw [HF]
  exact bodyPost_end (results_none rfl _ _ _) rfl ⟨rfl, H6.out.drop2.drop2⟩

set_option maxHeartbeats 4000000 in
theorem pmsg_any {w0 w : World} {p : Nat} {xs : List UInt8} {J : Res} [Stab J] (h : Own w0 w (Sep (OutR p xs) J)) (s K x o n : Nat) (k v : ByteArray) (hs : s < 18446744073709551616) (hK : K < 256) (hk : k.size ≤ 512) (hx : x < 18446744073709551616) (hv : v.size ≤ 512) (ho : o < 65536) (hn : n < 18446744073709551616) (hl : xs.length ≤ 900000000) :
    Calls Tryz.prog 86 #[putv p, msv ⟨(s : Int), (K : Int), k, (x : Int), v, (o : Int), (n : Int)⟩] w fun r w' => r = .returned (.tuple #[]) ∧ Own w0 w' (Sep (OutR p (xs ++ encM ⟨(s : Int), (K : Int), k, (x : Int), v, (o : Int), (n : Int)⟩)) J) := by
  have hwK : IntKind.u8.wrap (K : Int) = (K : Int) := by rw [IntKind.wrap_u8']; omega
  have hwO : IntKind.u16.wrap (o : Int) = (o : Int) := by rw [IntKind.wrap_u16]; omega
  have H := Lib.hid ((((h.alloc (.cells #[.pointer (some ⟨p, 0, none⟩)] 65)).alloc (.cells #[.int .u64 (s : Int), .int .i64 (K : Int), .string k, .int .u64 (x : Int), .string v, .int .i64 (o : Int), .int .u64 (n : Int)] 80)).ac (by ac_rfl) : Own w0 ((w.alloc (.cells #[.pointer (some ⟨p, 0, none⟩)] 65)).alloc (.cells #[.int .u64 (s : Int), .int .i64 (K : Int), .string k, .int .u64 (x : Int), .string v, .int .i64 (o : Int), .int .u64 (n : Int)] 80)) (Sep (OutR p xs) (Sep (Blk w.heap.size (.cells #[.pointer (some ⟨p, 0, none⟩)] 65 (0, 0))) (Sep (Blk (w.alloc (.cells #[.pointer (some ⟨p, 0, none⟩)] 65)).heap.size (.cells #[.int .u64 (s : Int), .int .i64 (K : Int), .string k, .int .u64 (x : Int), .string v, .int .i64 (o : Int), .int .u64 (n : Int)] 80 (0, 0))) J)))))
  rw [World.size_alloc] at H
  obtain ⟨E, hE⟩ : ∃ E, encM ⟨(s : Int), (K : Int), k, (x : Int), v, (o : Int), (n : Int)⟩ = E := ⟨_, rfl⟩
  rw [hE]
  have HE := Lib.hid hE
  clear hE h
  have ha := blk_cell H.out.snd.held 0 rfl
  have y0 := blk_cell H.out.snd.snd.held 0 rfl
  have y1 := blk_cell H.out.snd.snd.held 1 rfl
  have y2 := blk_cell H.out.snd.snd.held 2 rfl
  have y3 := blk_cell H.out.snd.snd.held 3 rfl
  have y4 := blk_cell H.out.snd.snd.held 4 rfl
  have y5 := blk_cell H.out.snd.snd.held 5 rfl
  have y6 := blk_cell H.out.snd.snd.held 6 rfl
  go_enter Tryz.func86, Tryz.ntmps86
  go_wp2_with fail
  refine (own_outU64 H.out s hs (by omega)).mono ?_
  rintro r w1 ⟨rfl, h1⟩
  obtain ⟨ys1, hys⟩ : ∃ ys, xs ++ beB 8 s = ys := ⟨_, rfl⟩
  have hl1 : ys1.length ≤ 900000600 := by rw [← hys, List.length_append, beB_length]; omega
  rw [hys] at h1
  have HY1 := Lib.hid hys
  have H1 := Lib.hid h1
  clear h1 H hys ha y0 y1 y2 y3 y4 y5 y6
  have ha := blk_cell H1.out.snd.held 0 rfl
  have y0 := blk_cell H1.out.snd.snd.held 0 rfl
  have y1 := blk_cell H1.out.snd.snd.held 1 rfl
  have y2 := blk_cell H1.out.snd.snd.held 2 rfl
  have y3 := blk_cell H1.out.snd.snd.held 3 rfl
  have y4 := blk_cell H1.out.snd.snd.held 4 rfl
  have y5 := blk_cell H1.out.snd.snd.held 5 rfl
  have y6 := blk_cell H1.out.snd.snd.held 6 rfl
  go_wp2_with fail
  try simp only [hwK, hwO]
  refine (own_outU8 H1.out K hK (by omega)).mono ?_
  rintro r w2 ⟨rfl, h1⟩
  obtain ⟨ys2, hys⟩ : ∃ ys, ys1 ++ beB 1 K = ys := ⟨_, rfl⟩
  have hl2 : ys2.length ≤ 900001200 := by rw [← hys, List.length_append, beB_length]; omega
  rw [hys] at h1
  have HY2 := Lib.hid hys
  have H2 := Lib.hid h1
  clear h1 H1 hys ha y0 y1 y2 y3 y4 y5 y6
  have ha := blk_cell H2.out.snd.held 0 rfl
  have y0 := blk_cell H2.out.snd.snd.held 0 rfl
  have y1 := blk_cell H2.out.snd.snd.held 1 rfl
  have y2 := blk_cell H2.out.snd.snd.held 2 rfl
  have y3 := blk_cell H2.out.snd.snd.held 3 rfl
  have y4 := blk_cell H2.out.snd.snd.held 4 rfl
  have y5 := blk_cell H2.out.snd.snd.held 5 rfl
  have y6 := blk_cell H2.out.snd.snd.held 6 rfl
  go_wp2_with fail
  refine (own_outText H2.out k (by omega) (by omega)).mono ?_
  rintro r w3 ⟨rfl, h1⟩
  obtain ⟨ys3, hys⟩ : ∃ ys, ys2 ++ txtB k.toList = ys := ⟨_, rfl⟩
  have hl3 : ys3.length ≤ 900001800 := by rw [← hys, List.length_append, txtB_len]; omega
  rw [hys] at h1
  have HY3 := Lib.hid hys
  have H3 := Lib.hid h1
  clear h1 H2 hys ha y0 y1 y2 y3 y4 y5 y6
  have ha := blk_cell H3.out.snd.held 0 rfl
  have y0 := blk_cell H3.out.snd.snd.held 0 rfl
  have y1 := blk_cell H3.out.snd.snd.held 1 rfl
  have y2 := blk_cell H3.out.snd.snd.held 2 rfl
  have y3 := blk_cell H3.out.snd.snd.held 3 rfl
  have y4 := blk_cell H3.out.snd.snd.held 4 rfl
  have y5 := blk_cell H3.out.snd.snd.held 5 rfl
  have y6 := blk_cell H3.out.snd.snd.held 6 rfl
  go_wp2_with fail
  refine (own_outU64 H3.out x hx (by omega)).mono ?_
  rintro r w4 ⟨rfl, h1⟩
  obtain ⟨ys4, hys⟩ : ∃ ys, ys3 ++ beB 8 x = ys := ⟨_, rfl⟩
  have hl4 : ys4.length ≤ 900002400 := by rw [← hys, List.length_append, beB_length]; omega
  rw [hys] at h1
  have HY4 := Lib.hid hys
  have H4 := Lib.hid h1
  clear h1 H3 hys ha y0 y1 y2 y3 y4 y5 y6
  have ha := blk_cell H4.out.snd.held 0 rfl
  have y0 := blk_cell H4.out.snd.snd.held 0 rfl
  have y1 := blk_cell H4.out.snd.snd.held 1 rfl
  have y2 := blk_cell H4.out.snd.snd.held 2 rfl
  have y3 := blk_cell H4.out.snd.snd.held 3 rfl
  have y4 := blk_cell H4.out.snd.snd.held 4 rfl
  have y5 := blk_cell H4.out.snd.snd.held 5 rfl
  have y6 := blk_cell H4.out.snd.snd.held 6 rfl
  go_wp2_with fail
  refine (own_outText H4.out v (by omega) (by omega)).mono ?_
  rintro r w5 ⟨rfl, h1⟩
  obtain ⟨ys5, hys⟩ : ∃ ys, ys4 ++ txtB v.toList = ys := ⟨_, rfl⟩
  have hl5 : ys5.length ≤ 900003000 := by rw [← hys, List.length_append, txtB_len]; omega
  rw [hys] at h1
  have HY5 := Lib.hid hys
  have H5 := Lib.hid h1
  clear h1 H4 hys ha y0 y1 y2 y3 y4 y5 y6
  have ha := blk_cell H5.out.snd.held 0 rfl
  have y0 := blk_cell H5.out.snd.snd.held 0 rfl
  have y1 := blk_cell H5.out.snd.snd.held 1 rfl
  have y2 := blk_cell H5.out.snd.snd.held 2 rfl
  have y3 := blk_cell H5.out.snd.snd.held 3 rfl
  have y4 := blk_cell H5.out.snd.snd.held 4 rfl
  have y5 := blk_cell H5.out.snd.snd.held 5 rfl
  have y6 := blk_cell H5.out.snd.snd.held 6 rfl
  go_wp2_with fail
  try simp only [hwK, hwO]
  refine (own_outU16 H5.out o ho (by omega)).mono ?_
  rintro r w6 ⟨rfl, h1⟩
  obtain ⟨ys6, hys⟩ : ∃ ys, ys5 ++ beB 2 o = ys := ⟨_, rfl⟩
  have hl6 : ys6.length ≤ 900003600 := by rw [← hys, List.length_append, beB_length]; omega
  rw [hys] at h1
  have HY6 := Lib.hid hys
  have H6 := Lib.hid h1
  clear h1 H5 hys ha y0 y1 y2 y3 y4 y5 y6
  have ha := blk_cell H6.out.snd.held 0 rfl
  have y0 := blk_cell H6.out.snd.snd.held 0 rfl
  have y1 := blk_cell H6.out.snd.snd.held 1 rfl
  have y2 := blk_cell H6.out.snd.snd.held 2 rfl
  have y3 := blk_cell H6.out.snd.snd.held 3 rfl
  have y4 := blk_cell H6.out.snd.snd.held 4 rfl
  have y5 := blk_cell H6.out.snd.snd.held 5 rfl
  have y6 := blk_cell H6.out.snd.snd.held 6 rfl
  go_wp2_with fail
  refine (own_outU64 H6.out n hn (by omega)).mono ?_
  rintro r w7 ⟨rfl, h1⟩
  obtain ⟨ys7, hys⟩ : ∃ ys, ys6 ++ beB 8 n = ys := ⟨_, rfl⟩
  have hl7 : ys7.length ≤ 900004200 := by rw [← hys, List.length_append, beB_length]; omega
  rw [hys] at h1
  have HY7 := Lib.hid hys
  have H7 := Lib.hid h1
  clear h1 H6 hys ha y0 y1 y2 y3 y4 y5 y6
  go_wp2_with fail
  have HF : xs ++ E = ys7 := by rw [← HE.out, ← HY7.out, ← HY6.out, ← HY5.out, ← HY4.out, ← HY3.out, ← HY2.out, ← HY1.out]; simp [encM]
  rw [HF]
  exact bodyPost_end (results_none rfl _ _ _) rfl ⟨rfl, H7.out.drop2.drop2⟩

theorem toNat_of {x : Int} (h : NumW x) : ∃ n : Nat, x = (n : Int) ∧ n < 18446744073709551616 := ⟨x.toNat, by have := h.1; omega, by have h1 := h.1; have h2 := h.2; omega⟩
theorem pentryE {w0 w : World} {p : Nat} {xs : List UInt8} {J : Res} [Stab J] (h : Own w0 w (Sep (OutR p xs) J)) (e : En) (he : EnF e) (hl : xs.length ≤ 900000000) :
    Calls Tryz.prog 56 #[putv p, env e] w fun r w' => r = .returned (.tuple #[]) ∧ Own w0 w' (Sep (OutR p (xs ++ encE e)) J) := by
  obtain ⟨k, h0, v, x, n, nv⟩ := e
  obtain ⟨x, rfl, hx⟩ := toNat_of he.x
  exact pentry_any h k v nv h0 n x he.k he.v he.n hx hl
theorem pmsgM {w0 w : World} {p : Nat} {xs : List UInt8} {J : Res} [Stab J] (h : Own w0 w (Sep (OutR p xs) J)) (m : Ms) (he : MsF m) (hl : xs.length ≤ 900000000) :
    Calls Tryz.prog 86 #[putv p, msv m] w fun r w' => r = .returned (.tuple #[]) ∧ Own w0 w' (Sep (OutR p (xs ++ encM m)) J) := by
  obtain ⟨s, K, k, x, v, o, n⟩ := m
  obtain ⟨s, rfl, hs⟩ := toNat_of ⟨he.w.s0, he.w.s1⟩
  obtain ⟨x, rfl, hx⟩ := toNat_of ⟨he.w.x0, he.w.x1⟩
  obtain ⟨n, rfl, hn⟩ := toNat_of ⟨he.w.n0, he.w.n1⟩
  obtain ⟨K, rfl⟩ : ∃ q : Nat, K = (q : Int) := ⟨K.toNat, by have : (0 : Int) ≤ K := he.K0; omega⟩
  obtain ⟨o, rfl⟩ : ∃ q : Nat, o = (q : Int) := ⟨o.toNat, by have : (0 : Int) ≤ o := he.o0; omega⟩
  exact pmsg_any h s K x o n k v hs (by have : (K : Int) < 256 := he.K1; omega) he.k hx he.v (by have : (o : Int) < 65536 := he.o1; omega) hn hl

end Go.Proofs.YtookbmpaoljelaaGreat

namespace Go.Proofs.YtookbmpaoljelaaGreat
open Go Go.RowKit
set_option linter.unusedVariables false
set_option linter.unusedSimpArgs false
set_option maxRecDepth 100000
set_option linter.unusedSimpArgs false
set_option maxRecDepth 100000

theorem SameB.trans {a b c : Value} (h : SameB a b) (k : SameB b c) : SameB a c := fun i hi => h i (k i hi)
def FlagPostB (w : World) (p : Nat) (v : Value) (xs : List UInt8) (bad : Bool) (e : Ending) (w' : World) : Prop :=
  ∃ v', e = .returned (.bool (flagR xs bad)) ∧ InV w' p v' (flagL xs bad) (!flagOk xs bad) ∧ Only (fun k => k = p) w w' ∧ SameB v v'
def TextPostB (w : World) (p : Nat) (v : Value) (xs : List UInt8) (bad : Bool) (e : Ending) (w' : World) : Prop :=
  ∃ v', e = .returned (.string ⟨(txtR xs bad).toArray⟩) ∧ InV w' p v' (txtL xs bad) (!txtOk xs bad) ∧ Only (fun k => k = p) w w' ∧ SameB v v'

set_option maxHeartbeats 400000 in
theorem inU16_blk (p : Nat) (v : Value) (xs : List UInt8) (bad : Bool) (w : World) (hI : InV w p v xs bad) :
    Calls Tryz.prog 75 #[.pointer (some ⟨p, 0, none⟩)] w (UPostB .u16 w p 2 v xs bad) := by
  go_enter Tryz.func75, Tryz.ntmps75
  go_wp2_with fail
  refine (number_blk p 2 v xs bad w hI (by omega)).mono ?_
  rintro e w1 ⟨v', rfl, hI', ho, hsb⟩
  have HI' := Lib.hid hI'; clear hI'
  have HO := Lib.hid ho; clear ho
  have HSB := Lib.hid hsb; clear hsb
  have HN := Lib.hid (numN_lt 2 xs bad)
  go_wp2
  go_ret
  refine ⟨v', ?_, HI'.out, HO.out, HSB.out⟩
  have := HN.out
  simp [IntKind.wrap_u16]
  omega

set_option maxHeartbeats 400000 in
theorem flag_empty_b (p : Nat) (v : Value) (bad : Bool) (w : World) (hI : InV w p v [] bad) :
    Calls Tryz.prog 33 #[.pointer (some ⟨p, 0, none⟩)] w (FlagPostB w p v [] bad) := by
  obtain ⟨ao, cap, rfl, _⟩ := hI.sl.shape
  have hc0 := hI.cell0
  simp only [List.length_nil] at hc0
  have HI := Lib.hid hI; clear hI
  go_enter Tryz.func33, Tryz.ntmps33
  go_wp2_with fail
  refine (left_any p ao 0 cap w hc0).mono ?_
  rintro e w' ⟨rfl, rfl⟩
  go_wp2_with fail
  refine (inU8_blk p _ [] bad w HI.out).mono ?_
  rintro e w1 ⟨v', rfl, hI', ho, hsb⟩
  have HSB := Lib.hid hsb; clear hsb
  have HI' := Lib.hid hI'; clear hI'
  have HO := Lib.hid ho; clear ho
  have hn : numB (nextR 1 [] bad) = 0 := by simp [nextR, numB]
  have hcan : can 1 [] bad = false := by simp [can]
  go_wp2
  go_ret
  have h1 := HI'.out
  refine ⟨v', ?_, ?_, HO.out, HSB.out⟩
  · simp [flagR, flagOk, hcan]
  · simpa [flagL, flagOk, hcan, nextL] using h1

set_option maxHeartbeats 400000 in
theorem flag_big_b (p : Nat) (v : Value) (b : UInt8) (xs : List UInt8) (bad : Bool) (w : World) (hI : InV w p v (b :: xs) bad) (hb : 1 < b.toNat) :
    Calls Tryz.prog 33 #[.pointer (some ⟨p, 0, none⟩)] w (FlagPostB w p v (b :: xs) bad) := by
  obtain ⟨ao, cap, rfl, _⟩ := hI.sl.shape
  have hc0 := hI.cell0
  have hf := hI.free 1
  have hc1 := hI.cell1
  obtain ⟨g, off, rfl, hcell⟩ := hI.sl.cells (k := 0) (by simp)
  simp only [List.getD_cons_zero, Nat.add_zero] at hcell
  have hpos : 0 < (b :: xs).length := by simp
  obtain ⟨l, hl⟩ : ∃ l, l = (b :: xs).length := ⟨_, rfl⟩
  rw [← hl] at hc0 hpos
  have HL := Lib.hid hl
  have hpos' : (0 : Int) < (l : Int) := by omega
  have hd : decide ((0 : Int) < (l : Int)) = true := by simpa using hpos
  have HI := Lib.hid hI; clear hI
  clear hl
  go_enter Tryz.func33, Tryz.ntmps33
  go_wp2_with fail
  refine (left_any p _ l cap w hc0).mono ?_
  rintro e w' ⟨rfl, rfl⟩
  go_wp2_with fail
  refine (inU8_blk p _ (b :: xs) true _ (HI.out.set1 true)).mono ?_
  rintro e w1 ⟨v', rfl, hI', ho, hsb⟩
  have HSB := Lib.hid hsb; clear hsb
  have HI' := Lib.hid hI'; clear hI'
  have HO := Lib.hid ho; clear ho
  have hn : numB (nextR 1 (b :: xs) true) = 0 := by simp [nextR, can, numB]
  go_wp2
  go_ret
  have h1 := HI'.out
  have hok : flagOk (b :: xs) bad = false := by simp [flagOk]; intro _; omega
  refine ⟨v', ?_, ?_, (Only.cell w p 1 _).trans HO.out (fun _ _ h => h), HSB.out⟩
  · simp [flagR, hok]
  · simpa [flagL, hok, nextL, can] using h1

set_option maxHeartbeats 400000 in
theorem flag_small_b (p : Nat) (v : Value) (b : UInt8) (xs : List UInt8) (bad : Bool) (w : World) (hI : InV w p v (b :: xs) bad) (hb : b.toNat ≤ 1) :
    Calls Tryz.prog 33 #[.pointer (some ⟨p, 0, none⟩)] w (FlagPostB w p v (b :: xs) bad) := by
  obtain ⟨ao, cap, rfl, _⟩ := hI.sl.shape
  have hc0 := hI.cell0
  obtain ⟨g, off, rfl, hcell⟩ := hI.sl.cells (k := 0) (by simp)
  simp only [List.getD_cons_zero, Nat.add_zero] at hcell
  have hpos : 0 < (b :: xs).length := by simp
  obtain ⟨l, hl⟩ : ∃ l, l = (b :: xs).length := ⟨_, rfl⟩
  rw [← hl] at hc0 hpos
  have HL := Lib.hid hl
  have hpos' : (0 : Int) < (l : Int) := by omega
  have hd : decide ((0 : Int) < (l : Int)) = true := by simpa using hpos
  have hb' : ¬ (1 : Int) < (b.toNat : Int) := by omega
  have HI := Lib.hid hI; clear hI
  clear hl
  go_enter Tryz.func33, Tryz.ntmps33
  go_wp2_with fail
  refine (left_any p _ l cap w hc0).mono ?_
  rintro e w' ⟨rfl, rfl⟩
  go_wp2_with fail
  refine (inU8_blk p _ (b :: xs) bad _ HI.out).mono ?_
  rintro e w1 ⟨v', rfl, hI', ho, hsb⟩
  have HSB := Lib.hid hsb; clear hsb
  have HI' := Lib.hid hI'; clear hI'
  have HO := Lib.hid ho; clear ho
  go_wp2
  go_ret
  have h1 := HI'.out
  have hok : flagOk (b :: xs) bad = can 1 (b :: xs) bad := by simp [flagOk]; intro _; omega
  refine ⟨v', ?_, ?_, HO.out, HSB.out⟩
  · simp only [flagR, hok]
    cases bad
    · simp [can, nextR, numB]
      rw [Bool.eq_iff_iff]; simp; omega
    · simp [can, nextR, numB]
  · simpa [flagL, hok, nextL] using h1

theorem inFlag_blk (p : Nat) (v : Value) (xs : List UInt8) (bad : Bool) (w : World) (hI : InV w p v xs bad) :
    Calls Tryz.prog 33 #[.pointer (some ⟨p, 0, none⟩)] w (FlagPostB w p v xs bad) := by
  cases xs with
  | nil => exact flag_empty_b p v bad w hI
  | cons b xs =>
    by_cases hb : b.toNat ≤ 1
    · exact flag_small_b p v b xs bad w hI hb
    · exact flag_big_b p v b xs bad w hI (by omega)
set_option maxHeartbeats 400000 in
theorem text_bad_b (p : Nat) (v : Value) (xs : List UInt8) (w : World) (hI : InV w p v xs true) :
    Calls Tryz.prog 40 #[.pointer (some ⟨p, 0, none⟩)] w (TextPostB w p v xs true) := by
  have hc1 := hI.cell1
  have HI := Lib.hid hI; clear hI
  go_enter Tryz.func40, Tryz.ntmps40
  go_wp2_with fail
  refine (bad_any p true w hc1).mono ?_
  rintro e w' ⟨rfl, rfl⟩
  go_wp2
  go_ret
  exact ⟨v, by simp [txtR, txtOk, can], by simpa [txtL, txtOk, can] using HI.out, Only.refl _ _, fun k h => h⟩
set_option maxHeartbeats 400000 in
theorem text_good_b (p : Nat) (v : Value) (xs : List UInt8) (w : World) (hI : InV w p v xs false) :
    Calls Tryz.prog 40 #[.pointer (some ⟨p, 0, none⟩)] w (TextPostB w p v xs false) := by
  obtain ⟨ao, cap, rfl, _⟩ := hI.sl.shape
  have hc1 := hI.cell1
  have hc0 := hI.cell0
  have HI := Lib.hid hI; clear hI
  go_enter Tryz.func40, Tryz.ntmps40
  go_wp2_with fail
  refine (bad_any p false w hc1).mono ?_
  rintro e w' ⟨rfl, rfl⟩
  go_wp2_with fail
  refine (inU16_blk p _ xs false w HI.out).mono ?_
  rintro e w1 ⟨v1, rfl, hI1, ho1, hs1⟩
  have HS1 := Lib.hid hs1; clear hs1
  have HI1 := Lib.hid hI1; clear hI1
  have HO1 := Lib.hid ho1; clear ho1
  clear hc0 hc1
  obtain ⟨n, hn⟩ : ∃ n, n = numB (nextR 2 xs false) := ⟨_, rfl⟩
  have hlt : n < 65536 := by rw [hn]; exact numN_lt 2 xs false
  rw [← hn]
  have HN := Lib.hid hn; clear hn
  go_wp2_with fail
  refine (next_blk p n v1 _ _ w1 HI1.out).mono ?_
  rintro e w2 ⟨r, v2, rfl, hr, hI2, ho2, hs2⟩
  have HS2 := Lib.hid hs2; clear hs2
  obtain ⟨zs, hz⟩ : ∃ zs, zs = nextR n (nextL 2 xs false) (!can 2 xs false) := ⟨_, rfl⟩
  obtain ⟨b2, hb2⟩ : ∃ b2, b2 = !can n (nextL 2 xs false) (!can 2 xs false) := ⟨_, rfl⟩
  rw [← hz] at hr
  rw [← hb2] at hI2
  have hcv := run_str hr
  have hc1 := hI2.cell1
  have hc0 := hI2.cell0
  have hf := hI2.free 0
  have HI2 := Lib.hid hI2; clear hI2
  have HO2 := Lib.hid ho2; clear ho2
  have HZ := Lib.hid hz; clear hz
  have HB := Lib.hid hb2; clear hb2
  have HR := Lib.hid hr; clear hr
  cases b2 with
  | false =>
    go_wp2
    go_ret
    have hok := text_ok xs false (by rw [← HN.out]; exact HB.out)
    have hres := text_res xs hok
    rw [← HN.out] at hres
    refine ⟨v2, ?_, ?_, HO1.out.trans HO2.out (fun _ _ h => h), HS1.out.trans HS2.out⟩
    · rw [hres.1, ← HZ.out]; rfl
    · rw [hres.2, hok]; exact HI2.out
  | true =>
    go_wp2
    go_ret
    have hok := text_ok xs true (by rw [← HN.out]; exact HB.out)
    refine ⟨.slice ao xs.length cap, ?_, ?_, (HO1.out.trans HO2.out (fun _ _ h => h)).trans (Only.cell _ _ _ _) (fun _ _ h => h), fun k h => h⟩
    · have : zs = [] := by
        have h1 := HZ.out
        have h2 := HB.out
        simp only [nextR] at h1
        rw [if_neg (by simp at h2; simp [h2])] at h1
        exact h1
      rw [this]
      simp [txtR, hok]
    · simpa [txtL, hok] using HI.out.back HI2.out (HO1.out.trans HO2.out (fun _ _ h => h))

theorem inText_blk (p : Nat) (v : Value) (xs : List UInt8) (bad : Bool) (w : World) (hI : InV w p v xs bad) :
    Calls Tryz.prog 40 #[.pointer (some ⟨p, 0, none⟩)] w (TextPostB w p v xs bad) := by
  cases bad with
  | true => exact text_bad_b p v xs w hI
  | false => exact text_good_b p v xs w hI

theorem own_inFlag {w0 w : World} {p : Nat} {xs : List UInt8} {bad : Bool} {J : Res} [Stab J] (h : Own w0 w (Sep (InR p xs bad) J)) :
    Calls Tryz.prog 33 #[.pointer (some ⟨p, 0, none⟩)] w fun e w' => e = .returned (.bool (flagR xs bad)) ∧ Own w0 w' (Sep (InR p (flagL xs bad) (!flagOk xs bad)) J) := by
  refine (Own.call (val := fun _ : Unit => .bool (flagR xs bad)) (Q := fun _ => InR p (flagL xs bad) (!flagOk xs bad)) h ?_).mono ?_
  · rintro F B ⟨v, hI, hF⟩ hJ hd h0
    refine (inFlag_blk p v xs bad w hI).mono ?_
    rintro e w' ⟨v', rfl, hI', ho, hs⟩
    refine ⟨(), fun k => k = p ∨ blkV v' = some k, rfl, ⟨v', hI', fun k => Iff.rfl⟩, fun k hk => .inl ((hF k).2 (hk.imp id (hs k))), ho.mono fun k _ e => (hF k).2 (.inl e)⟩
  · rintro e w' ⟨_, rfl, hq⟩
    exact ⟨rfl, hq⟩
theorem own_inText {w0 w : World} {p : Nat} {xs : List UInt8} {bad : Bool} {J : Res} [Stab J] (h : Own w0 w (Sep (InR p xs bad) J)) :
    Calls Tryz.prog 40 #[.pointer (some ⟨p, 0, none⟩)] w fun e w' => e = .returned (.string ⟨(txtR xs bad).toArray⟩) ∧ Own w0 w' (Sep (InR p (txtL xs bad) (!txtOk xs bad)) J) := by
  refine (Own.call (val := fun _ : Unit => .string ⟨(txtR xs bad).toArray⟩) (Q := fun _ => InR p (txtL xs bad) (!txtOk xs bad)) h ?_).mono ?_
  · rintro F B ⟨v, hI, hF⟩ hJ hd h0
    refine (inText_blk p v xs bad w hI).mono ?_
    rintro e w' ⟨v', rfl, hI', ho, hs⟩
    refine ⟨(), fun k => k = p ∨ blkV v' = some k, rfl, ⟨v', hI', fun k => Iff.rfl⟩, fun k hk => .inl ((hF k).2 (hk.imp id (hs k))), ho.mono fun k _ e => (hF k).2 (.inl e)⟩
  · rintro e w' ⟨_, rfl, hq⟩
    exact ⟨rfl, hq⟩

end Go.Proofs.YtookbmpaoljelaaGreat
