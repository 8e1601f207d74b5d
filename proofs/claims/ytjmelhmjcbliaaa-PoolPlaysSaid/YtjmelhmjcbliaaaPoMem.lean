/-
  Slices of elements of several cells of one's own, parts of memory that stay, in seats without nodes (wip/tools/mkpomem.py picks them out of the texts of packages node and tree).
-/
import Derived.Test.YtjmelhmjcbliaaaRowP
import Derived.Test.YtjmelhmjcbliaaaExtBlk
import Derived.Test.YtjmelhmjcbliaaaWide
import Derived.Test.YtjmelhmjcbliaaaMemP
import Derived.Deep.RegionLaw
import Derived.Deep.RegionHeld3
import Derived.StillTailTactics
import Derived.BigQuiet
import Derived.Deep.QuietTactic
import Derived.Deep.CutBlock
import Derived.Deep.DeepCutAuto
import Derived.Laws.CopyRow
import Derived.Laws.CopyOwn
import Derived.Lib.SliceRun
import Derived.Lib.Walk
import Derived.Lib.AppendZerosOnto
import Derived.Deep.AppendSrc
import Derived.Laws.Externs
import Derived.Maps.OwnSet
import Derived.Maps.OwnOps
import Derived.Handy
namespace Go.Proofs.Ytjmelhmjcbliaaa
open Go Go.RowKit
set_option linter.unusedVariables false
set_option linter.unusedSimpArgs false
set_option maxRecDepth 100000

theorem only_b {w w' : World} (h : Only (fun _ => False) w w') : Below w.heap.size w w' := h.below (Nat.le_refl _) (fun _ h => h.elim)
theorem Own.belows {w0 w : World} {I : Res} (h : Own w0 w I) : Below w0.heap.size w0 w := h.only.below (Nat.le_refl _) (fun _ h => h.elim)

/-! ### Elements of several cells -/


/-! ### Elements of several cells -/
/-- The head of a slice. -/
structure Hd where
  ao : Option Addr
  n : Nat
  c : Nat
instance : Inhabited Hd := ⟨⟨none, 0, 0⟩⟩
class Cel (α : Type) where
  size : Nat
  cells : α → List Value
  len : ∀ a, (cells a).length = size
  one : ∀ a, ∀ u ∈ cells a, u.oneCell' = true
  pos : 0 < size
instance : Cel Int := ⟨1, fun k => [.int .u64 k], fun _ => rfl, fun a u h => by
  simp only [List.mem_singleton] at h
  subst h; rfl, by decide⟩
instance : Cel Hd := ⟨1, fun h => [.slice h.ao h.n h.c], fun _ => rfl, fun a u h => by
  simp only [List.mem_singleton] at h
  subst h; rfl, by decide⟩
def cAll {α : Type} [Cel α] : List α → List Value
  | [] => []
  | c :: r => Cel.cells c ++ cAll r
section
variable {α : Type} [Cel α]
theorem cAll_append : ∀ (l k : List α), cAll (l ++ k) = cAll l ++ cAll k
  | [], k => rfl
  | c :: l, k => by rw [List.cons_append, cAll, cAll, cAll_append l k, List.append_assoc]
theorem cAll_length : ∀ l : List α, (cAll l).length = l.length * Cel.size α
  | [] => by simp [cAll]
  | c :: l => by
    rw [cAll, List.length_append, Cel.len, cAll_length l, List.length_cons, Nat.succ_mul, Nat.add_comm]
theorem cAll_one : ∀ (l : List α), ∀ u ∈ cAll l, u.oneCell' = true
  | [], u, h => by cases h
  | c :: l, u, h => by
    rw [cAll, List.mem_append] at h
    rcases h with h | h
    · exact Cel.one c u h
    · exact cAll_one l u h
theorem cel_some (a : α) {i : Nat} (hi : i < Cel.size α) : ((Cel.cells a)[i]?).isSome = true := by
  rw [List.getElem?_eq_getElem (by rw [Cel.len]; exact hi)]
  rfl
/-- What is asked of a type of elements. -/
structure ElT (α : Type) [Cel α] (t e : TypeId) (bytes : Nat) : Prop where
  u : Try.prog.underlying t = some (.slice e)
  i : ∃ i0 z, Try.prog.info? e = some i0 ∧ i0.zero = some z ∧ i0.size = Cel.size α ∧ i0.bytes = bytes ∧ z.cells.size = Cel.size α
/-- A slice of one's own. -/
abbrev RowG (e : TypeId) (v : Value) (l : List α) : Res := RowV e (Cel.size α) v l.length (cAll l)
/-- What an append of one element to a slice of one's own leaves. -/
theorem own_appendG {t e : TypeId} {bytes : Nat} (hT : ElT α t e bytes) {ops : Array Oper} {rest : List Oper} {o : Oper} {a : Act} {Q : Exit → Act → World → Prop} {w0 wx : World} {v : Value} {xs : List α} {J : Res} [Stab J] (h : Own w0 wx (Sep (RowG e v xs) J)) (m : α) (c : Nat)
    (hlen : (xs.length + 1) * bytes ≤ 140737488351232) (h63 : xs.length + 1 ≤ 140737488351232) (hgd : o.guard = none) (s x : Operand) (ho : o.op = .call { callee := .builtin .append, args := #[s, x], argTypes := #[t, t] })
    (hs : a.eval s = v) (cs : Array Value) (hcs : cs.toList = Cel.cells m) (hx : a.eval x = .slice (some ⟨wx.heap.size, 0, none⟩) 1 c)
    (k : ∀ g cap n w', Hid (n = (xs ++ [m]).length) → Hid (Own w0 w' (Sep (RowG e (.slice (some ⟨g, 0, none⟩) n cap) (xs ++ [m])) J)) → wpList Try.prog ops Q rest (a.put o.dst (.slice (some ⟨g, 0, none⟩) n cap)) w') :
    wpList Try.prog ops Q (o :: rest) a (wx.alloc (.cells cs e)) := by
  obtain ⟨i0, z, hi, hz0, hz1, hz2, hz3⟩ := hT.i
  have HA := (h.alloc (.cells cs e)).snd
  have hcq : ∀ j u, (Cel.cells m)[j]? = some u → (wx.alloc (.cells cs e)).cell? ((⟨wx.heap.size, 0, none⟩ : Addr).add j) = some u := by
    rw [← hcs]
    exact World.news_of_block (B := wx.heap.size) (heap_alloc_new wx _)
  refine wpList_append_lies (P := Try.prog) (wx.alloc (.cells cs e)) hgd s x t ho 0 e i0 z (Cel.size α) bytes hT.u hi hz0 hz1 hz2 hz3 Cel.pos v xs.length (cAll xs) hs
    HA.owns ⟨wx.heap.size, 0, none⟩ 1 c (Cel.cells m) hx (by rw [Cel.len, Nat.one_mul]) hcq (Cel.one m) (Nat.le_refl _) (by unfold maxLen; omega) (by omega) (Nat.zero_le _) (wx.heap.size + 1) (by simp) ?_
  intro g cap w1 hown hgrow hat hlt
  have he : cAll xs ++ Cel.cells m = cAll (xs ++ [m]) := by rw [cAll_append]; simp [cAll]
  have h5 := HA.appended hown hgrow (hat.imp id (fun e => by simp; omega))
  rw [he] at h5
  refine k g cap (xs.length + 1) w1 (Lib.hid (by simp)) (Lib.hid ?_)
  have hn : (xs ++ [m]).length = xs.length + 1 := by simp
  show Own w0 w1 (Sep (RowV e (Cel.size α) _ (xs ++ [m]).length _) J)
  rw [hn]
  exact h5
variable [Inhabited α]
theorem cAll_at : ∀ (l : List α) (j i : Nat), j < l.length → i < Cel.size α → (cAll l)[j * Cel.size α + i]? = (Cel.cells (l.getD j default))[i]?
  | [], j, i, h, _ => by simp at h
  | c :: l, 0, i, _, hi => by
    rw [cAll, Nat.zero_mul, Nat.zero_add, List.getElem?_append_left (by rw [Cel.len]; exact hi)]
    rfl
  | c :: l, j + 1, i, h, hi => by
    have ih := cAll_at l j i (by simpa using h) hi
    rw [cAll, List.getElem?_append_right (by rw [Cel.len, Nat.succ_mul]; omega), List.getD_cons_succ, ← ih]
    congr 1
    rw [Cel.len, Nat.succ_mul]
    omega

/-- A slice of elements. -/
def SlG (w : World) (ao : Option Addr) (l : List α) : Prop := ∀ j, j < l.length → ∃ g off, ao = some ⟨g, off, none⟩ ∧ ∀ i, i < Cel.size α → w.cell? ⟨g, off + j * Cel.size α + i, none⟩ = (Cel.cells (l.getD j default))[i]?
theorem SlG.nil (w : World) (ao : Option Addr) : SlG w ao ([] : List α) := fun j hj => by simp at hj
theorem cellq_eq {w w' : World} (ho : Only (fun _ => False) w w') {p : Addr} {v : Option Value} (h : w.cell? p = v) (hv : v.isSome = true) : w'.cell? p = v := by
  cases v with
  | none => cases hv
  | some u => exact ho.cellq h
theorem SlG.keep {w w' : World} {ao : Option Addr} {l : List α} (h : SlG w ao l) (ho : Only (fun _ => False) w w') : SlG w' ao l := fun j hj => by
  obtain ⟨g, off, e, h⟩ := h j hj
  exact ⟨g, off, e, fun i hi => cellq_eq ho (h i hi) (cel_some _ hi)⟩
theorem slg_of {w : World} {g : Nat} {cs : List α} (h : ∀ j u, (cAll cs)[j]? = some u → w.cell? ⟨g, j, none⟩ = some u) : SlG w (some ⟨g, 0, none⟩) cs := fun j hj => by
  refine ⟨g, 0, rfl, fun i hi => ?_⟩
  have e := cAll_at cs j i hj hi
  have hs := cel_some (cs.getD j default) hi
  rw [Option.isSome_iff_exists] at hs
  obtain ⟨u, hu⟩ := hs
  rw [hu] at e ⊢
  rw [Nat.zero_add]
  exact h _ _ e
theorem slg_cells {w : World} {ao : Option Addr} {cs : List α} (h : SlG w ao cs) : ∀ ad, ao = some ad → ∀ j u, (cAll cs)[j]? = some u → w.cell? (ad.add j) = some u := by
  rintro ad rfl j u hj
  have hl := (List.getElem?_eq_some_iff.1 hj).1
  rw [cAll_length] at hl
  have hp := Cel.pos (α := α)
  have hq : j / Cel.size α < cs.length := (Nat.div_lt_iff_lt_mul hp).2 hl
  obtain ⟨g, off, e, hv⟩ := h (j / Cel.size α) hq
  simp only [Option.some.injEq] at e
  subst e
  rw [add_lit]
  have hm := Nat.mod_lt j hp
  have he := Nat.div_add_mod j (Cel.size α)
  have h1 := hv (j % Cel.size α) hm
  rw [← cAll_at cs _ _ hq hm, Nat.add_assoc, Nat.mul_comm, he, hj] at h1
  exact h1
theorem rowg_slg {w : World} {e : TypeId} {v : Value} {l : List α} (h : w.ownsRow 0 e (Cel.size α) v l.length (cAll l)) : ∃ ao cap, v = .slice ao l.length cap ∧ SlG w ao l ∧ (ao = none → l.length = 0 ∧ cap = 0) ∧ l.length ≤ cap := by
  rcases h.2 with ⟨rfl, h0⟩ | ⟨g, cap, cur, rfl, hb, hg, hc, _⟩
  · exact ⟨none, 0, by rw [h0], fun j hj => by omega, fun _ => ⟨h0, rfl⟩, by omega⟩
  · refine ⟨some ⟨g, 0, none⟩, cap, rfl, slg_of (fun j u hj => ?_), (fun e => by cases e), hc⟩
    have hl := (List.getElem?_eq_some_iff.1 hj).1
    have := h.cellAt j (by rw [cAll_length] at hl; exact hl)
    rw [this]
    exact hj
end
theorem SlG.nu {w : World} {ao : Option Addr} {l : List Int} (h : SlG w ao l) {j : Nat} (hj : j < l.length) : ∃ g off, ao = some ⟨g, off, none⟩ ∧ w.cell? ⟨g, off + j, none⟩ = some (.int .u64 (l.getD j default)) := by
  obtain ⟨g, off, e, h⟩ := h j hj
  have h0 := h 0 (by decide)
  rw [show off + j * Cel.size Int + 0 = off + j from by show off + j * 1 + 0 = _; omega] at h0
  exact ⟨g, off, e, h0⟩
theorem SlG.hd {w : World} {ao : Option Addr} {l : List Hd} (h : SlG w ao l) {j : Nat} (hj : j < l.length) : ∃ g off, ao = some ⟨g, off, none⟩ ∧ w.cell? ⟨g, off + j, none⟩ = some (.slice (l.getD j default).ao (l.getD j default).n (l.getD j default).c) := by
  obtain ⟨g, off, e, h⟩ := h j hj
  have h0 := h 0 (by decide)
  rw [show off + j * Cel.size Hd + 0 = off + j from by show off + j * 1 + 0 = _; omega] at h0
  exact ⟨g, off, e, h0⟩

/-! ### Parts of memory that stay as they are -/
def Fix (P : World → Prop) : Res := fun w F => (∀ k, F k → k < w.heap.size) ∧ ∀ w', (∀ k, F k → w'.heap[k]? = w.heap[k]?) → P w'
theorem lt_same {w w' : World} {k : Nat} (h : k < w.heap.size) (e : w'.heap[k]? = w.heap[k]?) : k < w'.heap.size := by
  rw [Array.getElem?_eq_getElem h] at e
  exact lt_of_some e
instance {P : World → Prop} : Stab (Fix P) where
  lt := fun h k hk => h.1 k hk
  keep := fun h hk => ⟨fun k h1 => lt_same (h.1 k h1) (hk k h1), fun w' h2 => h.2 w' (fun k h1 => (h2 k h1).trans (hk k h1))⟩
theorem Own.fixed {w0 w : World} {P : World → Prop} {J : Res} (h : Own w0 w (Sep (Fix P) J)) : P w := by
  obtain ⟨F, ⟨A, B, hA, _⟩, _⟩ := h
  exact hA.2 w (fun _ _ => rfl)
theorem Own.fix2 {w0 w : World} {P Q : World → Prop} {J : Res} (h : Own w0 w (Sep (Fix P) (Sep (Fix Q) J))) : Own w0 w (Sep (Fix fun w => P w ∧ Q w) J) := by
  refine h.assoc'.imp fun F hF => hF.imp (fun C hC => ?_) (fun _ h => h)
  obtain ⟨A, B, hA, hB, hd, hC⟩ := hC
  exact ⟨fun k hk => ((hC k).1 hk).elim (hA.1 k) (hB.1 k), fun w' h2 => ⟨hA.2 w' (fun k hk => h2 k ((hC k).2 (.inl hk))), hB.2 w' (fun k hk => h2 k ((hC k).2 (.inr hk)))⟩⟩
theorem Own.fixI {w0 w : World} {P Q : World → Prop} {J : Res} (h : Own w0 w (Sep (Fix P) J)) (hPQ : ∀ w, P w → Q w) : Own w0 w (Sep (Fix Q) J) :=
  h.imp fun F hF => hF.imp (fun A hA => ⟨hA.1, fun w' h2 => hPQ _ (hA.2 w' h2)⟩) (fun _ h => h)
theorem Own.fix0 {w0 w : World} {P : World → Prop} {J : Res} (h : Own w0 w J) (hP : ∀ w, P w) : Own w0 w (Sep (Fix P) J) := by
  obtain ⟨F, h1, h2, h3⟩ := h
  exact ⟨F, ⟨fun _ => False, F, ⟨fun _ h => h.elim, fun w' _ => hP w'⟩, h1, fun _ h => h.elim, fun k => by simp⟩, h2, h3⟩
/-- A slice of one's own that is written to no more. -/
theorem Own.rowFix {α : Type} [Cel α] [Inhabited α] {w0 w : World} {e : TypeId} {v : Value} {l : List α} {J : Res} (h : Own w0 w (Sep (RowG e v l) J)) : ∃ ao cap, v = .slice ao l.length cap ∧ (ao = none → l.length = 0 ∧ cap = 0) ∧ l.length ≤ cap ∧ Own w0 w (Sep (Fix fun w => SlG w ao l) J) := by
  obtain ⟨ao, cap, rfl, hs, h0, hc⟩ := rowg_slg h.owns
  refine ⟨ao, cap, rfl, h0, hc, h.imp fun F hF => hF.imp (fun A hA => ?_) (fun _ h => h)⟩
  refine ⟨fun k hk => Stab.lt hA k hk, fun w' h2 => ?_⟩
  obtain ⟨ao', cap', e, hs', _⟩ := rowg_slg (own_keepAt hA.1 (fun k e => h2 k ((hA.2 k).2 e)))
  simp only [Value.slice.injEq] at e
  rw [e.1]
  exact hs'

/-! ### Nodes -/
theorem blk2 {w : World} {k : Nat} {t : TypeId} {a0 a1 : Value} (h : w.heap[k]? = some (.cells #[a0, a1] t (0, 0))) :
    (w.cell? ⟨k, 0, none⟩ = some a0 ∧ w.cell? ⟨k, 1, none⟩ = some a1) ∧ (w.frozen? ⟨k, 0, none⟩ = false ∧ w.frozen? ⟨k, 1, none⟩ = false) := by
  simp [World.cell?, World.frozen?, h]
theorem blk5 {w : World} {k : Nat} {t : TypeId} {a0 a1 a2 a3 a4 : Value} (h : w.heap[k]? = some (.cells #[a0, a1, a2, a3, a4] t (0, 0))) :
    (w.cell? ⟨k, 0, none⟩ = some a0 ∧ w.cell? ⟨k, 1, none⟩ = some a1 ∧ w.cell? ⟨k, 2, none⟩ = some a2 ∧ w.cell? ⟨k, 3, none⟩ = some a3 ∧ w.cell? ⟨k, 4, none⟩ = some a4) ∧
    (w.frozen? ⟨k, 0, none⟩ = false ∧ w.frozen? ⟨k, 1, none⟩ = false ∧ w.frozen? ⟨k, 2, none⟩ = false ∧ w.frozen? ⟨k, 3, none⟩ = false ∧ w.frozen? ⟨k, 4, none⟩ = false) := by
  simp [World.cell?, World.frozen?, h]
theorem blk6 {w : World} {k : Nat} {t : TypeId} {a0 a1 a2 a3 a4 a5 : Value} (h : w.heap[k]? = some (.cells #[a0, a1, a2, a3, a4, a5] t (0, 0))) :
    (w.cell? ⟨k, 0, none⟩ = some a0 ∧ w.cell? ⟨k, 1, none⟩ = some a1 ∧ w.cell? ⟨k, 2, none⟩ = some a2 ∧ w.cell? ⟨k, 3, none⟩ = some a3 ∧ w.cell? ⟨k, 4, none⟩ = some a4 ∧ w.cell? ⟨k, 5, none⟩ = some a5) ∧
    (w.frozen? ⟨k, 0, none⟩ = false ∧ w.frozen? ⟨k, 1, none⟩ = false ∧ w.frozen? ⟨k, 2, none⟩ = false ∧ w.frozen? ⟨k, 3, none⟩ = false ∧ w.frozen? ⟨k, 4, none⟩ = false ∧ w.frozen? ⟨k, 5, none⟩ = false) := by
  simp [World.cell?, World.frozen?, h]
theorem only_set {w W : World} (h : Only (fun _ => False) w W) {p : Nat} (hp : w.heap.size ≤ p) (o : Nat) (u : Value) : Only (fun _ => False) w (W.setCell ⟨p, o, none⟩ u) :=
  h.trans (Only.cell W p o u) (fun i hi e => by omega)
theorem set2 {W : World} {p : Nat} {t : TypeId} {a0 a1 : Value} (h : W.heap[p]? = some (.cells #[a0, a1] t (0, 0))) (u0 u1 : Value) :
    ((W.setCell ⟨p, 0, none⟩ u0).setCell ⟨p, 1, none⟩ u1).heap[p]? = some (.cells #[u0, u1] t (0, 0)) := by
  have := heap_set (heap_set h 0 u0) 1 u1
  simpa using this
theorem set5 {W : World} {p : Nat} {t : TypeId} {a0 a1 a2 a3 a4 : Value} (h : W.heap[p]? = some (.cells #[a0, a1, a2, a3, a4] t (0, 0))) (u0 u1 u2 u3 u4 : Value) :
    (((((W.setCell ⟨p, 0, none⟩ u0).setCell ⟨p, 1, none⟩ u1).setCell ⟨p, 2, none⟩ u2).setCell ⟨p, 3, none⟩ u3).setCell ⟨p, 4, none⟩ u4).heap[p]? = some (.cells #[u0, u1, u2, u3, u4] t (0, 0)) := by
  have := heap_set (heap_set (heap_set (heap_set (heap_set h 0 u0) 1 u1) 2 u2) 3 u3) 4 u4
  simpa using this
theorem set_keep {W : World} {p q o : Nat} {u : Value} {x : Obj} (hq : q ≠ p) (h : W.heap[q]? = some x) : (W.setCell ⟨p, o, none⟩ u).heap[q]? = some x := (Below.heap_setCell _ _ _ _ hq).trans h
theorem alloc_keep {W : World} {q : Nat} {o x : Obj} (h : W.heap[q]? = some x) : (W.alloc o).heap[q]? = some x := (Below.heap_alloc _ _ _ (lt_of_some h)).trans h
/-- A slice's address, length and capacity. -/
def Shp (ao : Option Addr) (n c : Nat) : Prop := (ao = none ∧ n = 0 ∧ c = 0) ∨ ∃ a, ao = some a ∧ n ≤ c
theorem Shp.le {ao : Option Addr} {n c : Nat} (h : Shp ao n c) : n ≤ c := by
  rcases h with ⟨_, rfl, rfl⟩ | ⟨_, _, h⟩
  · exact Nat.le_refl _
  · exact h
theorem Shp.none {ao : Option Addr} {n c : Nat} (h : Shp ao n c) (e : ao = none) : n = 0 ∧ c = 0 := by
  rcases h with ⟨_, h1, h2⟩ | ⟨a, e2, _⟩
  · exact ⟨h1, h2⟩
  · rw [e] at e2; cases e2
theorem run_front (t e : TypeId) (i : TypeInfo) (ht : Try.prog.underlying t = some (.slice e)) (hi : Try.prog.info? e = some i) (ao : Option Addr) (n c q : Nat) (hs : Shp ao n c) (hq : q ≤ n) (W : World) :
    (Instr.slice t (.slice ao n c) none (some (.int .i64 (q : Int))) none).run Try.prog W = .ok (.slice ao q c) W := by
  have hc := hs.le
  have hb : (Instr.sliceBounds true n c none (some (.int .i64 (q : Int))) none).run Try.prog W = .ok (0, q, c) W := by
    simp [Instr.sliceBounds, run_sliceBound, (by omega : (0 : Int) ≤ q), (by omega : (q : Int) ≤ c)]
  simp only [Instr.slice, Sem.run_bind, run_underlying ht, Result.andThen, hb]
  simp [sizeOf, typeInfo, hi]
  rcases hs with ⟨rfl, rfl, rfl⟩ | ⟨a, rfl, _⟩
  · simp
  · simp [Addr.add]
theorem run_append_zeroG (t ty e : TypeId) (i : TypeInfo) (ht : Try.prog.underlying t = some (.slice e)) (hi : Try.prog.info? e = some i) (v : Value) (base size n : Nat) (xs : List Value) (w : World) (hv : w.ownsRow base e size v n xs) (ao : Option Addr) (c : Nat) (hc : ao = none → c = 0) :
    (Builtin.append_ #[t, t] ty #[v, .slice ao 0 c]).run Try.prog w = .ok v w := by
  rcases hv.2 with ⟨rfl, h0⟩ | ⟨g, cap, cur, rfl, _, _, hle, _⟩
  · cases ao with
    | none =>
      obtain rfl := hc rfl
      simp [Builtin.append_, run_underlying ht, sizeOf, typeInfo, hi, Builtin.lenOf, Builtin.firstCells, storeCells]
    | some a => simp [Builtin.append_, run_underlying ht, sizeOf, typeInfo, hi, Builtin.lenOf, Builtin.firstCells, storeCells, loadCells, loadCellsFrom]
  · cases ao with
    | none =>
      obtain rfl := hc rfl
      simp [Builtin.append_, run_underlying ht, sizeOf, typeInfo, hi, Builtin.lenOf, Builtin.firstCells, storeCells, hle]
    | some a => simp [Builtin.append_, run_underlying ht, sizeOf, typeInfo, hi, Builtin.lenOf, Builtin.firstCells, storeCells, loadCells, loadCellsFrom, hle]
theorem row_shp {w : World} {base : Nat} {e : TypeId} {size : Nat} {v : Value} {n : Nat} {xs : List Value} (h : w.ownsRow base e size v n xs) : ∃ ao cap, v = .slice ao n cap ∧ Shp ao n cap := by
  rcases h.2 with ⟨rfl, rfl⟩ | ⟨g, cap, cur, rfl, _, _, hle, _⟩
  · exact ⟨none, 0, rfl, .inl ⟨rfl, rfl, rfl⟩⟩
  · exact ⟨_, cap, rfl, .inr ⟨_, rfl, hle⟩⟩
section
section
variable {α : Type} [Cel α] [Inhabited α]
/-- append(own row, a slice that is read ...). -/
theorem own_appendL {t e : TypeId} {bytes : Nat} (hT : ElT α t e bytes) {ops : Array Oper} {rest : List Oper} {o : Oper} {a : Act} {Q : Exit → Act → World → Prop} {w0 wx : World} {v : Value} {xs : List α} {J : Res} [Stab J] (h : Own w0 wx (Sep (RowG e v xs) J))
    (ao : Option Addr) (m c : Nat) (l : List α) (hm : m = l.length) (hl : SlG wx ao l) (hsh : Shp ao m c) (hlen : (xs.length + l.length) * bytes ≤ 140737488351232) (h63 : xs.length + l.length ≤ 140737488351232) (hgd : o.guard = none) (s x : Operand)
    (ho : o.op = .call { callee := .builtin .append, args := #[s, x], argTypes := #[t, t] }) (hs : a.eval s = v) (hx : a.eval x = .slice ao m c)
    (k : ∀ bo n cap w', Hid (n = (xs ++ l).length) → Hid (Shp bo n cap) → Hid (Own w0 w' (Sep (RowG e (.slice bo n cap) (xs ++ l)) J)) → wpList Try.prog ops Q rest (a.put o.dst (.slice bo n cap)) w') :
    wpList Try.prog ops Q (o :: rest) a wx := by
  obtain ⟨i0, z, hi, hz0, hz1, hz2, hz3⟩ := hT.i
  subst hm
  by_cases h0 : l.length = 0
  · have hl0 : l = [] := List.length_eq_zero_iff.1 h0
    subst hl0
    obtain ⟨bo, cap, rfl, hs2⟩ := row_shp h.owns
    have hr := fun ty => run_append_zeroG t ty e i0 hT.u hi (.slice bo xs.length cap) 0 (Cel.size α) xs.length (cAll xs) wx h.owns ao c (fun e => (hsh.none e).2)
    refine wpList_plain hgd fun _ hK => ?_
    unfold Oper.wp
    simp [execOp, ho, resolve, invoke, builtin, hs, hx, hr, Result.andThen]
    exact hK _ _ (k bo xs.length cap wx (Lib.hid (by simp)) (Lib.hid hs2) (Lib.hid (by rw [List.append_nil]; exact h)))
  · rcases hsh with ⟨_, h1, _⟩ | ⟨ad, rfl, hc⟩
    · exact absurd h1 h0
    · refine wpList_append_lies (P := Try.prog) wx hgd s x t ho 0 e i0 z (Cel.size α) bytes hT.u hi hz0 hz1 hz2 hz3 Cel.pos v xs.length (cAll xs) hs h.owns ad l.length c (cAll l) hx (cAll_length l) (slg_cells hl ad rfl) (cAll_one l) (by omega) (by unfold maxLen; omega) (by omega) (Nat.zero_le _) wx.heap.size rfl ?_
      intro g cap w1 hown hgrow hat hlt
      have h5 := h.appended hown hgrow (hat.imp id (fun e => by omega))
      rw [← cAll_append] at h5
      have hn : (xs ++ l).length = xs.length + l.length := List.length_append
      have hle : xs.length + l.length ≤ cap := by
        rcases hown.2 with ⟨e, _⟩ | ⟨g', cap', cur, e, _, _, hle, _⟩
        · cases e
        · simp only [Value.slice.injEq] at e
          rw [e.2.2]; exact hle
      refine k (some ⟨g, 0, none⟩) (xs.length + l.length) cap w1 (Lib.hid hn.symm) (Lib.hid (.inr ⟨_, rfl, hle⟩)) (Lib.hid ?_)
      show Own w0 w1 (Sep (RowV e (Cel.size α) _ (xs ++ l).length _) J)
      rw [hn]
      exact h5
omit [Inhabited α] in
theorem own_fresh0 {w0 w : World} {J : Res} [Stab J] (h : Own w0 w J) (e : TypeId) : Own w0 (w.alloc (.cells #[] e)) (Sep (RowG (α := α) e (.slice (some ⟨w.heap.size, 0, none⟩) 0 0) []) J) := by
  refine h.fresh ((Only.refl _ w).alloc _) (B := fun k => k = w.heap.size) ⟨?_, fun k => ?_⟩ (fun k e => by omega)
  · exact World.ownsRow_made w #[] 0 (Nat.zero_le _) (Nat.zero_le _) (by simp)
  · simp [Value.ownBlock, eq_comm]
end
end
/-- What Clone leaves: the same in a row of one's own. -/
def CloneOut {α : Type} [Cel α] (w0 w' : World) (e : TypeId) (l : List α) (J : Res) (r : Ending) : Prop := ∃ bo cap, r = .returned (.slice bo l.length cap) ∧ Hid (Shp bo l.length cap) ∧ Own w0 w' (Sep (RowG e (.slice bo l.length cap) l) J)
/-! ### Clone -/
theorem Own.blkT {w0 w : World} {g : Nat} {o : Obj} {J : Res} (h : Own w0 w (Sep (Blk g o) J)) : w.heap[g]? = some o := by
  obtain ⟨F, ⟨A, B, hA, _⟩, _⟩ := h
  exact hA.1
/-- A cell of a slice of one's own is turned. -/
theorem Own.rowSet {w0 w : World} {e : TypeId} {size : Nat} {g n cap : Nat} {xs : List Value} {J : Res} [Stab J] (h : Own w0 w (Sep (RowV e size (.slice (some ⟨g, 0, none⟩) n cap) n xs) J)) {j : Nat} (hj : j < xs.length) (u : Value) :
    Own w0 (w.setCell ⟨g, j, none⟩ u) (Sep (RowV e size (.slice (some ⟨g, 0, none⟩) n cap) n (xs.set j u)) J) := by
  obtain ⟨F, ⟨A, B, ⟨hA, hAF⟩, hB, hd, hF⟩, h2, h3⟩ := h
  have hAg : A g := (hAF g).2 (by simp [Value.ownBlock])
  refine ⟨F, ⟨A, B, ⟨?_, hAF⟩, Stab.keep hB (fun k hk => Below.heap_setCell _ _ _ _ (fun e => hd g hAg (by have e : k = g := e; rwa [e] at hk))), hd, hF⟩, h2, h3.setCell (fun hlt => ?_) u⟩
  · refine ⟨by simpa using hA.1, .inr ?_⟩
    rcases hA.2 with ⟨e1, _⟩ | ⟨g', cap', cur, e1, hb, hg, hle, hmx, hsz, ht⟩
    · simp at e1
    · simp at e1
      obtain ⟨rfl, rfl⟩ := e1
      refine ⟨g, cap, cur.setIfInBounds j u, rfl, Nat.zero_le _, heap_set hg j u, hle, hmx, by simpa using hsz, ?_⟩
      have hx := hA.1
      rw [Array.toList_setIfInBounds, List.take_set, ht]
  · have := h2 g ((hF g).2 (.inl hAg))
    exact absurd hlt (by simp; omega)
theorem cAll_hd_set : ∀ (l : List Hd) (k : Nat) (u : Hd), (cAll l).set k (.slice u.ao u.n u.c) = cAll (l.set k u)
  | [], k, u => by cases k <;> rfl
  | c :: l, 0, u => rfl
  | c :: l, k + 1, u => by
    show (Value.slice c.ao c.n c.c :: cAll l).set (k + 1) _ = Value.slice c.ao c.n c.c :: cAll (l.set k u)
    rw [List.set_cons_succ, cAll_hd_set l k u]
theorem Own.beside {w0 w w' : World} {I J : Res} [Stab J] (h : Own w0 w J) (k : Own w w' (Sep I Emp)) : Own w0 w' (Sep I J) := by
  obtain ⟨F, ⟨A, B, hA, hB, hd, hF⟩, k2, k3⟩ := k
  exact h.fresh k3 hA (fun i hi => k2 i ((hF i).2 (.inl hi)))
/-- What an append of one element to a slice of one's own leaves, in a region that draws its order. -/
theorem step_appG {α : Type} [Cel α] {t e : TypeId} {bytes : Nat} (hT : ElT α t e bytes) {ops : Array Oper} {o : Oper} {a : Act} {K : Act → World → Prop} {Q : Exit → Act → World → Prop} {E : Prop} {w0 wx : World} {v : Value} {xs : List α} {J : Res} [Stab J] (h : Own w0 wx (Sep (RowG e v xs) J)) (m : α) (c : Nat)
    (hlen : (xs.length + 1) * bytes ≤ 140737488351232) (h63 : xs.length + 1 ≤ 140737488351232) (hgd : o.guard = none) (s x : Operand) (ho : o.op = .call { callee := .builtin .append, args := #[s, x], argTypes := #[t, t] })
    (hs : a.eval s = v) (cs : Array Value) (hcs : cs.toList = Cel.cells m) (hx : a.eval x = .slice (some ⟨wx.heap.size, 0, none⟩) 1 c)
    (k : ∀ g cap n w', Hid (n = (xs ++ [m]).length) → Hid (n ≤ cap) → Hid (Own w0 w' (Sep (RowG e (.slice (some ⟨g, 0, none⟩) n cap) (xs ++ [m])) J)) → K (a.put o.dst (.slice (some ⟨g, 0, none⟩) n cap)) w') :
    if Region.wanted o (yielded ops a.tmps) = true then Oper.wp Try.prog o a (wx.alloc (.cells cs e)) K Q else E := by
  obtain ⟨i0, z, hi, hz0, hz1, hz2, hz3⟩ := hT.i
  have HA := (h.alloc (.cells cs e)).snd
  have hcq : ∀ j u, (Cel.cells m)[j]? = some u → (wx.alloc (.cells cs e)).cell? ((⟨wx.heap.size, 0, none⟩ : Addr).add j) = some u := by
    rw [← hcs]
    exact World.news_of_block (B := wx.heap.size) (heap_alloc_new wx _)
  refine step_append_lies (P := Try.prog) (wx.alloc (.cells cs e)) hgd s x t ho 0 e i0 z (Cel.size α) bytes hT.u hi hz0 hz1 hz2 hz3 Cel.pos v xs.length (cAll xs) hs
    HA.owns ⟨wx.heap.size, 0, none⟩ 1 c (Cel.cells m) hx (by rw [Cel.len, Nat.one_mul]) hcq (Cel.one m) (Nat.le_refl _) (by unfold maxLen; omega) (by omega) (Nat.zero_le _) (wx.heap.size + 1) (by simp) ?_
  intro g cap w1 hown hgrow hat hlt
  have he : cAll xs ++ Cel.cells m = cAll (xs ++ [m]) := by rw [cAll_append]; simp [cAll]
  have h5 := HA.appended hown hgrow (hat.imp id (fun e => by simp; omega))
  rw [he] at h5
  have hle : xs.length + 1 ≤ cap := by
    rcases hown.2 with ⟨e, _⟩ | ⟨g', cap', cur, e, _, _, hle, _⟩
    · cases e
    · simp only [Value.slice.injEq] at e
      rw [e.2.2]; exact hle
  refine k g cap (xs.length + 1) w1 (Lib.hid (by simp)) (Lib.hid hle) (Lib.hid ?_)
  have hn : (xs ++ [m]).length = xs.length + 1 := by simp
  show Own w0 w1 (Sep (RowV e (Cel.size α) _ (xs ++ [m]).length _) J)
  rw [hn]
  exact h5
theorem rowg_nil {α : Type} [Cel α] (w : World) (e : TypeId) : w.ownsRow 0 e (Cel.size α) (.slice none 0 0) ([] : List α).length (cAll ([] : List α)) := ⟨by simp [cAll], .inl ⟨rfl, rfl⟩⟩
theorem Own.rnil {α : Type} [Cel α] {w0 w : World} {J : Res} [Stab J] (h : Own w0 w J) (e : TypeId) : Own w0 w (Sep (RowG e (.slice none 0 0) ([] : List α)) J) :=
  h.fresh (Only.refl _ _) (B := fun _ => False) ⟨rowg_nil w e, fun k => by simp [Value.ownBlock]⟩ (fun k hk => hk.elim)
/-- The back of a slice. -/
theorem slice_back {α : Type} [Cel α] [Inhabited α] {t e : TypeId} {bytes : Nat} (hT : ElT α t e bytes) {ao : Option Addr} {n c q : Nat} (hs : Shp ao n c) (hq : q ≤ n) :
    ∃ bo, (∀ W, (Instr.slice t (.slice ao n c) (some (.int .i64 (q : Int))) none none).run Try.prog W = .ok (.slice bo (n - q) (c - q)) W) ∧ Shp bo (n - q) (c - q) ∧
      ∀ (W : World) (l : List α), l.length = n → SlG W ao l → SlG W bo (l.drop q) := by
  obtain ⟨i, z, hi, _, hsz, _⟩ := hT.i
  have hc := hs.le
  have hbd : ∀ W, (Instr.sliceBounds true n c (some (.int .i64 (q : Int))) none none).run Try.prog W = .ok (q, n, c) W := fun W => by
    simp [Instr.sliceBounds, run_sliceBound, (by omega : (0 : Int) ≤ q), (by omega : (q : Int) ≤ c), (by omega : (q : Int) ≤ n), (by omega : (n : Int) ≤ c)]
  rcases hs with ⟨rfl, rfl, rfl⟩ | ⟨⟨g, off, sp⟩, rfl, hnc⟩
  · obtain rfl : q = 0 := by omega
    refine ⟨none, fun W => ?_, .inl ⟨rfl, rfl, rfl⟩, fun W l hl h => by rw [List.drop_zero]; exact h⟩
    simp only [Instr.slice, Sem.run_bind, run_underlying hT.u, Result.andThen, hbd]
    simp [sizeOf, typeInfo, hi]
  · by_cases h : q < c
    · refine ⟨some ((⟨g, off, sp⟩ : Addr).add (q * Cel.size α)), fun W => ?_, .inr ⟨_, rfl, by omega⟩, fun W l hl hs => ?_⟩
      · simp only [Instr.slice, Sem.run_bind, run_underlying hT.u, Result.andThen, hbd]
        simp [sizeOf, typeInfo, hi, hsz, Addr.add, h]
        intro hcq
        omega
      · intro j hj
        rw [List.length_drop] at hj
        obtain ⟨g2, off2, h1, h2⟩ := hs (q + j) (by omega)
        simp only [Option.some.injEq, Addr.mk.injEq] at h1
        obtain ⟨rfl, rfl, rfl⟩ := h1
        rw [add_lit]
        refine ⟨g, off + q * Cel.size α, rfl, fun i hi => ?_⟩
        rw [show (l.drop q).getD j default = l.getD (q + j) default by simp [List.getD_eq_getElem?_getD, List.getElem?_drop], ← h2 i hi, Nat.add_mul]
        congr 2
        omega
    · refine ⟨some ⟨g, off, sp⟩, fun W => ?_, .inr ⟨_, rfl, by omega⟩, fun W l hl hs j hj => ?_⟩
      · simp only [Instr.slice, Sem.run_bind, run_underlying hT.u, Result.andThen, hbd]
        simp [sizeOf, typeInfo, hi, hsz, Addr.add, h]
        intros
        omega
      · simp at hj; omega
theorem shp_own {α : Type} [Cel α] {w0 w : World} {e : TypeId} {ao : Option Addr} {n c : Nat} {l : List α} {J : Res} (h : Own w0 w (Sep (RowG e (.slice ao n c) l) J)) : Shp ao l.length c ∧ n = l.length := by
  obtain ⟨bo, cap, e1, e2⟩ := row_shp h.owns
  simp only [Value.slice.injEq] at e1
  obtain ⟨rfl, rfl, rfl⟩ := e1
  exact ⟨e2, rfl⟩
theorem own_nu_at {w0 w : World} {g n cap : Nat} {xs : List Int} {J : Res} (h : Own w0 w (Sep (RowG 34 (.slice (some ⟨g, 0, none⟩) n cap) xs) J)) {k : Nat} (hk : k < xs.length) : w.cell? ⟨g, k, none⟩ = some (.int .u64 (xs.getD k default)) := by
  have hown := h.owns
  have hl : (cAll xs).length = xs.length := by rw [cAll_length]; show xs.length * 1 = _; omega
  rcases hown.2 with ⟨e, h0⟩ | ⟨g', cap', cur, e, _, hg, _⟩
  · cases e
  · simp only [Value.slice.injEq, Option.some.injEq, Addr.mk.injEq, and_true] at e
    obtain ⟨rfl, rfl, rfl⟩ := e
    have := hown.cellAt k (by show k < xs.length * 1; omega)
    rw [this]
    have h1 := cAll_at xs k 0 hk (by decide)
    rw [show k * Cel.size Int + 0 = k from by show k * 1 + 0 = _; omega] at h1
    exact h1
theorem own_nu_get {w0 w : World} {ao : Option Addr} {n cap : Nat} {xs : List Int} {J : Res} (h : Own w0 w (Sep (RowG 34 (.slice ao n cap) xs) J)) {k : Nat} (hk : k < xs.length) :
    ∃ g, ao = some ⟨g, 0, none⟩ ∧ w.cell? ⟨g, k, none⟩ = some (.int .u64 (xs.getD k default)) := by
  have hl : (cAll xs).length = xs.length := by rw [cAll_length]; show xs.length * 1 = _; omega
  have hown := h.owns
  rcases hown.2 with ⟨e, h0⟩ | ⟨g, cap', cur, e, _, hg, _⟩
  · omega
  · simp only [Value.slice.injEq] at e
    obtain ⟨rfl, rfl, rfl⟩ := e
    exact ⟨g, rfl, own_nu_at h hk⟩
theorem run_copy_rowN {P : Program} (w : World) (dT sT ty elem : TypeId) (sz : Nat) (g o dLen dCap : Nat) (a : Addr) (sLen sCap : Nat) (cur : Array Value) (t : TypeId) (cs : List Value)
    (hu : P.underlying dT = some (.slice elem)) (hs : (P.info? elem).map (·.size) = some sz)
    (hg : w.heap[g]? = some (.cells cur t (0, 0))) (hn : cs.length = Nat.min sLen dLen * sz)
    (hsrc : ∀ j v, cs[j]? = some v → w.cell? (a.add j) = some v) (hfit : o + cs.length ≤ cur.size) (h1 : ∀ v ∈ cs, v.oneCell' = true) :
    (Builtin.copy_ #[dT, sT] ty #[.slice (some ⟨g, o, none⟩) dLen dCap, .slice (some a) sLen sCap]).run P w =
      .ok (goInt (Nat.min sLen dLen)) (w.setRow g (cur.toList.take o ++ cs ++ cur.toList.drop (o + cs.length)).toArray) := by
  have hl := run_loadCells_list (P := P) w a cs hsrc
  have hst := run_storeCells_at P g o t cs 0 cur w hg (by simpa using hfit) h1
  cases hq : P.info? elem with
  | none => simp [hq] at hs
  | some i =>
    have hi : i.size = sz := by simpa [hq] using hs
    simp [Builtin.copy_, run_underlying hu, Builtin.lenOf, Builtin.firstCells, sizeOf, typeInfo, hq, hi, ← hn, hl, hst]
/-- A slice's elements are cleared. -/
theorem run_clear_sliceN {P : Program} (w : World) (t e ty : TypeId) (z : Value) (ht : P.underlying t = some (.slice e)) (hv : ∀ w, (zeroValue e).run P w = .ok z w) (g o n c : Nat) (cur : Array Value) (tt : TypeId) (hg : w.heap[g]? = some (.cells cur tt (0, 0)))
    (cs : List Value) (hcs : (Builtin.zeroCells z.cells n).toList = cs) (hfit : o + cs.length ≤ cur.size) (h1 : ∀ v ∈ cs, v.oneCell' = true) :
    (Builtin.clear_ #[t] ty #[.slice (some ⟨g, o, none⟩) n c]).run P w = .ok (.tuple #[]) (if n = 0 then w else w.setRow g (cur.toList.take o ++ cs ++ cur.toList.drop (o + cs.length)).toArray) := by
  have hst := run_storeCells_at P g o tt cs 0 cur w hg (by simpa using hfit) h1
  rcases Nat.eq_zero_or_pos n with h0 | h0
  · subst h0
    simp [Builtin.clear_, run_underlying ht, hv]
  · obtain ⟨m, rfl⟩ : ∃ m, n = m + 1 := ⟨n - 1, by omega⟩
    simp only [Nat.add_zero] at hst
    simp [Builtin.clear_, run_underlying ht, hv, hcs, hst]
section
variable {α : Type} [Cel α] {w0 w : World} {e : TypeId} {g n cap : Nat} {l : List α} {J : Res}
theorem Own.openRow (h : Own w0 w (Sep (RowG e (.slice (some ⟨g, 0, none⟩) n cap) l) J)) :
    ∃ cur : Array Value, n = l.length ∧ n ≤ cap ∧ cap ≤ maxLen ∧ cur.size = cap * Cel.size α ∧ cur.toList.take (l.length * Cel.size α) = cAll l ∧ Own w0 w (Sep (Blk g (.cells cur e (0, 0))) J) := by
  obtain ⟨F, ⟨A, B, ⟨hA, hAF⟩, hB, hd, hF⟩, h2, h3⟩ := h
  rcases hA.2 with ⟨e1, _⟩ | ⟨g', cap', cur, e1, hb, hg, hle, hmx, hsz, ht⟩
  · cases e1
  · simp only [Value.slice.injEq, Option.some.injEq, Addr.mk.injEq, and_true] at e1
    obtain ⟨rfl, rfl, rfl⟩ := e1
    refine ⟨cur, rfl, hle, hmx, hsz, ht, F, ⟨A, B, ⟨hg, fun k => ?_⟩, hB, hd, hF⟩, h2, h3⟩
    rw [hAF k]
    simp [Value.ownBlock, eq_comm]
theorem Own.shutRow {cur : Array Value} (h : Own w0 w (Sep (Blk g (.cells cur e (0, 0))) J)) (h1 : l.length ≤ cap) (h2 : cap ≤ maxLen) (h3 : cur.size = cap * Cel.size α) (h4 : cur.toList.take (l.length * Cel.size α) = cAll l) :
    Own w0 w (Sep (RowG e (.slice (some ⟨g, 0, none⟩) l.length cap) l) J) := by
  obtain ⟨F, ⟨A, B, hA, hB, hd, hF⟩, k2, k3⟩ := h
  refine ⟨F, ⟨A, B, ⟨⟨cAll_length l, .inr ⟨g, cap, cur, rfl, Nat.zero_le _, hA.1, h1, h2, h3, h4⟩⟩, fun k => ?_⟩, hB, hd, hF⟩, k2, k3⟩
  rw [hA.2 k]
  simp [Value.ownBlock, eq_comm]
end
theorem Own.setRow {w0 w : World} {g : Nat} {e : TypeId} {cur : Array Value} {J : Res} [Stab J] (h : Own w0 w (Sep (Blk g (.cells cur e (0, 0))) J)) (cs : Array Value) : Own w0 (w.setRow g cs) (Sep (Blk g (.cells cs e (0, 0))) J) := by
  obtain ⟨F, ⟨A, B, hA, hB, hd, hF⟩, k2, k3⟩ := h
  have hk : A g := (hA.2 g).2 rfl
  have hsz : (w.setRow g cs).heap.size = w.heap.size := by simp [World.setRow]
  refine ⟨F, ⟨A, B, ⟨setRow_heap w g cur cs e (0, 0) hA.1, hA.2⟩, Stab.keep hB (fun k hk2 => setRow_other w g k cs (fun e => hd g hk (by rw [← e]; exact hk2))), hd, hF⟩, k2, ?_⟩
  have hg : w0.heap.size ≤ g := k2 g ((hF g).2 (.inl hk))
  exact ⟨k3.os, k3.tape, k3.output, by rw [hsz]; exact k3.size, fun k hk hs => (setRow_other w g k cs (by omega)).trans (k3.block k hk hs)⟩
theorem setCells_row (g : Nat) (t : TypeId) : ∀ (vs : List Value) (o : Nat) (cur : Array Value) (w : World), w.heap[g]? = some (.cells cur t (0, 0)) → o + vs.length ≤ cur.size →
    w.setCells g o vs = w.setRow g (cur.toList.take o ++ vs ++ cur.toList.drop (o + vs.length)).toArray
  | [], o, cur, w, hg, _ => by
    simp only [World.setCells, List.append_nil, List.length_nil, Nat.add_zero, List.take_append_drop, Array.toArray_toList]
    rw [setRow_self w g cur t (0, 0) hg]
  | v :: rest, o, cur, w, hg, hl => by
    have ih := setCells_row g t rest (o + 1) (cur.setIfInBounds o v) (w.setRow g (cur.setIfInBounds o v)) (setRow_heap w g cur _ t _ hg) (by simp at hl ⊢; omega)
    rw [World.setCells, setCell_eq_setRow w g o cur t (0, 0) v hg, ih, setRow_setRow]
    congr 2
    have e := list_seg_step cur.toList o v rest (by simp at hl ⊢; omega)
    simpa [Array.toList_setIfInBounds, Nat.add_assoc] using e

section
variable {α : Type} [Cel α] [Inhabited α]
omit [Inhabited α] in
theorem cAll_take (l : List α) (i : Nat) : (cAll l).take (i * Cel.size α) = cAll (l.take i) := by
  by_cases h : i ≤ l.length
  · have e : cAll l = cAll (l.take i) ++ cAll (l.drop i) := by rw [← cAll_append, List.take_append_drop]
    rw [e, List.take_append_of_le_length (by rw [cAll_length, List.length_take, Nat.min_eq_left h]; exact Nat.le_refl _), List.take_of_length_le (by rw [cAll_length, List.length_take, Nat.min_eq_left h]; exact Nat.le_refl _)]
  · rw [List.take_of_length_le (by rw [cAll_length]; exact Nat.mul_le_mul_right _ (by omega)), List.take_of_length_le (by omega)]
end
/-- A slice up to its capacity. -/
theorem slice_cap {α : Type} [Cel α] {t e : TypeId} {bytes : Nat} (hT : ElT α t e bytes) {g m cap a b : Nat} (hab : a ≤ b) (hb : b ≤ cap) (ha : a < cap) (W : World) :
    (Instr.slice t (.slice (some ⟨g, 0, none⟩) m cap) (some (.int .i64 (a : Int))) (some (.int .i64 (b : Int))) none).run Try.prog W = .ok (.slice (some ⟨g, a * Cel.size α, none⟩) (b - a) (cap - a)) W := by
  obtain ⟨i, z, hi, _, hsz, _⟩ := hT.i
  have hbd : (Instr.sliceBounds true m cap (some (.int .i64 (a : Int))) (some (.int .i64 (b : Int))) none).run Try.prog W = .ok (a, b, cap) W := by
    simp [Instr.sliceBounds, run_sliceBound, (by omega : (0 : Int) ≤ a), (by omega : (a : Int) ≤ b), (by omega : (0 : Int) ≤ b), (by omega : (b : Int) ≤ cap)]
  simp only [Instr.slice, Sem.run_bind, run_underlying hT.u, Result.andThen, hbd]
  simp [sizeOf, typeInfo, hi, hsz, Addr.add, ha]
  rw [if_neg (by omega)]
  congr 1
  split
  · rw [show a * Cel.size α = 0 from by assumption]
  · rfl
theorem slice_3 {α : Type} [Cel α] {t e : TypeId} {bytes : Nat} (hT : ElT α t e bytes) {g m cap a b : Nat} (hab : a ≤ b) (hb : b ≤ m) (hm : m ≤ cap) :
    ∃ v, ∀ W, (Instr.slice t (.slice (some ⟨g, 0, none⟩) m cap) (some (.int .i64 (a : Int))) (some (.int .i64 (b : Int))) (some (.int .i64 (m : Int)))).run Try.prog W = .ok v W := by
  obtain ⟨i, z, hi, _, hsz, _⟩ := hT.i
  have hbd : ∀ W, (Instr.sliceBounds true m cap (some (.int .i64 (a : Int))) (some (.int .i64 (b : Int))) (some (.int .i64 (m : Int)))).run Try.prog W = .ok (a, b, m) W := fun W => by
    simp [Instr.sliceBounds, run_sliceBound, (by omega : (0 : Int) ≤ a), (by omega : (a : Int) ≤ b), (by omega : (0 : Int) ≤ b), (by omega : (b : Int) ≤ m), (by omega : (0 : Int) ≤ m), (by omega : (m : Int) ≤ cap)]
  by_cases h : a < m
  · refine ⟨.slice (some ((⟨g, 0, none⟩ : Addr).add (a * Cel.size α))) (b - a) (m - a), fun W => ?_⟩
    simp only [Instr.slice, Sem.run_bind, run_underlying hT.u, Result.andThen, hbd]
    simp [sizeOf, typeInfo, hi, hsz, Addr.add, h]
    try (intro h2; omega)
  · refine ⟨.slice (some ⟨g, 0, none⟩) (b - a) (m - a), fun W => ?_⟩
    simp only [Instr.slice, Sem.run_bind, run_underlying hT.u, Result.andThen, hbd]
    simp [sizeOf, typeInfo, hi, hsz, Addr.add, h]
    intros
    omega

def spl (cur : List Value) (o : Nat) (cs : List Value) : List Value := cur.take o ++ (cs ++ cur.drop (o + cs.length))
theorem spl_len {cur : List Value} {o : Nat} {cs : List Value} (h : o + cs.length ≤ cur.length) : (spl cur o cs).length = cur.length := by
  unfold spl
  simp only [List.length_append, List.length_take, List.length_drop]
  omega
theorem spl_front {cur : List Value} {o : Nat} {cs : List Value} (h : o ≤ cur.length) {k : Nat} (hk : k = o + cs.length) : (spl cur o cs).take k = cur.take o ++ cs := by
  subst hk
  unfold spl
  rw [← List.append_assoc, List.take_append_of_le_length (by simp; omega), List.take_of_length_le (by simp; omega)]
theorem spl_below {cur : List Value} {o : Nat} {cs : List Value} {n : Nat} (h : n ≤ o) (h2 : o ≤ cur.length) : (spl cur o cs).take n = cur.take n := by
  unfold spl
  rw [List.take_append_of_le_length (by simp; omega), List.take_take, Nat.min_eq_left h]
theorem spl_nil (cur : List Value) (o : Nat) : spl cur o [] = cur := by unfold spl; simp
theorem spl_at {cur : List Value} {o : Nat} {cs : List Value} (h : o + cs.length ≤ cur.length) {j : Nat} (hj : o + cs.length ≤ j) : (spl cur o cs)[j]? = cur[j]? := by
  unfold spl
  rw [List.getElem?_append_right (by simp; omega), List.getElem?_append_right (by simp; omega), List.getElem?_drop]
  congr 1
  simp
  omega
theorem spl_at0 {cur : List Value} {o : Nat} {cs : List Value} (h : o + cs.length ≤ cur.length) {j : Nat} (hj : j < o) : (spl cur o cs)[j]? = cur[j]? := by
  unfold spl
  rw [List.getElem?_append_left (by simp; omega), List.getElem?_take, if_pos hj]
/-- What stood behind goes further back, then what is new comes between. -/
theorem spl_shift {cur A V B : List Value} (h : cur.take A.length = A) (hfit : A.length + V.length + B.length ≤ cur.length) {o k : Nat} (ho : o = A.length + V.length) (hk : k = A.length + V.length + B.length) : (spl (spl cur o B) A.length V).take k = A ++ (V ++ B) := by
  subst ho hk
  have h1 : (spl cur (A.length + V.length) B).length = cur.length := spl_len (by omega)
  have h2 : (spl cur (A.length + V.length) B).take (A.length + V.length + B.length) = cur.take (A.length + V.length) ++ B := spl_front (by omega) rfl
  have h3 : (spl cur (A.length + V.length) B).take A.length = A := by rw [spl_below (by omega) (by omega), h]
  generalize spl cur (A.length + V.length) B = X at *
  unfold spl
  rw [h3, ← List.append_assoc, ← List.append_assoc, List.take_append, List.take_of_length_le (by simp)]
  congr 1
  rw [List.length_append, show A.length + V.length + B.length - (A.length + V.length) = B.length by omega, List.take_drop, h2]
  rw [List.drop_append, List.drop_of_length_le (by rw [List.length_take]; omega), List.nil_append, List.length_take, Nat.min_eq_left (by omega), Nat.sub_self, List.drop_zero]
/-- What is new comes first, then what stands behind it. -/
theorem spl_two {cur A V B : List Value} (h : cur.take A.length = A) (hfit : A.length + V.length + B.length ≤ cur.length) {o k : Nat} (ho : o = A.length + V.length) (hk : k = A.length + V.length + B.length) : (spl (spl cur A.length V) o B).take k = A ++ (V ++ B) := by
  subst ho hk
  have h1 : (spl cur A.length V).length = cur.length := spl_len (by omega)
  have h2 : (spl cur A.length V).take (A.length + V.length) = A ++ V := by rw [spl_front (by omega) rfl, h]
  rw [spl_front (by omega) rfl, h2, List.append_assoc]

section
variable {α : Type} [Cel α]
theorem cAll_drop (l : List α) (i : Nat) : (cAll l).drop (i * Cel.size α) = cAll (l.drop i) := by
  by_cases h : i ≤ l.length
  · have e : cAll l = cAll (l.take i) ++ cAll (l.drop i) := by rw [← cAll_append, List.take_append_drop]
    rw [e, List.drop_append, List.drop_of_length_le (by rw [cAll_length, List.length_take, Nat.min_eq_left h]; exact Nat.le_refl _), List.nil_append, cAll_length, List.length_take, Nat.min_eq_left h, Nat.sub_self, List.drop_zero]
  · rw [List.drop_of_length_le (by rw [cAll_length]; exact Nat.mul_le_mul_right _ (by omega)), List.drop_of_length_le (l := l) (by omega)]
    rfl
theorem run_copy_none {P : Program} (w : World) (dT sT ty elem : TypeId) (hu : P.underlying dT = some (.slice elem)) (i : TypeInfo) (hi : P.info? elem = some i) (g o dLen dCap : Nat) (so : Option Addr) (sCap : Nat) :
    (Builtin.copy_ #[dT, sT] ty #[.slice (some ⟨g, o, none⟩) dLen dCap, .slice so 0 sCap]).run P w = .ok (goInt 0) w := by
  cases so with
  | none => simp [Builtin.copy_, run_underlying hu, Builtin.lenOf, Builtin.firstCells, sizeOf, typeInfo, hi, storeCells, loadCells]
  | some a => simp [Builtin.copy_, run_underlying hu, Builtin.lenOf, Builtin.firstCells, sizeOf, typeInfo, hi, storeCells, loadCells, loadCellsFrom]
/-- copy into a row that is opened: from what is read, or from the row itself. -/
theorem run_copyG {t e : TypeId} {bytes : Nat} (hT : ElT α t e bytes) {w0 wx : World} {g : Nat} {cur : Array Value} {J : Res} [Stab J] (h : Own w0 wx (Sep (Blk g (.cells cur e (0, 0))) J)) (ty : TypeId) (off dLen dCap : Nat) (so : Option Addr) (sLen sCap : Nat) (l : List α) (hn : l.length = min sLen dLen)
    (hsrc : l ≠ [] → ∃ ad, so = some ad ∧ ∀ j v, (cAll l)[j]? = some v → wx.cell? (ad.add j) = some v) (hz : l = [] → sLen = 0) (hfit : off + (cAll l).length ≤ cur.size) :
    ∃ w', (Builtin.copy_ #[t, t] ty #[.slice (some ⟨g, off, none⟩) dLen dCap, .slice so sLen sCap]).run Try.prog wx = .ok (goInt l.length) w' ∧ Own w0 w' (Sep (Blk g (.cells (spl cur.toList off (cAll l)).toArray e (0, 0))) J) := by
  obtain ⟨i0, z, hi0, hz0, hz1, hz2, hz3⟩ := hT.i
  by_cases hl : l = []
  · subst hl
    obtain rfl := hz rfl
    refine ⟨wx, run_copy_none wx t t ty e hT.u i0 hi0 g off dLen dCap so sCap, ?_⟩
    show Own w0 wx (Sep (Blk g (.cells (spl cur.toList off []).toArray e (0, 0))) J)
    rw [spl_nil]
    exact h
  · obtain ⟨ad, rfl, hc⟩ := hsrc hl
    have hrun := run_copy_rowN (P := Try.prog) wx t t ty e (Cel.size α) g off dLen dCap ad sLen sCap cur e (cAll l) hT.u (by rw [hi0]; simp [hz1]) h.blkT (by rw [cAll_length, hn]) hc hfit (cAll_one l)
    refine ⟨_, by rw [hn]; exact hrun, ?_⟩
    have := h.setRow (spl cur.toList off (cAll l)).toArray
    unfold spl at this ⊢
    rw [List.append_assoc]
    exact this
end
theorem wp_copy_run {P : Program} (w : World) {o : Oper} {a : Act} {K : Act → World → Prop} {Q : Exit → Act → World → Prop} (d s : Operand) (t t' : TypeId)
    (ho : o.op = .call { callee := .builtin .copy, args := #[d, s], argTypes := #[t, t'] }) (v u : Value) (hd : a.eval d = v) (hs : a.eval s = u) {v' : Value} {w' : World}
    (hr : (Builtin.copy_ #[t, t'] o.type #[v, u]).run P w = .ok v' w') (h : K (a.put o.dst v') w') : o.wp P a w K Q := by
  unfold Oper.wp execOp
  simp only [ho, resolve, invoke, builtin, Sem.run_bind, Sem.run_pure, Result.andThen_ok, List.map_toArray, List.map_cons, List.map_nil, hd, hs, hr]
  exact h
theorem wpList_copy_run {P : Program} (w : World) {ops : Array Oper} {rest : List Oper} {o : Oper} {a : Act} {Q : Exit → Act → World → Prop} (hgd : o.guard = none) (d s : Operand) (t t' : TypeId)
    (ho : o.op = .call { callee := .builtin .copy, args := #[d, s], argTypes := #[t, t'] }) (v u : Value) (hd : a.eval d = v) (hs : a.eval s = u) {v' : Value} {w' : World}
    (hr : (Builtin.copy_ #[t, t'] o.type #[v, u]).run P w = .ok v' w') (h : wpList P ops Q rest (a.put o.dst v') w') : wpList P ops Q (o :: rest) a w :=
  wpList_plain hgd fun _ hK => wp_copy_run w d s t t' ho v u hd hs hr (hK _ _ h)
theorem step_copy_run {P : Program} {ops : Array Oper} {o : Oper} {a : Act} {w : World} {K : Act → World → Prop} {Q : Exit → Act → World → Prop} {E : Prop}
    (hg : o.guard = none) (d x : Operand) (dT sT : TypeId) (hop : o.op = Op.call { callee := Callee.builtin Builtin.copy, args := #[d, x], argTypes := #[dT, sT] })
    (v u : Value) (hd : a.eval d = v) (hx : a.eval x = u) {v' : Value} {w' : World} (hr : (Builtin.copy_ #[dT, sT] o.type #[v, u]).run P w = .ok v' w') (hK : K (a.put o.dst v') w') :
    if Region.wanted o (yielded ops a.tmps) = true then Oper.wp P o a w K Q else E := by
  have hw : Region.wanted o (yielded ops a.tmps) = true := by simp [Region.wanted, hg]
  rw [if_pos hw]
  unfold Oper.wp
  simp [execOp, hop, resolve, invoke, builtin, hd, hx, hr, Result.andThen]
  exact hK

theorem zero_size (z : Value) (k : Nat) : (Builtin.zeroCells z.cells k).size = k * z.cells.size := by simp [Builtin.zeroCells]
section
variable {α : Type} [Cel α] {t e : TypeId} {bytes : Nat}
theorem slice_from (hT : ElT α t e bytes) {g m cap a : Nat} (ha : a < cap) (ham : a ≤ m) (hm : m ≤ cap) (W : World) :
    (Instr.slice t (.slice (some ⟨g, 0, none⟩) m cap) (some (.int .i64 (a : Int))) none none).run Try.prog W = .ok (.slice (some ⟨g, a * Cel.size α, none⟩) (m - a) (cap - a)) W := by
  obtain ⟨i, z, hi, _, hsz, _⟩ := hT.i
  have hbd : (Instr.sliceBounds true m cap (some (.int .i64 (a : Int))) none none).run Try.prog W = .ok (a, m, cap) W := by
    simp [Instr.sliceBounds, run_sliceBound, (by omega : (0 : Int) ≤ a), (by omega : (a : Int) ≤ cap), (by omega : (a : Int) ≤ m), (by omega : (m : Int) ≤ cap)]
  simp only [Instr.slice, Sem.run_bind, run_underlying hT.u, Result.andThen, hbd]
  simp [sizeOf, typeInfo, hi, hsz, Addr.add, ha]
  rw [if_neg (by omega)]
  congr 1
  split
  · rw [show a * Cel.size α = 0 from by assumption]
  · rfl
theorem slice_upto (hT : ElT α t e bytes) {g m cap b : Nat} (hb : b ≤ cap) (hm : m ≤ cap) (W : World) :
    (Instr.slice t (.slice (some ⟨g, 0, none⟩) m cap) none (some (.int .i64 (b : Int))) none).run Try.prog W = .ok (.slice (some ⟨g, 0, none⟩) b cap) W := by
  obtain ⟨i, z, hi, _, hsz, _⟩ := hT.i
  have hbd : (Instr.sliceBounds true m cap none (some (.int .i64 (b : Int))) none).run Try.prog W = .ok (0, b, cap) W := by
    simp [Instr.sliceBounds, run_sliceBound, (by omega : (0 : Int) ≤ b), (by omega : (b : Int) ≤ cap), (by omega : (m : Int) ≤ cap)]
  simp only [Instr.slice, Sem.run_bind, run_underlying hT.u, Result.andThen, hbd]
  simp [sizeOf, typeInfo, hi, hsz, Addr.add]
/-- What stands from a place on, in a row that is opened, may be read. -/
theorem row_src {W : World} {g : Nat} {c : Array Value} {cur : List Value} {tt : TypeId} {l : List α} (hg : W.heap[g]? = some (.cells c tt (0, 0))) {i : Nat} (hc : ∀ k, i * Cel.size α ≤ k → c[k]? = cur[k]?) (ht : cur.take (l.length * Cel.size α) = cAll l) :
    ∀ (j : Nat) (u : Value), (cAll (l.drop i))[j]? = some u → W.cell? ((⟨g, i * Cel.size α, none⟩ : Addr).add j) = some u := fun j u hj => by
  rw [← cAll_drop, ← ht, List.getElem?_drop, List.getElem?_take] at hj
  split at hj
  · rw [add_lit]
    simp only [World.cell?, hg]
    have := hc (i * Cel.size α + j) (by omega)
    rw [hj] at this
    simpa using this
  · cases hj
end
theorem zero_one {z : Value} (hz : z.cells = #[z]) (h1 : z.oneCell' = true) (k : Nat) : ∀ v ∈ (Builtin.zeroCells z.cells k).toList, v.oneCell' = true := by
  intro v hv
  rw [hz] at hv
  simp [Builtin.zeroCells, Nat.mod_one] at hv
  obtain ⟨_, _, rfl⟩ := hv
  exact h1
section
variable {α : Type} [Cel α] {t e : TypeId} {bytes : Nat}
/-- append(s[:i], v...) where there is room: in place. -/
theorem over_row (hT : ElT α t e bytes) {w0 w : World} {g cap : Nat} {cur : Array Value} {J : Res} [Stab J] (h : Own w0 w (Sep (Blk g (.cells cur e (0, 0))) J)) {i m : Nat} (hroom : i + m ≤ cap) (hsz : cur.size = cap * Cel.size α) (vo : Option Addr) (vc : Nat) (v : List α) (hv : v.length = m) (hsv : Shp vo m vc)
    (hsrc : v ≠ [] → ∃ ad, vo = some ad ∧ ∀ (j : Nat) (u : Value), (cAll v)[j]? = some u → w.cell? (ad.add j) = some u) (ty : TypeId) :
    ∃ w', (Builtin.append_ #[t, t] ty #[.slice (some ⟨g, 0, none⟩) i cap, .slice vo m vc]).run Try.prog w = .ok (.slice (some ⟨g, 0, none⟩) (i + m) cap) w' ∧ Own w0 w' (Sep (Blk g (.cells (spl cur.toList (i * Cel.size α) (cAll v)).toArray e (0, 0))) J) := by
  obtain ⟨i0, z, hi0, hz0, hz1, hz2, hz3⟩ := hT.i
  have hg := h.blkT
  have hcl : (cAll v).length = m * Cel.size α := by rw [cAll_length, hv]
  have hfit : i * Cel.size α + m * Cel.size α ≤ cur.size := by
    rw [← Nat.add_mul, hsz]
    exact Nat.mul_le_mul_right _ hroom
  have hs : Src Try.prog i0.size t (.slice vo m vc) m (cAll v) w := by
    by_cases hn : v = []
    · subst hn
      obtain rfl : m = 0 := hv.symm
      rcases hsv with ⟨rfl, _, rfl⟩ | ⟨ad, rfl, _⟩
      · exact Src.ofNil (P := Try.prog) w hT.u 0
      · exact Src.ofSlice (P := Try.prog) w (size := i0.size) (tx := t) hT.u ad 0 vc (cAll ([] : List α)) (by simp [cAll]) (fun j u hj => by simp [cAll] at hj) (cAll_one _)
    · obtain ⟨ad, rfl, hc⟩ := hsrc hn
      exact Src.ofSlice (P := Try.prog) w (size := i0.size) (tx := t) hT.u ad m vc (cAll v) (by rw [hz1]; exact hcl) hc (cAll_one _)
  have hrun := run_append_room_src (P := Try.prog) w t t ty e i0 hT.u hi0 g 0 i cap (.slice vo m vc) m (cAll v) hs hroom
    (fun j hj => by
      rw [hcl] at hj
      rw [hz1, Nat.zero_add]
      have : i * Cel.size α + j < cur.size := by omega
      simp [World.cell?, hg, this])
    (fun j hj => by simp [World.frozen?, hg])
  rw [hz1, Nat.zero_add, setCells_row g e _ _ cur w hg (by rw [hcl]; exact hfit)] at hrun
  refine ⟨_, hrun, ?_⟩
  have := h.setRow (spl cur.toList (i * Cel.size α) (cAll v)).toArray
  unfold spl at this ⊢
  rw [List.append_assoc]
  exact this
end
theorem step_append_run {P : Program} {ops : Array Oper} {o : Oper} {a : Act} {w : World} {K : Act → World → Prop} {Q : Exit → Act → World → Prop} {E : Prop}
    (hg : o.guard = none) (d x : Operand) (dT sT : TypeId) (hop : o.op = Op.call { callee := Callee.builtin Builtin.append, args := #[d, x], argTypes := #[dT, sT] })
    (v u : Value) (hd : a.eval d = v) (hx : a.eval x = u) {v' : Value} {w' : World} (hr : (Builtin.append_ #[dT, sT] o.type #[v, u]).run P w = .ok v' w') (hK : K (a.put o.dst v') w') :
    if Region.wanted o (yielded ops a.tmps) = true then Oper.wp P o a w K Q else E := by
  have hw : Region.wanted o (yielded ops a.tmps) = true := by simp [Region.wanted, hg]
  rw [if_pos hw]
  unfold Oper.wp
  simp [execOp, hop, resolve, invoke, builtin, hd, hx, hr, Result.andThen]
  exact hK
theorem elNu : ElT Int 48 34 8 := by
  obtain ⟨i, h1, h2, h3, h4⟩ := info_parts (show (Try.prog.info? 34).map (fun i => (i.zero, i.size, i.bytes)) = some (some (.int .u64 0), 1, 8) by kernel_rfl)
  exact ⟨Try.underlying48, i, _, h1, h2, h3, h4, rfl⟩
theorem elHdB : ElT Hd 49 35 24 := by
  obtain ⟨i, h1, h2, h3, h4⟩ := info_parts (show (Try.prog.info? 35).map (fun i => (i.zero, i.size, i.bytes)) = some (some (.slice none 0 0), 1, 24) by kernel_rfl)
  exact ⟨Try.underlying49, i, _, h1, h2, h3, h4, rfl⟩

end Go.Proofs.Ytjmelhmjcbliaaa
