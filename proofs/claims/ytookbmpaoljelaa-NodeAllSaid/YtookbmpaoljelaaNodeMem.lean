/-
  Slices of elements of several cells, of one's own or handed in: by one law for all types of elements; parts of memory that stay as they are; nodes in memory.
-/
import Derived.Test.YtookbmpaoljelaaNodeSt
import Derived.Test.YtookbmpaoljelaaRowP
import Derived.Test.YtookbmpaoljelaaExtBlk
import Derived.Test.YtookbmpaoljelaaWide
namespace Go.Proofs.Ytookbmpaoljelaa
open Go Go.RowKit
set_option linter.unusedVariables false
set_option linter.unusedSimpArgs false
set_option maxRecDepth 100000

abbrev env (e : En) : Value := .agg #[.string e.k, .bool e.h, .string e.v, .int .u64 e.x, .bool e.n, .string e.nv]
abbrev msv (m : Ms) : Value := .agg #[.int .u64 m.sq, .int .i64 m.K, .string m.k, .int .u64 m.x, .string m.v, .int .i64 m.off, .int .u64 m.num]
theorem below_quiet {w w' : World} (h : Below w.heap.size w w') : Only (fun _ => False) w w' := ⟨h.os, h.tape, h.output, h.size, fun k hk _ => h.block k hk⟩
theorem only_b {w w' : World} (h : Only (fun _ => False) w w') : Below w.heap.size w w' := h.below (Nat.le_refl _) (fun _ h => h.elim)
theorem qkeep {w w' : World} (h : Only (fun _ => False) w w') {k : Nat} {o : Obj} (hk : w.heap[k]? = some o) : w'.heap[k]? = some o := h.keep hk (fun h => h)
theorem Own.belows {w0 w : World} {I : Res} (h : Own w0 w I) : Below w0.heap.size w0 w := h.only.below (Nat.le_refl _) (fun _ h => h.elim)

/-! ### Elements of several cells -/
/-- The head of a slice. -/
structure Hd where
  ao : Option Addr
  n : Nat
  c : Nat
instance : Inhabited Hd := ⟨⟨none, 0, 0⟩⟩
class Cel (α : Type) where
  size : Nat
  cells : α → List Value
  len : ∀ a, (cells a).length = size
  one : ∀ a, ∀ u ∈ cells a, u.oneCell' = true
  pos : 0 < size
instance : Cel En := ⟨6, fun e => [.string e.k, .bool e.h, .string e.v, .int .u64 e.x, .bool e.n, .string e.nv], fun _ => rfl, fun a u h => by
  simp only [List.mem_cons, List.not_mem_nil, or_false] at h
  rcases h with rfl | rfl | rfl | rfl | rfl | rfl <;> rfl, by decide⟩
instance : Cel Ms := ⟨7, fun m => [.int .u64 m.sq, .int .i64 m.K, .string m.k, .int .u64 m.x, .string m.v, .int .i64 m.off, .int .u64 m.num], fun _ => rfl, fun a u h => by
  simp only [List.mem_cons, List.not_mem_nil, or_false] at h
  rcases h with rfl | rfl | rfl | rfl | rfl | rfl | rfl <;> rfl, by decide⟩
instance : Cel ByteArray := ⟨1, fun s => [.string s], fun _ => rfl, fun a u h => by
  simp only [List.mem_singleton] at h
  subst h; rfl, by decide⟩
instance : Cel Int := ⟨1, fun k => [.int .u64 k], fun _ => rfl, fun a u h => by
  simp only [List.mem_singleton] at h
  subst h; rfl, by decide⟩
instance : Cel Hd := ⟨1, fun h => [.slice h.ao h.n h.c], fun _ => rfl, fun a u h => by
  simp only [List.mem_singleton] at h
  subst h; rfl, by decide⟩
def cAll {α : Type} [Cel α] : List α → List Value
  | [] => []
  | c :: r => Cel.cells c ++ cAll r
section
variable {α : Type} [Cel α]
theorem cAll_append : ∀ (l k : List α), cAll (l ++ k) = cAll l ++ cAll k
  | [], k => rfl
  | c :: l, k => by rw [List.cons_append, cAll, cAll, cAll_append l k, List.append_assoc]
theorem cAll_length : ∀ l : List α, (cAll l).length = l.length * Cel.size α
  | [] => by simp [cAll]
  | c :: l => by
    rw [cAll, List.length_append, Cel.len, cAll_length l, List.length_cons, Nat.succ_mul, Nat.add_comm]
theorem cAll_one : ∀ (l : List α), ∀ u ∈ cAll l, u.oneCell' = true
  | [], u, h => by cases h
  | c :: l, u, h => by
    rw [cAll, List.mem_append] at h
    rcases h with h | h
    · exact Cel.one c u h
    · exact cAll_one l u h
theorem cel_some (a : α) {i : Nat} (hi : i < Cel.size α) : ((Cel.cells a)[i]?).isSome = true := by
  rw [List.getElem?_eq_getElem (by rw [Cel.len]; exact hi)]
  rfl
/-- What is asked of a type of elements. -/
structure ElT (α : Type) [Cel α] (t e : TypeId) (bytes : Nat) : Prop where
  u : Try.prog.underlying t = some (.slice e)
  i : ∃ i0 z, Try.prog.info? e = some i0 ∧ i0.zero = some z ∧ i0.size = Cel.size α ∧ i0.bytes = bytes ∧ z.cells.size = Cel.size α
/-- A slice of one's own. -/
abbrev RowG (e : TypeId) (v : Value) (l : List α) : Res := RowV e (Cel.size α) v l.length (cAll l)
/-- What an append of one element to a slice of one's own leaves. -/
theorem own_appendG {t e : TypeId} {bytes : Nat} (hT : ElT α t e bytes) {ops : Array Oper} {rest : List Oper} {o : Oper} {a : Act} {Q : Exit → Act → World → Prop} {w0 wx : World} {v : Value} {xs : List α} {J : Res} [Stab J] (h : Own w0 wx (Sep (RowG e v xs) J)) (m : α) (c : Nat)
    (hlen : (xs.length + 1) * bytes ≤ 140737488351232) (h63 : xs.length + 1 ≤ 140737488351232) (hgd : o.guard = none) (s x : Operand) (ho : o.op = .call { callee := .builtin .append, args := #[s, x], argTypes := #[t, t] })
    (hs : a.eval s = v) (cs : Array Value) (hcs : cs.toList = Cel.cells m) (hx : a.eval x = .slice (some ⟨wx.heap.size, 0, none⟩) 1 c)
    (k : ∀ g cap n w', Hid (n = (xs ++ [m]).length) → Hid (Own w0 w' (Sep (RowG e (.slice (some ⟨g, 0, none⟩) n cap) (xs ++ [m])) J)) → wpList Try.prog ops Q rest (a.put o.dst (.slice (some ⟨g, 0, none⟩) n cap)) w') :
    wpList Try.prog ops Q (o :: rest) a (wx.alloc (.cells cs e)) := by
  obtain ⟨i0, z, hi, hz0, hz1, hz2, hz3⟩ := hT.i
  have HA := (h.alloc (.cells cs e)).snd
  have hcq : ∀ j u, (Cel.cells m)[j]? = some u → (wx.alloc (.cells cs e)).cell? ((⟨wx.heap.size, 0, none⟩ : Addr).add j) = some u := by
    rw [← hcs]
    exact World.news_of_block (B := wx.heap.size) (heap_alloc_new wx _)
  refine wpList_append_lies (P := Try.prog) (wx.alloc (.cells cs e)) hgd s x t ho 0 e i0 z (Cel.size α) bytes hT.u hi hz0 hz1 hz2 hz3 Cel.pos v xs.length (cAll xs) hs
    HA.owns ⟨wx.heap.size, 0, none⟩ 1 c (Cel.cells m) hx (by rw [Cel.len, Nat.one_mul]) hcq (Cel.one m) (Nat.le_refl _) (by unfold maxLen; omega) (by omega) (Nat.zero_le _) (wx.heap.size + 1) (by simp) ?_
  intro g cap w1 hown hgrow hat hlt
  have he : cAll xs ++ Cel.cells m = cAll (xs ++ [m]) := by rw [cAll_append]; simp [cAll]
  have h5 := HA.appended hown hgrow (hat.imp id (fun e => by simp; omega))
  rw [he] at h5
  refine k g cap (xs.length + 1) w1 (Lib.hid (by simp)) (Lib.hid ?_)
  have hn : (xs ++ [m]).length = xs.length + 1 := by simp
  show Own w0 w1 (Sep (RowV e (Cel.size α) _ (xs ++ [m]).length _) J)
  rw [hn]
  exact h5
variable [Inhabited α]
theorem cAll_at : ∀ (l : List α) (j i : Nat), j < l.length → i < Cel.size α → (cAll l)[j * Cel.size α + i]? = (Cel.cells (l.getD j default))[i]?
  | [], j, i, h, _ => by simp at h
  | c :: l, 0, i, _, hi => by
    rw [cAll, Nat.zero_mul, Nat.zero_add, List.getElem?_append_left (by rw [Cel.len]; exact hi)]
    rfl
  | c :: l, j + 1, i, h, hi => by
    have ih := cAll_at l j i (by simpa using h) hi
    rw [cAll, List.getElem?_append_right (by rw [Cel.len, Nat.succ_mul]; omega), List.getD_cons_succ, ← ih]
    congr 1
    rw [Cel.len, Nat.succ_mul]
    omega

/-- A slice of elements. -/
def SlG (w : World) (ao : Option Addr) (l : List α) : Prop := ∀ j, j < l.length → ∃ g off, ao = some ⟨g, off, none⟩ ∧ ∀ i, i < Cel.size α → w.cell? ⟨g, off + j * Cel.size α + i, none⟩ = (Cel.cells (l.getD j default))[i]?
theorem SlG.nil (w : World) (ao : Option Addr) : SlG w ao ([] : List α) := fun j hj => by simp at hj
theorem cellq_eq {w w' : World} (ho : Only (fun _ => False) w w') {p : Addr} {v : Option Value} (h : w.cell? p = v) (hv : v.isSome = true) : w'.cell? p = v := by
  cases v with
  | none => cases hv
  | some u => exact ho.cellq h
theorem SlG.keep {w w' : World} {ao : Option Addr} {l : List α} (h : SlG w ao l) (ho : Only (fun _ => False) w w') : SlG w' ao l := fun j hj => by
  obtain ⟨g, off, e, h⟩ := h j hj
  exact ⟨g, off, e, fun i hi => cellq_eq ho (h i hi) (cel_some _ hi)⟩
theorem slg_of {w : World} {g : Nat} {cs : List α} (h : ∀ j u, (cAll cs)[j]? = some u → w.cell? ⟨g, j, none⟩ = some u) : SlG w (some ⟨g, 0, none⟩) cs := fun j hj => by
  refine ⟨g, 0, rfl, fun i hi => ?_⟩
  have e := cAll_at cs j i hj hi
  have hs := cel_some (cs.getD j default) hi
  rw [Option.isSome_iff_exists] at hs
  obtain ⟨u, hu⟩ := hs
  rw [hu] at e ⊢
  rw [Nat.zero_add]
  exact h _ _ e
theorem slg_cells {w : World} {ao : Option Addr} {cs : List α} (h : SlG w ao cs) : ∀ ad, ao = some ad → ∀ j u, (cAll cs)[j]? = some u → w.cell? (ad.add j) = some u := by
  rintro ad rfl j u hj
  have hl := (List.getElem?_eq_some_iff.1 hj).1
  rw [cAll_length] at hl
  have hp := Cel.pos (α := α)
  have hq : j / Cel.size α < cs.length := (Nat.div_lt_iff_lt_mul hp).2 hl
  obtain ⟨g, off, e, hv⟩ := h (j / Cel.size α) hq
  simp only [Option.some.injEq] at e
  subst e
  rw [add_lit]
  have hm := Nat.mod_lt j hp
  have he := Nat.div_add_mod j (Cel.size α)
  have h1 := hv (j % Cel.size α) hm
  rw [← cAll_at cs _ _ hq hm, Nat.add_assoc, Nat.mul_comm, he, hj] at h1
  exact h1
theorem rowg_slg {w : World} {e : TypeId} {v : Value} {l : List α} (h : w.ownsRow 0 e (Cel.size α) v l.length (cAll l)) : ∃ ao cap, v = .slice ao l.length cap ∧ SlG w ao l ∧ (ao = none → l.length = 0 ∧ cap = 0) ∧ l.length ≤ cap := by
  rcases h.2 with ⟨rfl, h0⟩ | ⟨g, cap, cur, rfl, hb, hg, hc, _⟩
  · exact ⟨none, 0, by rw [h0], fun j hj => by omega, fun _ => ⟨h0, rfl⟩, by omega⟩
  · refine ⟨some ⟨g, 0, none⟩, cap, rfl, slg_of (fun j u hj => ?_), (fun e => by cases e), hc⟩
    have hl := (List.getElem?_eq_some_iff.1 hj).1
    have := h.cellAt j (by rw [cAll_length] at hl; exact hl)
    rw [this]
    exact hj
end
theorem SlG.en {w : World} {ao : Option Addr} {l : List En} (h : SlG w ao l) {j : Nat} (hj : j < l.length) : ∃ g off, ao = some ⟨g, off, none⟩ ∧ w.cell? ⟨g, off + j * 6, none⟩ = some (.string (l.getD j default).k) ∧ w.cell? ⟨g, off + j * 6 + 1, none⟩ = some (.bool (l.getD j default).h) ∧
    w.cell? ⟨g, off + j * 6 + 2, none⟩ = some (.string (l.getD j default).v) ∧ w.cell? ⟨g, off + j * 6 + 3, none⟩ = some (.int .u64 (l.getD j default).x) ∧ w.cell? ⟨g, off + j * 6 + 4, none⟩ = some (.bool (l.getD j default).n) ∧ w.cell? ⟨g, off + j * 6 + 5, none⟩ = some (.string (l.getD j default).nv) := by
  obtain ⟨g, off, e, h⟩ := h j hj
  exact ⟨g, off, e, h 0 (by decide), h 1 (by decide), h 2 (by decide), h 3 (by decide), h 4 (by decide), h 5 (by decide)⟩
theorem SlG.ms {w : World} {ao : Option Addr} {l : List Ms} (h : SlG w ao l) {j : Nat} (hj : j < l.length) : ∃ g off, ao = some ⟨g, off, none⟩ ∧ w.cell? ⟨g, off + j * 7, none⟩ = some (.int .u64 (l.getD j default).sq) ∧ w.cell? ⟨g, off + j * 7 + 1, none⟩ = some (.int .i64 (l.getD j default).K) ∧
    w.cell? ⟨g, off + j * 7 + 2, none⟩ = some (.string (l.getD j default).k) ∧ w.cell? ⟨g, off + j * 7 + 3, none⟩ = some (.int .u64 (l.getD j default).x) ∧ w.cell? ⟨g, off + j * 7 + 4, none⟩ = some (.string (l.getD j default).v) ∧ w.cell? ⟨g, off + j * 7 + 5, none⟩ = some (.int .i64 (l.getD j default).off) ∧
    w.cell? ⟨g, off + j * 7 + 6, none⟩ = some (.int .u64 (l.getD j default).num) := by
  obtain ⟨g, off, e, h⟩ := h j hj
  exact ⟨g, off, e, h 0 (by decide), h 1 (by decide), h 2 (by decide), h 3 (by decide), h 4 (by decide), h 5 (by decide), h 6 (by decide)⟩
theorem SlG.st {w : World} {ao : Option Addr} {l : List ByteArray} (h : SlG w ao l) {j : Nat} (hj : j < l.length) : ∃ g off, ao = some ⟨g, off, none⟩ ∧ w.cell? ⟨g, off + j, none⟩ = some (.string (l.getD j default)) := by
  obtain ⟨g, off, e, h⟩ := h j hj
  have h0 := h 0 (by decide)
  rw [show off + j * Cel.size ByteArray + 0 = off + j from by show off + j * 1 + 0 = _; omega] at h0
  exact ⟨g, off, e, h0⟩
theorem SlG.nu {w : World} {ao : Option Addr} {l : List Int} (h : SlG w ao l) {j : Nat} (hj : j < l.length) : ∃ g off, ao = some ⟨g, off, none⟩ ∧ w.cell? ⟨g, off + j, none⟩ = some (.int .u64 (l.getD j default)) := by
  obtain ⟨g, off, e, h⟩ := h j hj
  have h0 := h 0 (by decide)
  rw [show off + j * Cel.size Int + 0 = off + j from by show off + j * 1 + 0 = _; omega] at h0
  exact ⟨g, off, e, h0⟩
theorem SlG.hd {w : World} {ao : Option Addr} {l : List Hd} (h : SlG w ao l) {j : Nat} (hj : j < l.length) : ∃ g off, ao = some ⟨g, off, none⟩ ∧ w.cell? ⟨g, off + j, none⟩ = some (.slice (l.getD j default).ao (l.getD j default).n (l.getD j default).c) := by
  obtain ⟨g, off, e, h⟩ := h j hj
  have h0 := h 0 (by decide)
  rw [show off + j * Cel.size Hd + 0 = off + j from by show off + j * 1 + 0 = _; omega] at h0
  exact ⟨g, off, e, h0⟩

/-! ### Parts of memory that stay as they are -/
def Fix (P : World → Prop) : Res := fun w F => (∀ k, F k → k < w.heap.size) ∧ ∀ w', (∀ k, F k → w'.heap[k]? = w.heap[k]?) → P w'
theorem lt_same {w w' : World} {k : Nat} (h : k < w.heap.size) (e : w'.heap[k]? = w.heap[k]?) : k < w'.heap.size := by
  rw [Array.getElem?_eq_getElem h] at e
  exact lt_of_some e
instance {P : World → Prop} : Stab (Fix P) where
  lt := fun h k hk => h.1 k hk
  keep := fun h hk => ⟨fun k h1 => lt_same (h.1 k h1) (hk k h1), fun w' h2 => h.2 w' (fun k h1 => (h2 k h1).trans (hk k h1))⟩
theorem Own.fixed {w0 w : World} {P : World → Prop} {J : Res} (h : Own w0 w (Sep (Fix P) J)) : P w := by
  obtain ⟨F, ⟨A, B, hA, _⟩, _⟩ := h
  exact hA.2 w (fun _ _ => rfl)
theorem Own.fix2 {w0 w : World} {P Q : World → Prop} {J : Res} (h : Own w0 w (Sep (Fix P) (Sep (Fix Q) J))) : Own w0 w (Sep (Fix fun w => P w ∧ Q w) J) := by
  refine h.assoc'.imp fun F hF => hF.imp (fun C hC => ?_) (fun _ h => h)
  obtain ⟨A, B, hA, hB, hd, hC⟩ := hC
  exact ⟨fun k hk => ((hC k).1 hk).elim (hA.1 k) (hB.1 k), fun w' h2 => ⟨hA.2 w' (fun k hk => h2 k ((hC k).2 (.inl hk))), hB.2 w' (fun k hk => h2 k ((hC k).2 (.inr hk)))⟩⟩
theorem Own.fixI {w0 w : World} {P Q : World → Prop} {J : Res} (h : Own w0 w (Sep (Fix P) J)) (hPQ : ∀ w, P w → Q w) : Own w0 w (Sep (Fix Q) J) :=
  h.imp fun F hF => hF.imp (fun A hA => ⟨hA.1, fun w' h2 => hPQ _ (hA.2 w' h2)⟩) (fun _ h => h)
theorem Own.fix0 {w0 w : World} {P : World → Prop} {J : Res} (h : Own w0 w J) (hP : ∀ w, P w) : Own w0 w (Sep (Fix P) J) := by
  obtain ⟨F, h1, h2, h3⟩ := h
  exact ⟨F, ⟨fun _ => False, F, ⟨fun _ h => h.elim, fun w' _ => hP w'⟩, h1, fun _ h => h.elim, fun k => by simp⟩, h2, h3⟩
/-- A slice of one's own that is written to no more. -/
theorem Own.rowFix {α : Type} [Cel α] [Inhabited α] {w0 w : World} {e : TypeId} {v : Value} {l : List α} {J : Res} (h : Own w0 w (Sep (RowG e v l) J)) : ∃ ao cap, v = .slice ao l.length cap ∧ (ao = none → l.length = 0 ∧ cap = 0) ∧ l.length ≤ cap ∧ Own w0 w (Sep (Fix fun w => SlG w ao l) J) := by
  obtain ⟨ao, cap, rfl, hs, h0, hc⟩ := rowg_slg h.owns
  refine ⟨ao, cap, rfl, h0, hc, h.imp fun F hF => hF.imp (fun A hA => ?_) (fun _ h => h)⟩
  refine ⟨fun k hk => Stab.lt hA k hk, fun w' h2 => ?_⟩
  obtain ⟨ao', cap', e, hs', _⟩ := rowg_slg (own_keepAt hA.1 (fun k e => h2 k ((hA.2 k).2 e)))
  simp only [Value.slice.injEq] at e
  rw [e.1]
  exact hs'

/-! ### Nodes -/
/-- A slice of lists of messages. -/
def SlL (w : World) (bo : Option Addr) (bs : List (List Ms)) : Prop := ∀ j, j < bs.length → ∃ g off ao c, bo = some ⟨g, off, none⟩ ∧ w.cell? ⟨g, off + j, none⟩ = some (.slice ao (bs.getD j default).length c) ∧ SlG w ao (bs.getD j default) ∧ (bs.getD j default).length ≤ 1954687338212
theorem SlL.keep {w w' : World} {bo : Option Addr} {bs : List (List Ms)} (h : SlL w bo bs) (ho : Only (fun _ => False) w w') : SlL w' bo bs := fun j hj => by
  obtain ⟨g, off, ao, c, e, h1, h2, h3⟩ := h j hj
  exact ⟨g, off, ao, c, e, ho.cellq h1, h2.keep ho, h3⟩
/-- The heads of a node's four slices. -/
structure Nh where
  eo : Option Addr
  ec : Nat
  po : Option Addr
  pc : Nat
  ko : Option Addr
  kc : Nat
  bo : Option Addr
  bc : Nat
structure NdAt (w : World) (h : Nh) (n : Nd) : Prop where
  e : SlG w h.eo n.es
  p : SlG w h.po n.ps
  k : SlG w h.ko n.ks
  b : SlL w h.bo n.bs
  le : n.es.length ≤ 140737488351232
  lp : n.ps.length ≤ 140737488351232
  lk : n.ks.length ≤ 140737488351232
  lb : n.bs.length ≤ 140737488351232
theorem NdAt.keep {w w' : World} {h : Nh} {n : Nd} (H : NdAt w h n) (ho : Only (fun _ => False) w w') : NdAt w' h n :=
  ⟨H.e.keep ho, H.p.keep ho, H.k.keep ho, H.b.keep ho, H.le, H.lp, H.lk, H.lb⟩
abbrev ndc (h : Nh) (n : Nd) : Array Value := #[.bool n.leaf, .slice h.eo n.es.length h.ec, .slice h.po n.ps.length h.pc, .slice h.ko n.ks.length h.kc, .slice h.bo n.bs.length h.bc]
abbrev ndv (h : Nh) (n : Nd) : Value := .agg (ndc h n)

end Go.Proofs.Ytookbmpaoljelaa
