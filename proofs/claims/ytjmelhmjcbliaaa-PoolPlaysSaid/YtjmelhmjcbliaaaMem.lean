/-
  Memory in parts: which blocks a call may have changed, slices of bytes and of numbers, and parts of memory side by side, each with the blocks that it takes. Plain lemmas on worlds; nothing is walked here.
-/
import Derived.WalkKit
import Derived.WalkSpells
import Derived.WalkLawsBesides
import Derived.Deep.AppendLies
import Derived.Laws.Rows
import Derived.Lib.Hide
namespace Go.Proofs.Ytjmelhmjcbliaaa
open Go Go.RowKit
set_option linter.unusedVariables false
set_option linter.unusedSimpArgs false
set_option maxRecDepth 100000

/-- Of the blocks that were there none has changed but those in S. -/
structure Only (S : Nat → Prop) (w w' : World) : Prop where
  os : w'.os = w.os
  tape : w'.tape = w.tape
  output : w'.output = w.output
  size : w.heap.size ≤ w'.heap.size
  block : ∀ k, k < w.heap.size → ¬ S k → w'.heap[k]? = w.heap[k]?

theorem Only.refl (S : Nat → Prop) (w : World) : Only S w w := ⟨rfl, rfl, rfl, Nat.le_refl _, fun _ _ _ => rfl⟩
theorem Only.trans {S T : Nat → Prop} {a b c : World} (h : Only S a b) (k : Only T b c) (hT : ∀ k, k < a.heap.size → T k → S k) : Only S a c :=
  ⟨k.os.trans h.os, k.tape.trans h.tape, k.output.trans h.output, Nat.le_trans h.size k.size,
    fun i hi hs => (k.block i (Nat.lt_of_lt_of_le hi h.size) (fun ht => hs (hT i hi ht))).trans (h.block i hi hs)⟩
theorem Only.mono {S T : Nat → Prop} {a b : World} (h : Only S a b) (hT : ∀ k, k < a.heap.size → S k → T k) : Only T a b :=
  ⟨h.os, h.tape, h.output, h.size, fun k hk ht => h.block k hk fun hs => ht (hT k hk hs)⟩
theorem Only.drew {S : Nat → Prop} {a b : World} (h : Only S a b) : Only S a b.drew := ⟨h.os, h.tape, h.output, h.size, h.block⟩
theorem Only.drewN {S : Nat → Prop} {a b : World} (h : Only S a b) (n : Nat) : Only S a (b.drewN n) := ⟨h.os, h.tape, h.output, h.size, h.block⟩
theorem Only.alloc {S : Nat → Prop} {a b : World} (h : Only S a b) (o : Obj) : Only S a (b.alloc o) :=
  h.trans (T := fun _ => False) ⟨rfl, rfl, rfl, by simp, fun k hk _ => Below.heap_alloc _ _ _ hk⟩ (fun _ _ h => h.elim)
theorem Only.setCell {S : Nat → Prop} {a b : World} (h : Only S a b) {p : Addr} (hp : p.block < a.heap.size → S p.block) (u : Value) : Only S a (b.setCell p u) :=
  h.trans (T := fun k => k = p.block) ⟨rfl, rfl, rfl, by simp [World.setCell], fun k _ hk => Below.heap_setCell _ _ _ _ hk⟩ (fun k hk e => by subst e; exact hp hk)
theorem Only.cell (w : World) (p o : Nat) (u : Value) : Only (fun k => k = p) w (w.setCell ⟨p, o, none⟩ u) :=
  ⟨rfl, rfl, rfl, by simp [World.setCell], fun k _ hk => Below.heap_setCell _ _ _ _ hk⟩
theorem heap_set {w : World} {p : Nat} {cs : Array Value} {t : TypeId} {fr : Nat × Nat} (h : w.heap[p]? = some (.cells cs t fr)) (o : Nat) (u : Value) :
    (w.setCell ⟨p, o, none⟩ u).heap[p]? = some (.cells (cs.setIfInBounds o u) t fr) := by
  simp only [World.setCell, Array.getElem?_modify, if_pos, h, Option.map_some]
  rfl
theorem Only.grown {S : Nat → Prop} {a b c : World} {row : Option Nat} (h : Only S a b) (hg : b.grownBy c row) (hr : ∀ k, k < a.heap.size → row = some k → S k) : Only S a c :=
  h.trans (T := fun k => row = some k) ⟨hg.os, hg.tape, hg.output, hg.size, fun k hk hn => hg.block k hk (fun e => hn e.symm)⟩ hr
theorem Only.below {S : Nat → Prop} {a b : World} (h : Only S a b) {B : Nat} (hB : B ≤ a.heap.size) (hS : ∀ k, S k → B ≤ k) : Below B a b :=
  ⟨h.os, h.tape, h.output, h.size, fun k hk => h.block k (by omega) (fun hs => by have := hS k hs; omega)⟩
theorem Only.lt {S : Nat → Prop} {a b : World} (h : Only S a b) {k : Nat} (hk : k < a.heap.size) : k < b.heap.size := Nat.lt_of_lt_of_le hk h.size

theorem lt_of_some {w : World} {b : Nat} {o : Obj} (h : w.heap[b]? = some o) : b < w.heap.size := (Array.getElem?_eq_some_iff.1 h).1
theorem Only.keep {S : Nat → Prop} {a b : World} (h : Only S a b) {k : Nat} {o : Obj} (hk : a.heap[k]? = some o) (hs : ¬ S k) : b.heap[k]? = some o :=
  (h.block k (lt_of_some hk) hs).trans hk

/-- Bytes as the model's cells. -/
def u8s (xs : List UInt8) : List Value := xs.map fun b => Value.int .u8 b.toNat
theorem u8s_length (xs : List UInt8) : (u8s xs).length = xs.length := by simp [u8s]
theorem u8s_append (xs ys : List UInt8) : u8s (xs ++ ys) = u8s xs ++ u8s ys := by simp [u8s]
theorem u8s_oneCell (xs : List UInt8) : ∀ u ∈ u8s xs, u.oneCell' = true := by
  intro u hu; simp [u8s] at hu; obtain ⟨b, _, rfl⟩ := hu; rfl

/-- A slice value whose cells read as these bytes, wherever they lie. -/
def SlC (w : World) (v : Value) (xs : List UInt8) : Prop :=
  (v = .slice none 0 0 ∧ xs = []) ∨ ∃ a cap, v = .slice (some a) xs.length cap ∧ ∀ j, j < xs.length → w.cell? (a.add j) = some (.int .u8 (xs.getD j 0).toNat)

theorem u8s_get {xs : List UInt8} {j : Nat} {u : Value} (h : (u8s xs)[j]? = some u) : j < xs.length ∧ u = .int .u8 (xs.getD j 0).toNat := by
  simp only [u8s, List.getElem?_map, Option.map_eq_some_iff] at h
  obtain ⟨b, hb, rfl⟩ := h
  obtain ⟨hj, rfl⟩ := List.getElem?_eq_some_iff.1 hb
  exact ⟨hj, by simp [hj]⟩
theorem u8s_at {xs : List UInt8} {j : Nat} (h : j < xs.length) : (u8s xs)[j]? = some (.int .u8 (xs.getD j 0).toNat) := by
  simp [u8s, h]

theorem add_lit (g off j : Nat) : (⟨g, off, none⟩ : Addr).add j = ⟨g, off + j, none⟩ := by unfold Addr.add; split <;> simp_all

/-- A slice of int that reads as these numbers. -/
def SlI (w : World) (ao : Option Addr) (ks : List Int) : Prop :=
  ∀ j, j < ks.length → ∃ g off, ao = some ⟨g, off, none⟩ ∧ w.cell? ⟨g, off + j, none⟩ = some (.int .i64 (ks.getD j 0))

theorem SlC.shape {w : World} {v : Value} {xs : List UInt8} (h : SlC w v xs) : ∃ ao cap, v = .slice ao xs.length cap := by
  rcases h with ⟨rfl, rfl⟩ | ⟨a, cap, rfl, _⟩
  · exact ⟨none, 0, rfl⟩
  · exact ⟨_, cap, rfl⟩

theorem Only.cellq {a b : World} (h : Only (fun _ => False) a b) {p : Addr} {v : Value} (hc : a.cell? p = some v) : b.cell? p = some v :=
  (World.cell?_of_block (h.block p.block (World.block_lt_of_cell? a p hc) (fun h => h))).trans hc
theorem SlC.keep {w w' : World} {v : Value} {xs : List UInt8} (h : SlC w v xs) (ho : Only (fun _ => False) w w') : SlC w' v xs := by
  rcases h with h | ⟨a, cap, rfl, hc⟩
  · exact .inl h
  · exact .inr ⟨a, cap, rfl, fun j hj => ho.cellq (hc j hj)⟩

theorem own_shape {w : World} {b : Nat} {e : TypeId} {v : Value} {n : Nat} {xs : List Value} (h : w.ownsRow b e 1 v n xs) : ∃ ao cap, v = .slice ao n cap := by
  rcases h.2 with ⟨rfl, rfl⟩ | ⟨g, cap, cur, rfl, _⟩
  · exact ⟨none, 0, rfl⟩
  · exact ⟨_, cap, rfl⟩

theorem own_keep {w w' : World} {B : Nat} {e : TypeId} {size : Nat} {v : Value} {n : Nat} {xs : List Value} (h : w.ownsRow B e size v n xs) (ho : Only (fun _ => False) w w') : w'.ownsRow B e size v n xs := by
  refine ⟨h.1, ?_⟩
  rcases h.2 with h0 | ⟨g, cap, cur, rfl, hb, hg, rest⟩
  · exact .inl h0
  · exact .inr ⟨g, cap, cur, rfl, hb, ho.keep hg (fun h => h), rest⟩

def Quiet (w : World) (w' : World) : Prop := Only (fun _ => False) w w'

theorem own_shapeN {w : World} {b : Nat} {e : TypeId} {size : Nat} {v : Value} {n : Nat} {xs : List Value} (h : w.ownsRow b e size v n xs) : ∃ ao cap, v = .slice ao n cap := by
  rcases h.2 with ⟨rfl, rfl⟩ | ⟨g, cap, cur, rfl, _⟩
  · exact ⟨none, 0, rfl⟩
  · exact ⟨_, cap, rfl⟩
theorem own_lt {w : World} {b : Nat} {e : TypeId} {size : Nat} {v : Value} {n : Nat} {xs : List Value} (h : w.ownsRow b e size v n xs) {k : Nat} (hk : v.ownBlock = some k) : k < w.heap.size := by
  rcases h.2 with ⟨rfl, rfl⟩ | ⟨g, cap, cur, rfl, _, hg, _⟩
  · simp [Value.ownBlock] at hk
  · simp [Value.ownBlock] at hk; subst hk; exact lt_of_some hg
theorem own_keepAt {w w' : World} {B : Nat} {e : TypeId} {size : Nat} {v : Value} {n : Nat} {xs : List Value} (h : w.ownsRow B e size v n xs) (hk : ∀ k, v.ownBlock = some k → w'.heap[k]? = w.heap[k]?) : w'.ownsRow B e size v n xs := by
  refine ⟨h.1, ?_⟩
  rcases h.2 with h0 | ⟨g, cap, cur, rfl, hb, hg, rest⟩
  · exact .inl h0
  · exact .inr ⟨g, cap, cur, rfl, hb, (hk g rfl).trans hg, rest⟩
theorem own_type {w : World} {b : Nat} {e : TypeId} {size : Nat} {v : Value} {n : Nat} {xs : List Value} (h : w.ownsRow b e size v n xs) {k : Nat} {cs : Array Value} {t : TypeId} {fr : Nat × Nat} (hb : w.heap[k]? = some (.cells cs t fr)) (ht : t ≠ e) : v.ownBlock ≠ some k := by
  intro hk
  rcases h.2 with ⟨rfl, rfl⟩ | ⟨g, cap, cur, rfl, _, hg, _⟩
  · simp [Value.ownBlock] at hk
  · simp [Value.ownBlock] at hk
    subst hk
    rw [hg] at hb
    simp at hb
    exact ht hb.2.1.symm

/-- A slice of bytes that reads as xs, and lies in none of the blocks F. -/
def SlO (w : World) (F : Nat → Prop) (v : Value) (xs : List UInt8) : Prop := SlC w v xs ∧ ∀ a n c, v = .slice (some a) n c → xs ≠ [] → ¬ F a.block
theorem add_block (a : Addr) (j : Nat) : (a.add j).block = a.block := by unfold Addr.add; split <;> rfl
theorem SlC.keepAt {w w' : World} {F : Nat → Prop} {v : Value} {xs : List UInt8} (h : SlO w F v xs) (hk : ∀ k, k < w.heap.size → ¬ F k → w'.heap[k]? = w.heap[k]?) : SlC w' v xs := by
  obtain ⟨h, hF⟩ := h
  rcases h with h | ⟨a, cap, rfl, hc⟩
  · exact .inl h
  · refine .inr ⟨a, cap, rfl, fun j hj => ?_⟩
    have h1 := hc j hj
    have hb : (a.add j).block < w.heap.size := World.block_lt_of_cell? w _ h1
    refine (World.cell?_of_block (hk _ hb ?_)).trans h1
    rw [add_block]
    exact hF a _ _ rfl (fun e => by subst e; simp at hj)
theorem SlO.keep {w w' : World} {F : Nat → Prop} {v : Value} {xs : List UInt8} (h : SlO w F v xs) (ho : Only F w w') : SlO w' F v xs :=
  ⟨SlC.keepAt h ho.block, h.2⟩
theorem SlO.quiet {w w' : World} {F : Nat → Prop} {v : Value} {xs : List UInt8} (h : SlO w F v xs) (ho : Only (fun _ => False) w w') : SlO w' F v xs :=
  ⟨h.1.keep ho, h.2⟩
/-- What was there when the statement began lies in no block that is newer. -/
theorem SlC.old {w0 w : World} {F : Nat → Prop} {v : Value} {xs : List UInt8} (h : SlC w0 v xs) (ho : Only (fun _ => False) w0 w) (hF : ∀ k, F k → w0.heap.size ≤ k) : SlO w F v xs := by
  refine ⟨h.keep ho, fun a n c e hx hk => ?_⟩
  rcases h with ⟨rfl, rfl⟩ | ⟨b, cap, rfl, hc⟩
  · exact hx rfl
  · simp at e
    obtain ⟨rfl, _, _⟩ := e
    have h0 : 0 < xs.length := List.length_pos_iff.2 hx
    have h1 := World.block_lt_of_cell? w0 _ (hc 0 h0)
    rw [add_block] at h1
    have := hF _ hk
    omega

/-! ### Parts of memory, side by side -/
/-- A part of memory: what holds of a world, and which blocks it takes. -/
abbrev Res := World → (Nat → Prop) → Prop
class Stab (I : Res) : Prop where
  lt : ∀ {w : World} {F : Nat → Prop}, I w F → ∀ k, F k → k < w.heap.size
  keep : ∀ {w w' : World} {F : Nat → Prop}, I w F → (∀ k, F k → w'.heap[k]? = w.heap[k]?) → I w' F
def Sep (I J : Res) : Res := fun w F => ∃ A B : Nat → Prop, I w A ∧ J w B ∧ (∀ k, A k → ¬ B k) ∧ ∀ k, F k ↔ A k ∨ B k
def Emp : Res := fun _ F => ∀ k, ¬ F k
def Blk (k : Nat) (o : Obj) : Res := fun w F => w.heap[k]? = some o ∧ ∀ i, F i ↔ i = k
def ExR {α : Type} (I : α → Res) : Res := fun w F => ∃ x, I x w F
def AndR (p : Prop) (I : Res) : Res := fun w F => p ∧ I w F
instance {I J : Res} [Stab I] [Stab J] : Stab (Sep I J) where
  lt := by
    rintro w F ⟨A, B, hA, hB, hd, hF⟩ k hk
    rcases (hF k).1 hk with h | h
    · exact Stab.lt hA k h
    · exact Stab.lt hB k h
  keep := by
    rintro w w' F ⟨A, B, hA, hB, hd, hF⟩ hk
    exact ⟨A, B, Stab.keep hA (fun k h => hk k ((hF k).2 (.inl h))), Stab.keep hB (fun k h => hk k ((hF k).2 (.inr h))), hd, hF⟩
instance : Stab Emp where
  lt := fun h k hk => (h k hk).elim
  keep := fun h _ => h
instance {k : Nat} {o : Obj} : Stab (Blk k o) where
  lt := fun h i hi => by rw [(h.2 i).1 hi]; exact lt_of_some h.1
  keep := fun h hk => ⟨(hk k ((h.2 k).2 rfl)).trans h.1, h.2⟩
instance {α : Type} {I : α → Res} [∀ x, Stab (I x)] : Stab (ExR I) where
  lt := fun ⟨_, h⟩ => Stab.lt h
  keep := fun ⟨x, h⟩ hk => ⟨x, Stab.keep h hk⟩
instance {p : Prop} {I : Res} [Stab I] : Stab (AndR p I) where
  lt := fun ⟨_, h⟩ => Stab.lt h
  keep := fun ⟨x, h⟩ hk => ⟨x, Stab.keep h hk⟩
theorem Sep.comm {I J : Res} {w : World} {F : Nat → Prop} (h : Sep I J w F) : Sep J I w F := by
  obtain ⟨A, B, hA, hB, hd, hF⟩ := h
  exact ⟨B, A, hB, hA, fun k h1 h2 => hd k h2 h1, fun k => (hF k).trans Or.comm⟩
theorem Sep.assoc {I J K : Res} {w : World} {F : Nat → Prop} (h : Sep (Sep I J) K w F) : Sep I (Sep J K) w F := by
  obtain ⟨AB, C, ⟨A, B, hA, hB, hd, hF⟩, hC, hd2, hF2⟩ := h
  refine ⟨A, fun k => B k ∨ C k, hA, ⟨B, C, hB, hC, fun k h1 h2 => hd2 k ((hF k).2 (.inr h1)) h2, fun k => Iff.rfl⟩, fun k h1 h2 => ?_, fun k => ?_⟩
  · rcases h2 with h2 | h2
    · exact hd k h1 h2
    · exact hd2 k ((hF k).2 (.inl h1)) h2
  · rw [hF2, hF, or_assoc]
theorem Sep.imp {I J I' J' : Res} {w : World} {F : Nat → Prop} (h : Sep I J w F) (hI : ∀ A, I w A → I' w A) (hJ : ∀ B, J w B → J' w B) : Sep I' J' w F := by
  obtain ⟨A, B, hA, hB, hd, hF⟩ := h
  exact ⟨A, B, hI A hA, hJ B hB, hd, hF⟩

/-- What a statement has made since it began in w0: parts of memory in blocks of its own; nothing that was there has changed. -/
def Own (w0 w : World) (I : Res) : Prop := ∃ F : Nat → Prop, I w F ∧ (∀ k, F k → w0.heap.size ≤ k) ∧ Only (fun _ => False) w0 w
theorem Own.only {w0 w : World} {I : Res} (h : Own w0 w I) : Only (fun _ => False) w0 w := h.choose_spec.2.2
theorem Own.start (w : World) : Own w w Emp := ⟨fun _ => False, fun _ h => h, fun _ h => h.elim, Only.refl _ _⟩
theorem Own.imp {w0 w : World} {I J : Res} (h : Own w0 w I) (hI : ∀ F, I w F → J w F) : Own w0 w J := by
  obtain ⟨F, h1, h2, h3⟩ := h
  exact ⟨F, hI F h1, h2, h3⟩
theorem Own.comm {w0 w : World} {I J : Res} (h : Own w0 w (Sep I J)) : Own w0 w (Sep J I) := h.imp fun _ => Sep.comm
theorem Own.assoc {w0 w : World} {I J K : Res} (h : Own w0 w (Sep (Sep I J) K)) : Own w0 w (Sep I (Sep J K)) := h.imp fun _ => Sep.assoc
theorem Own.assoc' {w0 w : World} {I J K : Res} (h : Own w0 w (Sep I (Sep J K))) : Own w0 w (Sep (Sep I J) K) :=
  h.imp fun _ h => (Sep.comm (Sep.assoc (Sep.comm (Sep.assoc (Sep.comm h)))))
theorem Own.fst {w0 w : World} {I J : Res} (h : Own w0 w (Sep I J)) : Own w0 w I := by
  obtain ⟨F, ⟨A, B, hA, hB, hd, hF⟩, h2, h3⟩ := h
  exact ⟨A, hA, fun k hk => h2 k ((hF k).2 (.inl hk)), h3⟩
theorem Own.snd {w0 w : World} {I J : Res} (h : Own w0 w (Sep I J)) : Own w0 w J := h.comm.fst
theorem Own.quiet {w0 w w' : World} {I : Res} [Stab I] (h : Own w0 w I) (ho : Only (fun _ => False) w w') : Own w0 w' I := by
  obtain ⟨F, h1, h2, h3⟩ := h
  exact ⟨F, Stab.keep h1 (fun k hk => ho.block k (Stab.lt h1 k hk) (fun h => h)), h2, h3.trans ho (fun _ _ h => h)⟩
theorem Own.drew {w0 w : World} {I : Res} [Stab I] (h : Own w0 w I) : Own w0 w.drew I := h.quiet ((Only.refl _ w).drew)
theorem Own.drewN {w0 w : World} {I : Res} [Stab I] (h : Own w0 w I) (n : Nat) : Own w0 (w.drewN n) I := h.quiet ((Only.refl _ w).drewN n)
/-- Something in new blocks. -/
theorem Own.fresh {w0 w w' : World} {I J : Res} [Stab I] (h : Own w0 w I) (ho : Only (fun _ => False) w w') {B : Nat → Prop} (hJ : J w' B) (hB : ∀ k, B k → w.heap.size ≤ k) : Own w0 w' (Sep J I) := by
  obtain ⟨F, h1, h2, h3⟩ := h
  exact ⟨fun k => B k ∨ F k, ⟨B, F, hJ, Stab.keep h1 (fun k hk => ho.block k (Stab.lt h1 k hk) (fun h => h)), fun k a b => by have := hB k a; have := Stab.lt h1 k b; omega, fun k => Iff.rfl⟩,
    fun k hk => hk.elim (fun a => by have := hB k a; have := h3.size; omega) (h2 k), h3.trans ho (fun _ _ h => h)⟩
theorem Own.alloc {w0 w : World} {I : Res} [Stab I] (h : Own w0 w I) (o : Obj) : Own w0 (w.alloc o) (Sep (Blk w.heap.size o) I) :=
  h.fresh ((Only.refl _ w).alloc o) (B := fun k => k = w.heap.size) ⟨heap_alloc_new w o, fun i => Iff.rfl⟩ (fun k e => by omega)

theorem Own.swap {w0 w : World} {I J K : Res} (h : Own w0 w (Sep I (Sep J K))) : Own w0 w (Sep J (Sep I K)) := (h.assoc'.imp fun _ h => h.imp (fun _ h => Sep.comm h) (fun _ h => h)).assoc
theorem Own.drop2 {w0 w : World} {I J K : Res} (h : Own w0 w (Sep I (Sep J K))) : Own w0 w (Sep I K) := h.swap.snd
/-- A new block beside the first part. -/
theorem Own.lend {w0 w : World} {I J : Res} [Stab I] [Stab J] (h : Own w0 w (Sep I J)) (o : Obj) : Own w0 (w.alloc o) (Sep I (Sep (Blk w.heap.size o) J)) := (h.alloc o).swap
/-- Bytes in a block of their own. -/
def Row (g : Nat) (t : TypeId) (xs : List UInt8) (fr : Nat × Nat := (0, 0)) : Res := Blk g (.cells (u8s xs).toArray t fr)
instance {g : Nat} {t : TypeId} {xs : List UInt8} {fr : Nat × Nat} : Stab (Row g t xs fr) := inferInstanceAs (Stab (Blk g _))
theorem row_bytes {w : World} {g : Nat} {xs : List UInt8} {t : TypeId} {fr : Nat × Nat} {n cap : Nat} (h : w.heap[g]? = some (.cells (u8s xs).toArray t fr)) (hn : n ≤ xs.length) : SlC w (.slice (some ⟨g, 0, none⟩) n cap) (xs.take n) := by
  refine .inr ⟨⟨g, 0, none⟩, cap, by simp [Nat.min_eq_left hn], fun j hj => ?_⟩
  rw [add_lit, cell_of_row w g _ _ _ _ h]
  simp at hj
  simp only [Nat.zero_add, List.getElem?_toArray]
  rw [u8s_at (by omega)]
  congr 3
  simp [List.getD_eq_getElem?_getD, show j < n by omega]
theorem row_bytes' {w : World} {g : Nat} {xs : List UInt8} {t : TypeId} {fr : Nat × Nat} {n cap : Nat} (h : w.heap[g]? = some (.cells (u8s xs).toArray t fr)) (hn : n = xs.length) : SlC w (.slice (some ⟨g, 0, none⟩) n cap) xs := by
  have := row_bytes (n := n) (cap := cap) h (Nat.le_of_eq hn)
  rwa [List.take_of_length_le (Nat.le_of_eq hn.symm)] at this
/-- What lies in a row of its own lies in no block of another part. -/
theorem Row.apart {w : World} {g n c : Nat} {t : TypeId} {xs : List UInt8} {fr : Nat × Nat} {J : Res} {F B : Nat → Prop} (hJ : Sep (Row g t xs fr) J w B) (hd : ∀ k, F k → ¬ B k) (hn : n = xs.length) : SlO w F (.slice (some ⟨g, 0, none⟩) n c) xs := by
  obtain ⟨A, C, hA, hC, hac, hB⟩ := hJ
  refine ⟨row_bytes' hA.1 hn, fun a m c e hx hk => ?_⟩
  simp at e
  obtain ⟨rfl, _, _⟩ := e
  exact hd _ hk ((hB _).2 (.inl ((hA.2 _).2 rfl)))
theorem Own.row {w0 w : World} {g : Nat} {t : TypeId} {xs : List UInt8} {fr : Nat × Nat} (h : Own w0 w (Row g t xs fr)) : w.heap[g]? = some (.cells (u8s xs).toArray t fr) := by
  obtain ⟨F, h1, _⟩ := h
  exact h1.1

/-- What a call leaves of a part of memory: it answers 'val x', the part is then 'Q x'; of what was there only the part's blocks have changed, and what it has taken besides is new. -/
def Post {α : Type} (w : World) (F : Nat → Prop) (val : α → Value) (Q : α → Res) (e : Ending) (w' : World) : Prop :=
  ∃ (x : α) (F' : Nat → Prop), e = .returned (val x) ∧ Q x w' F' ∧ (∀ k, F' k → F k ∨ w.heap.size ≤ k) ∧ Only F w w'
theorem Own.call {α : Type} {w0 w : World} {val : α → Value} {Q : α → Res} {I J : Res} [Stab J] {P : Program} {f : FuncId} {args : Array Value} (h : Own w0 w (Sep I J))
    (c : ∀ F B : Nat → Prop, I w F → J w B → (∀ k, F k → ¬ B k) → (∀ k, F k → w0.heap.size ≤ k) → Calls P f args w (Post w F val Q)) :
    Calls P f args w fun e w' => ∃ x, e = .returned (val x) ∧ Own w0 w' (Sep (Q x) J) := by
  obtain ⟨F, ⟨A, B, hA, hB, hd, hF⟩, h2, h3⟩ := h
  refine (c A B hA hB hd (fun k hk => h2 k ((hF k).2 (.inl hk)))).mono ?_
  rintro e w' ⟨x, F', rfl, hQ, hsub, ho⟩
  refine ⟨x, rfl, fun k => F' k ∨ B k, ⟨F', B, hQ, Stab.keep hB (fun k hk => ho.block k (Stab.lt hB k hk) (fun h => hd k h hk)), fun k a b => ?_, fun k => Iff.rfl⟩, fun k hk => ?_, h3.trans ho (fun k hk a => ?_)⟩
  · rcases hsub k a with h | h
    · exact hd k h b
    · have := Stab.lt hB k b; omega
  · rcases hk with hk | hk
    · rcases hsub k hk with h | h
      · exact h2 k ((hF k).2 (.inl h))
      · have := h3.size; omega
    · exact h2 k ((hF k).2 (.inr hk))
  · have := h2 k ((hF k).2 (.inl a)); omega
theorem Own.call1 {α : Type} {w0 w : World} {val : α → Value} {Q : α → Res} {I : Res} {P : Program} {f : FuncId} {args : Array Value} (h : Own w0 w I)
    (c : ∀ F : Nat → Prop, I w F → (∀ k, F k → w0.heap.size ≤ k) → Calls P f args w (Post w F val Q)) :
    Calls P f args w fun e w' => ∃ x, e = .returned (val x) ∧ Own w0 w' (Q x) := by
  have h' : Own w0 w (Sep I Emp) := h.imp fun F hF => ⟨F, fun _ => False, hF, fun _ h => h, fun _ _ h => h, fun k => by simp⟩
  refine (h'.call (fun F B hI _ _ hF => c F hI hF)).mono ?_
  rintro e w' ⟨x, rfl, hq⟩
  exact ⟨x, rfl, hq.fst⟩
theorem Post.of {α : Type} {w : World} {F : Nat → Prop} {val : α → Value} {Q : α → Res} {e : Ending} {w' : World} (x : α) (F' : Nat → Prop) (he : e = .returned (val x)) (hQ : Q x w' F') (hs : ∀ k, F' k → F k ∨ w.heap.size ≤ k) (ho : Only F w w') : Post w F val Q e w' :=
  ⟨x, F', he, hQ, hs, ho⟩

end Go.Proofs.Ytjmelhmjcbliaaa
