/-
  Joined: Mem BeB ValSt KeySt Val1 ValSt2 Val2 Val3 Val4 ValU Val5 Val6.
-/
import Derived.WalkKit
import Derived.WalkSpells
import Derived.WalkLawsBesides
import Derived.Deep.AppendLies
import Derived.Laws.Rows
import Derived.Lib.Hide
import Derived.Laws.BitsAllLaws
import Derived.Laws.Bits64b
import Derived.Test.YtgkcflindenboaaDoorRows
import Derived.StillTailTactics
import Derived.Deep.QuietTactic
import Derived.BigQuiet
import Derived.Lib.SmallJoins
import Derived.Deep.CutBlock
import Derived.Deep.DeepCutAuto
import Derived.Outline
import Derived.Test.YtgkcflindenboaaDoorShelf
import Derived.Lib.Builder
import Derived.Lib.AppendStr
import Derived.Lib.UnsafeStr
import Derived.Laws.Externs
import Derived.Lib.ItoaMem
import Derived.Lib.AppendIntMem
import Derived.WalkSmall
import Derived.Lib.ValidLaws

namespace Go.Proofs.YtgkcflindenboaaDoor
open Go Go.RowKit
set_option linter.unusedVariables false
set_option linter.unusedSimpArgs false
set_option maxRecDepth 100000

/-- Of the blocks that were there none has changed but those in S. -/
structure Only (S : Nat → Prop) (w w' : World) : Prop where
  os : w'.os = w.os
  tape : w'.tape = w.tape
  output : w'.output = w.output
  size : w.heap.size ≤ w'.heap.size
  block : ∀ k, k < w.heap.size → ¬ S k → w'.heap[k]? = w.heap[k]?

theorem Only.refl (S : Nat → Prop) (w : World) : Only S w w := ⟨rfl, rfl, rfl, Nat.le_refl _, fun _ _ _ => rfl⟩
theorem Only.trans {S T : Nat → Prop} {a b c : World} (h : Only S a b) (k : Only T b c) (hT : ∀ k, k < a.heap.size → T k → S k) : Only S a c :=
  ⟨k.os.trans h.os, k.tape.trans h.tape, k.output.trans h.output, Nat.le_trans h.size k.size,
    fun i hi hs => (k.block i (Nat.lt_of_lt_of_le hi h.size) (fun ht => hs (hT i hi ht))).trans (h.block i hi hs)⟩
theorem Only.mono {S T : Nat → Prop} {a b : World} (h : Only S a b) (hT : ∀ k, k < a.heap.size → S k → T k) : Only T a b :=
  ⟨h.os, h.tape, h.output, h.size, fun k hk ht => h.block k hk fun hs => ht (hT k hk hs)⟩
theorem Only.drew {S : Nat → Prop} {a b : World} (h : Only S a b) : Only S a b.drew := ⟨h.os, h.tape, h.output, h.size, h.block⟩
theorem Only.drewN {S : Nat → Prop} {a b : World} (h : Only S a b) (n : Nat) : Only S a (b.drewN n) := ⟨h.os, h.tape, h.output, h.size, h.block⟩
theorem Only.alloc {S : Nat → Prop} {a b : World} (h : Only S a b) (o : Obj) : Only S a (b.alloc o) :=
  h.trans (T := fun _ => False) ⟨rfl, rfl, rfl, by simp, fun k hk _ => Below.heap_alloc _ _ _ hk⟩ (fun _ _ h => h.elim)
theorem Only.setCell {S : Nat → Prop} {a b : World} (h : Only S a b) {p : Addr} (hp : p.block < a.heap.size → S p.block) (u : Value) : Only S a (b.setCell p u) :=
  h.trans (T := fun k => k = p.block) ⟨rfl, rfl, rfl, by simp [World.setCell], fun k _ hk => Below.heap_setCell _ _ _ _ hk⟩ (fun k hk e => by subst e; exact hp hk)
theorem Only.cell (w : World) (p o : Nat) (u : Value) : Only (fun k => k = p) w (w.setCell ⟨p, o, none⟩ u) :=
  ⟨rfl, rfl, rfl, by simp [World.setCell], fun k _ hk => Below.heap_setCell _ _ _ _ hk⟩
theorem heap_set {w : World} {p : Nat} {cs : Array Value} {t : TypeId} {fr : Nat × Nat} (h : w.heap[p]? = some (.cells cs t fr)) (o : Nat) (u : Value) :
    (w.setCell ⟨p, o, none⟩ u).heap[p]? = some (.cells (cs.setIfInBounds o u) t fr) := by
  simp only [World.setCell, Array.getElem?_modify, if_pos, h, Option.map_some]
  rfl
theorem Only.grown {S : Nat → Prop} {a b c : World} {row : Option Nat} (h : Only S a b) (hg : b.grownBy c row) (hr : ∀ k, k < a.heap.size → row = some k → S k) : Only S a c :=
  h.trans (T := fun k => row = some k) ⟨hg.os, hg.tape, hg.output, hg.size, fun k hk hn => hg.block k hk (fun e => hn e.symm)⟩ hr
theorem Only.below {S : Nat → Prop} {a b : World} (h : Only S a b) {B : Nat} (hB : B ≤ a.heap.size) (hS : ∀ k, S k → B ≤ k) : Below B a b :=
  ⟨h.os, h.tape, h.output, h.size, fun k hk => h.block k (by omega) (fun hs => by have := hS k hs; omega)⟩
theorem Only.lt {S : Nat → Prop} {a b : World} (h : Only S a b) {k : Nat} (hk : k < a.heap.size) : k < b.heap.size := Nat.lt_of_lt_of_le hk h.size

theorem lt_of_some {w : World} {b : Nat} {o : Obj} (h : w.heap[b]? = some o) : b < w.heap.size := (Array.getElem?_eq_some_iff.1 h).1
theorem Only.keep {S : Nat → Prop} {a b : World} (h : Only S a b) {k : Nat} {o : Obj} (hk : a.heap[k]? = some o) (hs : ¬ S k) : b.heap[k]? = some o :=
  (h.block k (lt_of_some hk) hs).trans hk

/-- Bytes as the model's cells. -/
def u8s (xs : List UInt8) : List Value := xs.map fun b => Value.int .u8 b.toNat
theorem u8s_length (xs : List UInt8) : (u8s xs).length = xs.length := by simp [u8s]
theorem u8s_append (xs ys : List UInt8) : u8s (xs ++ ys) = u8s xs ++ u8s ys := by simp [u8s]
theorem u8s_oneCell (xs : List UInt8) : ∀ u ∈ u8s xs, u.oneCell' = true := by
  intro u hu; simp [u8s] at hu; obtain ⟨b, _, rfl⟩ := hu; rfl

/-- A slice value whose cells read as these bytes, wherever they lie. -/
def SlC (w : World) (v : Value) (xs : List UInt8) : Prop :=
  (v = .slice none 0 0 ∧ xs = []) ∨ ∃ a cap, v = .slice (some a) xs.length cap ∧ ∀ j, j < xs.length → w.cell? (a.add j) = some (.int .u8 (xs.getD j 0).toNat)

theorem u8s_get {xs : List UInt8} {j : Nat} {u : Value} (h : (u8s xs)[j]? = some u) : j < xs.length ∧ u = .int .u8 (xs.getD j 0).toNat := by
  simp only [u8s, List.getElem?_map, Option.map_eq_some_iff] at h
  obtain ⟨b, hb, rfl⟩ := h
  obtain ⟨hj, rfl⟩ := List.getElem?_eq_some_iff.1 hb
  exact ⟨hj, by simp [hj]⟩
theorem u8s_at {xs : List UInt8} {j : Nat} (h : j < xs.length) : (u8s xs)[j]? = some (.int .u8 (xs.getD j 0).toNat) := by
  simp [u8s, h]

theorem add_lit (g off j : Nat) : (⟨g, off, none⟩ : Addr).add j = ⟨g, off + j, none⟩ := by unfold Addr.add; split <;> simp_all

/-- A slice of int that reads as these numbers. -/
def SlI (w : World) (ao : Option Addr) (ks : List Int) : Prop :=
  ∀ j, j < ks.length → ∃ g off, ao = some ⟨g, off, none⟩ ∧ w.cell? ⟨g, off + j, none⟩ = some (.int .i64 (ks.getD j 0))

theorem SlC.shape {w : World} {v : Value} {xs : List UInt8} (h : SlC w v xs) : ∃ ao cap, v = .slice ao xs.length cap := by
  rcases h with ⟨rfl, rfl⟩ | ⟨a, cap, rfl, _⟩
  · exact ⟨none, 0, rfl⟩
  · exact ⟨_, cap, rfl⟩

theorem Only.cellq {a b : World} (h : Only (fun _ => False) a b) {p : Addr} {v : Value} (hc : a.cell? p = some v) : b.cell? p = some v :=
  (World.cell?_of_block (h.block p.block (World.block_lt_of_cell? a p hc) (fun h => h))).trans hc
theorem SlC.keep {w w' : World} {v : Value} {xs : List UInt8} (h : SlC w v xs) (ho : Only (fun _ => False) w w') : SlC w' v xs := by
  rcases h with h | ⟨a, cap, rfl, hc⟩
  · exact .inl h
  · exact .inr ⟨a, cap, rfl, fun j hj => ho.cellq (hc j hj)⟩

theorem own_shape {w : World} {b : Nat} {e : TypeId} {v : Value} {n : Nat} {xs : List Value} (h : w.ownsRow b e 1 v n xs) : ∃ ao cap, v = .slice ao n cap := by
  rcases h.2 with ⟨rfl, rfl⟩ | ⟨g, cap, cur, rfl, _⟩
  · exact ⟨none, 0, rfl⟩
  · exact ⟨_, cap, rfl⟩

theorem own_keep {w w' : World} {B : Nat} {e : TypeId} {size : Nat} {v : Value} {n : Nat} {xs : List Value} (h : w.ownsRow B e size v n xs) (ho : Only (fun _ => False) w w') : w'.ownsRow B e size v n xs := by
  refine ⟨h.1, ?_⟩
  rcases h.2 with h0 | ⟨g, cap, cur, rfl, hb, hg, rest⟩
  · exact .inl h0
  · exact .inr ⟨g, cap, cur, rfl, hb, ho.keep hg (fun h => h), rest⟩

def Quiet (w : World) (w' : World) : Prop := Only (fun _ => False) w w'

theorem own_shapeN {w : World} {b : Nat} {e : TypeId} {size : Nat} {v : Value} {n : Nat} {xs : List Value} (h : w.ownsRow b e size v n xs) : ∃ ao cap, v = .slice ao n cap := by
  rcases h.2 with ⟨rfl, rfl⟩ | ⟨g, cap, cur, rfl, _⟩
  · exact ⟨none, 0, rfl⟩
  · exact ⟨_, cap, rfl⟩
theorem own_lt {w : World} {b : Nat} {e : TypeId} {size : Nat} {v : Value} {n : Nat} {xs : List Value} (h : w.ownsRow b e size v n xs) {k : Nat} (hk : v.ownBlock = some k) : k < w.heap.size := by
  rcases h.2 with ⟨rfl, rfl⟩ | ⟨g, cap, cur, rfl, _, hg, _⟩
  · simp [Value.ownBlock] at hk
  · simp [Value.ownBlock] at hk; subst hk; exact lt_of_some hg
theorem own_keepAt {w w' : World} {B : Nat} {e : TypeId} {size : Nat} {v : Value} {n : Nat} {xs : List Value} (h : w.ownsRow B e size v n xs) (hk : ∀ k, v.ownBlock = some k → w'.heap[k]? = w.heap[k]?) : w'.ownsRow B e size v n xs := by
  refine ⟨h.1, ?_⟩
  rcases h.2 with h0 | ⟨g, cap, cur, rfl, hb, hg, rest⟩
  · exact .inl h0
  · exact .inr ⟨g, cap, cur, rfl, hb, (hk g rfl).trans hg, rest⟩
theorem own_type {w : World} {b : Nat} {e : TypeId} {size : Nat} {v : Value} {n : Nat} {xs : List Value} (h : w.ownsRow b e size v n xs) {k : Nat} {cs : Array Value} {t : TypeId} {fr : Nat × Nat} (hb : w.heap[k]? = some (.cells cs t fr)) (ht : t ≠ e) : v.ownBlock ≠ some k := by
  intro hk
  rcases h.2 with ⟨rfl, rfl⟩ | ⟨g, cap, cur, rfl, _, hg, _⟩
  · simp [Value.ownBlock] at hk
  · simp [Value.ownBlock] at hk
    subst hk
    rw [hg] at hb
    simp at hb
    exact ht hb.2.1.symm

/-- A slice of bytes that reads as xs, and lies in none of the blocks F. -/
def SlO (w : World) (F : Nat → Prop) (v : Value) (xs : List UInt8) : Prop := SlC w v xs ∧ ∀ a n c, v = .slice (some a) n c → xs ≠ [] → ¬ F a.block
theorem add_block (a : Addr) (j : Nat) : (a.add j).block = a.block := by unfold Addr.add; split <;> rfl
theorem SlC.keepAt {w w' : World} {F : Nat → Prop} {v : Value} {xs : List UInt8} (h : SlO w F v xs) (hk : ∀ k, k < w.heap.size → ¬ F k → w'.heap[k]? = w.heap[k]?) : SlC w' v xs := by
  obtain ⟨h, hF⟩ := h
  rcases h with h | ⟨a, cap, rfl, hc⟩
  · exact .inl h
  · refine .inr ⟨a, cap, rfl, fun j hj => ?_⟩
    have h1 := hc j hj
    have hb : (a.add j).block < w.heap.size := World.block_lt_of_cell? w _ h1
    refine (World.cell?_of_block (hk _ hb ?_)).trans h1
    rw [add_block]
    exact hF a _ _ rfl (fun e => by subst e; simp at hj)
theorem SlO.keep {w w' : World} {F : Nat → Prop} {v : Value} {xs : List UInt8} (h : SlO w F v xs) (ho : Only F w w') : SlO w' F v xs :=
  ⟨SlC.keepAt h ho.block, h.2⟩
theorem SlO.quiet {w w' : World} {F : Nat → Prop} {v : Value} {xs : List UInt8} (h : SlO w F v xs) (ho : Only (fun _ => False) w w') : SlO w' F v xs :=
  ⟨h.1.keep ho, h.2⟩
/-- What was there when the statement began lies in no block that is newer. -/
theorem SlC.old {w0 w : World} {F : Nat → Prop} {v : Value} {xs : List UInt8} (h : SlC w0 v xs) (ho : Only (fun _ => False) w0 w) (hF : ∀ k, F k → w0.heap.size ≤ k) : SlO w F v xs := by
  refine ⟨h.keep ho, fun a n c e hx hk => ?_⟩
  rcases h with ⟨rfl, rfl⟩ | ⟨b, cap, rfl, hc⟩
  · exact hx rfl
  · simp at e
    obtain ⟨rfl, _, _⟩ := e
    have h0 : 0 < xs.length := List.length_pos_iff.2 hx
    have h1 := World.block_lt_of_cell? w0 _ (hc 0 h0)
    rw [add_block] at h1
    have := hF _ hk
    omega

/-! ### Parts of memory, side by side -/
/-- A part of memory: what holds of a world, and which blocks it takes. -/
abbrev Res := World → (Nat → Prop) → Prop
class Stab (I : Res) : Prop where
  lt : ∀ {w : World} {F : Nat → Prop}, I w F → ∀ k, F k → k < w.heap.size
  keep : ∀ {w w' : World} {F : Nat → Prop}, I w F → (∀ k, F k → w'.heap[k]? = w.heap[k]?) → I w' F
def Sep (I J : Res) : Res := fun w F => ∃ A B : Nat → Prop, I w A ∧ J w B ∧ (∀ k, A k → ¬ B k) ∧ ∀ k, F k ↔ A k ∨ B k
def Emp : Res := fun _ F => ∀ k, ¬ F k
def Blk (k : Nat) (o : Obj) : Res := fun w F => w.heap[k]? = some o ∧ ∀ i, F i ↔ i = k
def ExR {α : Type} (I : α → Res) : Res := fun w F => ∃ x, I x w F
def AndR (p : Prop) (I : Res) : Res := fun w F => p ∧ I w F
instance {I J : Res} [Stab I] [Stab J] : Stab (Sep I J) where
  lt := by
    rintro w F ⟨A, B, hA, hB, hd, hF⟩ k hk
    rcases (hF k).1 hk with h | h
    · exact Stab.lt hA k h
    · exact Stab.lt hB k h
  keep := by
    rintro w w' F ⟨A, B, hA, hB, hd, hF⟩ hk
    exact ⟨A, B, Stab.keep hA (fun k h => hk k ((hF k).2 (.inl h))), Stab.keep hB (fun k h => hk k ((hF k).2 (.inr h))), hd, hF⟩
instance : Stab Emp where
  lt := fun h k hk => (h k hk).elim
  keep := fun h _ => h
instance {k : Nat} {o : Obj} : Stab (Blk k o) where
  lt := fun h i hi => by rw [(h.2 i).1 hi]; exact lt_of_some h.1
  keep := fun h hk => ⟨(hk k ((h.2 k).2 rfl)).trans h.1, h.2⟩
instance {α : Type} {I : α → Res} [∀ x, Stab (I x)] : Stab (ExR I) where
  lt := fun ⟨_, h⟩ => Stab.lt h
  keep := fun ⟨x, h⟩ hk => ⟨x, Stab.keep h hk⟩
instance {p : Prop} {I : Res} [Stab I] : Stab (AndR p I) where
  lt := fun ⟨_, h⟩ => Stab.lt h
  keep := fun ⟨x, h⟩ hk => ⟨x, Stab.keep h hk⟩
theorem Sep.comm {I J : Res} {w : World} {F : Nat → Prop} (h : Sep I J w F) : Sep J I w F := by
  obtain ⟨A, B, hA, hB, hd, hF⟩ := h
  exact ⟨B, A, hB, hA, fun k h1 h2 => hd k h2 h1, fun k => (hF k).trans Or.comm⟩
theorem Sep.assoc {I J K : Res} {w : World} {F : Nat → Prop} (h : Sep (Sep I J) K w F) : Sep I (Sep J K) w F := by
  obtain ⟨AB, C, ⟨A, B, hA, hB, hd, hF⟩, hC, hd2, hF2⟩ := h
  refine ⟨A, fun k => B k ∨ C k, hA, ⟨B, C, hB, hC, fun k h1 h2 => hd2 k ((hF k).2 (.inr h1)) h2, fun k => Iff.rfl⟩, fun k h1 h2 => ?_, fun k => ?_⟩
  · rcases h2 with h2 | h2
    · exact hd k h1 h2
    · exact hd2 k ((hF k).2 (.inl h1)) h2
  · rw [hF2, hF, or_assoc]
theorem Sep.imp {I J I' J' : Res} {w : World} {F : Nat → Prop} (h : Sep I J w F) (hI : ∀ A, I w A → I' w A) (hJ : ∀ B, J w B → J' w B) : Sep I' J' w F := by
  obtain ⟨A, B, hA, hB, hd, hF⟩ := h
  exact ⟨A, B, hI A hA, hJ B hB, hd, hF⟩

/-- What a statement has made since it began in w0: parts of memory in blocks of its own; nothing that was there has changed. -/
def Own (w0 w : World) (I : Res) : Prop := ∃ F : Nat → Prop, I w F ∧ (∀ k, F k → w0.heap.size ≤ k) ∧ Only (fun _ => False) w0 w
theorem Own.only {w0 w : World} {I : Res} (h : Own w0 w I) : Only (fun _ => False) w0 w := h.choose_spec.2.2
theorem Own.start (w : World) : Own w w Emp := ⟨fun _ => False, fun _ h => h, fun _ h => h.elim, Only.refl _ _⟩
theorem Own.imp {w0 w : World} {I J : Res} (h : Own w0 w I) (hI : ∀ F, I w F → J w F) : Own w0 w J := by
  obtain ⟨F, h1, h2, h3⟩ := h
  exact ⟨F, hI F h1, h2, h3⟩
theorem Own.comm {w0 w : World} {I J : Res} (h : Own w0 w (Sep I J)) : Own w0 w (Sep J I) := h.imp fun _ => Sep.comm
theorem Own.assoc {w0 w : World} {I J K : Res} (h : Own w0 w (Sep (Sep I J) K)) : Own w0 w (Sep I (Sep J K)) := h.imp fun _ => Sep.assoc
theorem Own.assoc' {w0 w : World} {I J K : Res} (h : Own w0 w (Sep I (Sep J K))) : Own w0 w (Sep (Sep I J) K) :=
  h.imp fun _ h => (Sep.comm (Sep.assoc (Sep.comm (Sep.assoc (Sep.comm h)))))
theorem Own.fst {w0 w : World} {I J : Res} (h : Own w0 w (Sep I J)) : Own w0 w I := by
  obtain ⟨F, ⟨A, B, hA, hB, hd, hF⟩, h2, h3⟩ := h
  exact ⟨A, hA, fun k hk => h2 k ((hF k).2 (.inl hk)), h3⟩
theorem Own.snd {w0 w : World} {I J : Res} (h : Own w0 w (Sep I J)) : Own w0 w J := h.comm.fst
theorem Own.quiet {w0 w w' : World} {I : Res} [Stab I] (h : Own w0 w I) (ho : Only (fun _ => False) w w') : Own w0 w' I := by
  obtain ⟨F, h1, h2, h3⟩ := h
  exact ⟨F, Stab.keep h1 (fun k hk => ho.block k (Stab.lt h1 k hk) (fun h => h)), h2, h3.trans ho (fun _ _ h => h)⟩
theorem Own.drew {w0 w : World} {I : Res} [Stab I] (h : Own w0 w I) : Own w0 w.drew I := h.quiet ((Only.refl _ w).drew)
theorem Own.drewN {w0 w : World} {I : Res} [Stab I] (h : Own w0 w I) (n : Nat) : Own w0 (w.drewN n) I := h.quiet ((Only.refl _ w).drewN n)
/-- Something in new blocks. -/
theorem Own.fresh {w0 w w' : World} {I J : Res} [Stab I] (h : Own w0 w I) (ho : Only (fun _ => False) w w') {B : Nat → Prop} (hJ : J w' B) (hB : ∀ k, B k → w.heap.size ≤ k) : Own w0 w' (Sep J I) := by
  obtain ⟨F, h1, h2, h3⟩ := h
  exact ⟨fun k => B k ∨ F k, ⟨B, F, hJ, Stab.keep h1 (fun k hk => ho.block k (Stab.lt h1 k hk) (fun h => h)), fun k a b => by have := hB k a; have := Stab.lt h1 k b; omega, fun k => Iff.rfl⟩,
    fun k hk => hk.elim (fun a => by have := hB k a; have := h3.size; omega) (h2 k), h3.trans ho (fun _ _ h => h)⟩
theorem Own.alloc {w0 w : World} {I : Res} [Stab I] (h : Own w0 w I) (o : Obj) : Own w0 (w.alloc o) (Sep (Blk w.heap.size o) I) :=
  h.fresh ((Only.refl _ w).alloc o) (B := fun k => k = w.heap.size) ⟨heap_alloc_new w o, fun i => Iff.rfl⟩ (fun k e => by omega)

theorem Own.swap {w0 w : World} {I J K : Res} (h : Own w0 w (Sep I (Sep J K))) : Own w0 w (Sep J (Sep I K)) := (h.assoc'.imp fun _ h => h.imp (fun _ h => Sep.comm h) (fun _ h => h)).assoc
theorem Own.drop2 {w0 w : World} {I J K : Res} (h : Own w0 w (Sep I (Sep J K))) : Own w0 w (Sep I K) := h.swap.snd
/-- A new block beside the first part. -/
theorem Own.lend {w0 w : World} {I J : Res} [Stab I] [Stab J] (h : Own w0 w (Sep I J)) (o : Obj) : Own w0 (w.alloc o) (Sep I (Sep (Blk w.heap.size o) J)) := (h.alloc o).swap
/-- Bytes in a block of their own. -/
def Row (g : Nat) (t : TypeId) (xs : List UInt8) (fr : Nat × Nat := (0, 0)) : Res := Blk g (.cells (u8s xs).toArray t fr)
instance {g : Nat} {t : TypeId} {xs : List UInt8} {fr : Nat × Nat} : Stab (Row g t xs fr) := inferInstanceAs (Stab (Blk g _))
theorem row_bytes {w : World} {g : Nat} {xs : List UInt8} {t : TypeId} {fr : Nat × Nat} {n cap : Nat} (h : w.heap[g]? = some (.cells (u8s xs).toArray t fr)) (hn : n ≤ xs.length) : SlC w (.slice (some ⟨g, 0, none⟩) n cap) (xs.take n) := by
  refine .inr ⟨⟨g, 0, none⟩, cap, by simp [Nat.min_eq_left hn], fun j hj => ?_⟩
  rw [add_lit, cell_of_row w g _ _ _ _ h]
  simp at hj
  simp only [Nat.zero_add, List.getElem?_toArray]
  rw [u8s_at (by omega)]
  congr 3
  simp [List.getD_eq_getElem?_getD, show j < n by omega]
theorem row_bytes' {w : World} {g : Nat} {xs : List UInt8} {t : TypeId} {fr : Nat × Nat} {n cap : Nat} (h : w.heap[g]? = some (.cells (u8s xs).toArray t fr)) (hn : n = xs.length) : SlC w (.slice (some ⟨g, 0, none⟩) n cap) xs := by
  have := row_bytes (n := n) (cap := cap) h (Nat.le_of_eq hn)
  rwa [List.take_of_length_le (Nat.le_of_eq hn.symm)] at this
/-- What lies in a row of its own lies in no block of another part. -/
theorem Row.apart {w : World} {g n c : Nat} {t : TypeId} {xs : List UInt8} {fr : Nat × Nat} {J : Res} {F B : Nat → Prop} (hJ : Sep (Row g t xs fr) J w B) (hd : ∀ k, F k → ¬ B k) (hn : n = xs.length) : SlO w F (.slice (some ⟨g, 0, none⟩) n c) xs := by
  obtain ⟨A, C, hA, hC, hac, hB⟩ := hJ
  refine ⟨row_bytes' hA.1 hn, fun a m c e hx hk => ?_⟩
  simp at e
  obtain ⟨rfl, _, _⟩ := e
  exact hd _ hk ((hB _).2 (.inl ((hA.2 _).2 rfl)))
theorem Own.row {w0 w : World} {g : Nat} {t : TypeId} {xs : List UInt8} {fr : Nat × Nat} (h : Own w0 w (Row g t xs fr)) : w.heap[g]? = some (.cells (u8s xs).toArray t fr) := by
  obtain ⟨F, h1, _⟩ := h
  exact h1.1

/-- What a call leaves of a part of memory: it answers 'val x', the part is then 'Q x'; of what was there only the part's blocks have changed, and what it has taken besides is new. -/
def Post {α : Type} (w : World) (F : Nat → Prop) (val : α → Value) (Q : α → Res) (e : Ending) (w' : World) : Prop :=
  ∃ (x : α) (F' : Nat → Prop), e = .returned (val x) ∧ Q x w' F' ∧ (∀ k, F' k → F k ∨ w.heap.size ≤ k) ∧ Only F w w'
theorem Own.call {α : Type} {w0 w : World} {val : α → Value} {Q : α → Res} {I J : Res} [Stab J] {P : Program} {f : FuncId} {args : Array Value} (h : Own w0 w (Sep I J))
    (c : ∀ F B : Nat → Prop, I w F → J w B → (∀ k, F k → ¬ B k) → (∀ k, F k → w0.heap.size ≤ k) → Calls P f args w (Post w F val Q)) :
    Calls P f args w fun e w' => ∃ x, e = .returned (val x) ∧ Own w0 w' (Sep (Q x) J) := by
  obtain ⟨F, ⟨A, B, hA, hB, hd, hF⟩, h2, h3⟩ := h
  refine (c A B hA hB hd (fun k hk => h2 k ((hF k).2 (.inl hk)))).mono ?_
  rintro e w' ⟨x, F', rfl, hQ, hsub, ho⟩
  refine ⟨x, rfl, fun k => F' k ∨ B k, ⟨F', B, hQ, Stab.keep hB (fun k hk => ho.block k (Stab.lt hB k hk) (fun h => hd k h hk)), fun k a b => ?_, fun k => Iff.rfl⟩, fun k hk => ?_, h3.trans ho (fun k hk a => ?_)⟩
  · rcases hsub k a with h | h
    · exact hd k h b
    · have := Stab.lt hB k b; omega
  · rcases hk with hk | hk
    · rcases hsub k hk with h | h
      · exact h2 k ((hF k).2 (.inl h))
      · have := h3.size; omega
    · exact h2 k ((hF k).2 (.inr hk))
  · have := h2 k ((hF k).2 (.inl a)); omega
theorem Own.call1 {α : Type} {w0 w : World} {val : α → Value} {Q : α → Res} {I : Res} {P : Program} {f : FuncId} {args : Array Value} (h : Own w0 w I)
    (c : ∀ F : Nat → Prop, I w F → (∀ k, F k → w0.heap.size ≤ k) → Calls P f args w (Post w F val Q)) :
    Calls P f args w fun e w' => ∃ x, e = .returned (val x) ∧ Own w0 w' (Q x) := by
  have h' : Own w0 w (Sep I Emp) := h.imp fun F hF => ⟨F, fun _ => False, hF, fun _ h => h, fun _ _ h => h, fun k => by simp⟩
  refine (h'.call (fun F B hI _ _ hF => c F hI hF)).mono ?_
  rintro e w' ⟨x, rfl, hq⟩
  exact ⟨x, rfl, hq.fst⟩
theorem Post.of {α : Type} {w : World} {F : Nat → Prop} {val : α → Value} {Q : α → Res} {e : Ending} {w' : World} (x : α) (F' : Nat → Prop) (he : e = .returned (val x)) (hQ : Q x w' F') (hs : ∀ k, F' k → F k ∨ w.heap.size ≤ k) (ho : Only F w w') : Post w F val Q e w' :=
  ⟨x, F', he, hQ, hs, ho⟩

end Go.Proofs.YtgkcflindenboaaDoor

namespace Go.Proofs.YtgkcflindenboaaDoor
open Go Go.RowKit
set_option linter.unusedVariables false
set_option linter.unusedSimpArgs false
set_option maxRecDepth 100000
set_option linter.unusedSimpArgs false
set_option maxRecDepth 100000

/-- The lowest k bytes of x, the highest first. -/
def beB : Nat → Nat → List UInt8
  | 0, _ => []
  | k + 1, x => UInt8.ofNat (x / 256 ^ k) :: beB k x
theorem beB_length (k x : Nat) : (beB k x).length = k := by induction k with
  | zero => rfl
  | succ k ih => simp [beB, ih]
/-- Blocks that a put into the Out at p may change. -/
def OutS (p : Nat) (v : Value) (k : Nat) : Prop := k = p ∨ v.ownBlock = some k
theorem OutS.sub {w : World} {p : Nat} {v v' : Value} (hb : v'.ownBlock = v.ownBlock ∨ ∃ g, v'.ownBlock = some g ∧ w.heap.size ≤ g) : ∀ k, k < w.heap.size → OutS p v' k → OutS p v k := by
  intro k hk h
  rcases h with rfl | h
  · exact .inl rfl
  · rcases hb with hb | ⟨g, hg, hge⟩
    · exact .inr (hb ▸ h)
    · rw [hg] at h; simp at h; omega
theorem row_trans {w wr : World} {v v1 v2 : Value} (h : w.heap.size ≤ wr.heap.size) (h1 : v1.ownBlock = v.ownBlock ∨ ∃ g, v1.ownBlock = some g ∧ w.heap.size ≤ g)
    (h2 : v2.ownBlock = v1.ownBlock ∨ ∃ g, v2.ownBlock = some g ∧ wr.heap.size ≤ g) : v2.ownBlock = v.ownBlock ∨ ∃ g, v2.ownBlock = some g ∧ w.heap.size ≤ g := by
  rcases h2 with h2 | ⟨g, hg, hge⟩
  · rw [h2]; exact h1
  · exact .inr ⟨g, hg, by omega⟩
theorem shift_at (x m : Nat) (hm : m ≤ 7) : Op.shift .shr .u64 (x : Int) .i64 (IntKind.i64.wrap (8 * (m : Int))) = pure (.int .u64 ((x / 256 ^ m : Nat) : Int)) := by
  have e : IntKind.i64.wrap (8 * (m : Int)) = ((8 * m : Nat) : Int) := by
    rw [IntWalk.i64_in _ (by omega)]; omega
  rw [e, shift_shr .u64 .i64 _ _ (by omega) (by simp [IntKind.bits]; omega)]
  congr 2
  have h2 : (256 : Nat) ^ m = 2 ^ (8 * m) := by rw [Nat.pow_mul]
  rw [h2]
  have h3 : ((8 * m : Nat) : Int).toNat = 8 * m := by omega
  rw [h3]
  norm_cast
/-- The number in these bytes, the highest first. -/
def numB (l : List UInt8) : Nat := l.foldl (fun x b => x * 256 + b.toNat) 0
theorem numB_snoc (l : List UInt8) (b : UInt8) : numB (l ++ [b]) = numB l * 256 + b.toNat := by simp [numB]
theorem numB_lt (k : Nat) : ∀ l : List UInt8, l.length = k → numB l < 256 ^ k := by
  induction k with
  | zero => intro l hl; obtain rfl : l = [] := List.length_eq_zero_iff.1 hl; simp [numB]
  | succ k ih =>
    intro l hl
    have hne : l ≠ [] := by intro h; subst h; simp at hl
    rw [← List.dropLast_concat_getLast hne, numB_snoc, Nat.pow_succ]
    have := ih l.dropLast (by simp [hl])
    have := (l.getLast hne).toNat_lt
    omega
theorem take_snoc8 (l : List UInt8) (k : Nat) (h : k < l.length) : l.take (k + 1) = l.take k ++ [l.getD k 0] := by
  rw [List.take_succ_eq_append_getElem h]; simp [h]
theorem or_step (x b : Nat) (hx : x < 72057594037927936) (hb : b < 256) : bits .or .u64 ((x : Int) * 256) (IntKind.u64.wrap (b : Int)) = ((x * 256 + b : Nat) : Int) := by
  have e1 : IntKind.u64.wrap (b : Int) = (b : Int) := by rw [IntKind.wrap_u64]; omega
  have e2 : (x : Int) * 256 = ((x * 256 : Nat) : Int) := by omega
  rw [e1, e2, bits_or_u64_nat _ _ (by omega) (by omega)]
  congr 1
  have := Nat.two_pow_add_eq_or_of_lt (i := 8) (b := b) (by omega) x
  rw [Nat.mul_comm x 256]
  exact this.symm
theorem numB_take_lt (ys : List UInt8) (k : Nat) (hk : k < ys.length) (h8 : ys.length ≤ 8) : numB (ys.take k) < 72057594037927936 := by
  have h1 := numB_lt k (ys.take k) (by simp; omega)
  have h2 : 256 ^ k ≤ 256 ^ 7 := Nat.pow_le_pow_right (by omega) (by omega)
  omega
theorem foldB (l : List UInt8) : ∀ a : Nat, l.foldl (fun x b => x * 256 + b.toNat) a = a * 256 ^ l.length + numB l := by
  induction l with
  | nil => intro a; simp [numB]
  | cons b l ih =>
    intro a
    simp only [List.foldl_cons, List.length_cons, numB, Nat.pow_succ]
    rw [ih, ih (0 * 256 + b.toNat)]
    simp only [Nat.zero_mul, Nat.zero_add, Nat.add_mul]
    rw [Nat.mul_assoc a 256, Nat.mul_comm 256, Nat.add_assoc]
theorem numB_append (l m : List UInt8) : numB (l ++ m) = numB l * 256 ^ m.length + numB m := by
  unfold numB
  rw [List.foldl_append]
  exact foldB m _
theorem numB_be (x : Nat) : ∀ k : Nat, numB (beB k x) = x % 256 ^ k := by
  intro k
  induction k with
  | zero => simp [beB, numB, Nat.mod_one]
  | succ k ih =>
    have h := numB_append [UInt8.ofNat (x / 256 ^ k)] (beB k x)
    simp only [List.singleton_append] at h
    rw [beB, h, ih, beB_length, Nat.pow_succ, Nat.mod_mul]
    simp [numB]
    rw [Nat.mul_comm]
    omega
/-- A sector that holds a part is the part's bytes with zeros behind them. -/
theorem beB_mod : ∀ (k a b : Nat), a % 256 ^ k = b % 256 ^ k → beB k a = beB k b
  | 0, _, _, _ => rfl
  | k + 1, a, b, h => by
    have h1 : a % 256 ^ k = b % 256 ^ k := by
      rw [← Nat.mod_mod_of_dvd a (Nat.pow_dvd_pow 256 (Nat.le_succ k)), h, Nat.mod_mod_of_dvd b (Nat.pow_dvd_pow 256 (Nat.le_succ k))]
    have h2 : a / 256 ^ k % 256 = b / 256 ^ k % 256 := by
      rw [Nat.pow_succ] at h
      rw [← Nat.mod_mul_right_div_self, ← Nat.mod_mul_right_div_self, h]
    rw [beB, beB, beB_mod k a b h1]
    congr 1
    rw [← UInt8.toNat_inj]
    simpa using h2
theorem beB_numB : ∀ (k : Nat) (l : List UInt8), l.length = k → beB k (numB l) = l
  | 0, l, h => by rw [List.eq_nil_of_length_eq_zero h]; rfl
  | k + 1, l, h => by
    match l, h with
    | b :: r, h =>
      have hr : r.length = k := by simpa using h
      have h1 := numB_append [b] r
      simp only [List.singleton_append] at h1
      have h2 : numB [b] = b.toNat := by simp [numB]
      rw [h2, hr] at h1
      have hlt := numB_lt k r hr
      rw [beB, h1]
      have e1 : (b.toNat * 256 ^ k + numB r) / 256 ^ k = b.toNat := by
        rw [Nat.mul_comm, Nat.mul_add_div (Nat.pow_pos (by decide)), Nat.div_eq_of_lt hlt, Nat.add_zero]
      rw [e1]
      have e2 : beB k (b.toNat * 256 ^ k + numB r) = beB k (numB r) := beB_mod k _ _ (by rw [Nat.mul_comm, Nat.mul_add_mod])
      rw [e2, beB_numB k r hr]
      simp
theorem numB_be' (x k : Nat) (h : x < 256 ^ k) : numB (beB k x) = x := by rw [numB_be, Nat.mod_eq_of_lt h]

end Go.Proofs.YtgkcflindenboaaDoor

namespace Go.Proofs.YtgkcflindenboaaDoor
set_option linter.unusedVariables false
set_option linter.unusedSimpArgs false
set_option maxRecDepth 100000

/-- A value: its kind, its number, its bytes. -/
structure Vl where
  K : Int
  N : Nat
  S : List UInt8
deriving DecidableEq

/-- Of valid UTF-8's first piece: how many bytes it takes (0: none). -/
def u8len (l : List UInt8) : Nat :=
  match l with
  | [] => 0
  | c :: r =>
    let c := c.toNat
    if c < 128 then 1
    else
      let n := if 194 ≤ c ∧ c < 224 then 2 else if 224 ≤ c ∧ c < 240 then 3 else if 240 ≤ c ∧ c < 245 then 4 else 0
      let low := if n = 2 then 128 else if n = 3 then 2048 else 65536
      let x0 := if n = 2 then c - 192 else if n = 3 then c - 224 else c - 240
      if n = 0 ∨ r.length + 1 < n then 0
      else if ((r.take (n - 1)).all fun d => decide (128 ≤ d.toNat) && decide (d.toNat < 192)) = true then
        let x := (r.take (n - 1)).foldl (fun x d => x * 64 + d.toNat - 128) x0
        if x < low ∨ 1114111 < x ∨ (55296 ≤ x ∧ x < 57344) then 0 else n
      else 0
def utf8F : Nat → List UInt8 → Bool
  | _, [] => true
  | 0, _ :: _ => false
  | f + 1, l => if u8len l = 0 then false else utf8F f (l.drop (u8len l))
def utf8B (l : List UInt8) : Bool := utf8F l.length l

def Vl.okB (v : Vl) : Bool :=
  if v.K = 0 then decide (v.N = 0) && v.S.isEmpty
  else if v.K = 1 ∨ v.K = 2 then v.S.isEmpty
  else if v.K = 3 then decide (v.N < 2) && v.S.isEmpty
  else if v.K = 4 then decide (v.N = 0) && decide (v.S.length ≤ 64)
  else if v.K = 5 then decide (v.N = 0) && (decide (v.S.length ≤ 64) && utf8B v.S)
  else false

/-- A number as a signed one. -/
def sgn (n : Nat) : Int := if n < 9223372036854775808 then (n : Int) else (n : Int) - 18446744073709551616
/-- The order of byte strings. -/
def bcmp : List UInt8 → List UInt8 → Int
  | [], [] => 0
  | [], _ :: _ => -1
  | _ :: _, [] => 1
  | a :: x, b :: y => if a.toNat < b.toNat then -1 else if b.toNat < a.toNat then 1 else bcmp x y
def vcmp (a b : Vl) : Int :=
  if a.K ≠ b.K then (if a.K < b.K then -1 else 1)
  else if a.N ≠ b.N then (if (if a.K = 1 then decide (sgn a.N < sgn b.N) else decide (a.N < b.N)) = true then -1 else 1)
  else bcmp a.S b.S

theorem bcmp_self : ∀ x, bcmp x x = 0
  | [] => rfl
  | a :: x => by simp [bcmp, bcmp_self x]
theorem bcmp_neg : ∀ x y, bcmp x y = - bcmp y x
  | [], [] => rfl
  | [], _ :: _ => rfl
  | _ :: _, [] => rfl
  | a :: x, b :: y => by
    simp only [bcmp]
    by_cases h1 : a.toNat < b.toNat
    · rw [if_pos h1, if_neg (by omega), if_pos h1]
    · rw [if_neg h1]
      by_cases h2 : b.toNat < a.toNat
      · rw [if_pos h2, if_pos h2]; rfl
      · rw [if_neg h2, if_neg h2, if_neg h1]
        exact bcmp_neg x y
theorem bcmp_range : ∀ x y, bcmp x y = -1 ∨ bcmp x y = 0 ∨ bcmp x y = 1
  | [], [] => .inr (.inl rfl)
  | [], _ :: _ => .inl rfl
  | _ :: _, [] => .inr (.inr rfl)
  | a :: x, b :: y => by
    simp only [bcmp]
    split
    · exact .inl rfl
    · split
      · exact .inr (.inr rfl)
      · exact bcmp_range x y
theorem bcmp_eq : ∀ x y, bcmp x y = 0 ↔ x = y
  | [], [] => by simp [bcmp]
  | [], _ :: _ => by simp [bcmp]
  | _ :: _, [] => by simp [bcmp]
  | a :: x, b :: y => by
    simp only [bcmp]
    by_cases h1 : a.toNat < b.toNat
    · rw [if_pos h1]
      constructor
      · intro h; cases h
      · intro h; cases h; omega
    · rw [if_neg h1]
      by_cases h2 : b.toNat < a.toNat
      · rw [if_pos h2]
        constructor
        · intro h; cases h
        · intro h; cases h; omega
      · rw [if_neg h2, bcmp_eq x y]
        have : a = b := UInt8.toNat_inj.1 (by omega)
        simp [this]
theorem bcmp_trans : ∀ x y z, bcmp x y ≤ 0 → bcmp y z ≤ 0 → bcmp x z ≤ 0
  | [], y, [], _, _ => by simp [bcmp]
  | [], y, _ :: _, _, _ => by simp [bcmp]
  | _ :: _, [], z, h, _ => by simp [bcmp] at h
  | _ :: _, _ :: _, [], _, h => by simp [bcmp] at h
  | a :: x, b :: y, c :: z, h1, h2 => by
    simp only [bcmp] at h1 h2 ⊢
    by_cases k1 : a.toNat < b.toNat
    · by_cases k2 : b.toNat < c.toNat
      · rw [if_pos (by omega)]; decide
      · rw [if_neg k2] at h2
        by_cases k3 : c.toNat < b.toNat
        · rw [if_pos k3] at h2; exact absurd h2 (by decide)
        · rw [if_pos (by omega)]; decide
    · rw [if_neg k1] at h1
      by_cases k4 : b.toNat < a.toNat
      · rw [if_pos k4] at h1; exact absurd h1 (by decide)
      · rw [if_neg k4] at h1
        by_cases k2 : b.toNat < c.toNat
        · rw [if_pos (by omega)]; decide
        · rw [if_neg k2] at h2
          by_cases k3 : c.toNat < b.toNat
          · rw [if_pos k3] at h2; exact absurd h2 (by decide)
          · rw [if_neg k3] at h2
            rw [if_neg (by omega), if_neg (by omega)]
            exact bcmp_trans x y z h1 h2

theorem sgn_inj {a b : Nat} (ha : a < 18446744073709551616) (hb : b < 18446744073709551616) (h : sgn a = sgn b) : a = b := by
  unfold sgn at h
  split at h <;> split at h <;> omega
theorem ite_pm (c : Prop) [Decidable c] : (if c then (-1 : Int) else 1) = -1 ∨ (if c then (-1 : Int) else 1) = 1 := by
  by_cases h : c
  · exact .inl (if_pos h)
  · exact .inr (if_neg h)
theorem vcmp_range (a b : Vl) : vcmp a b = -1 ∨ vcmp a b = 0 ∨ vcmp a b = 1 := by
  unfold vcmp
  by_cases hk : a.K ≠ b.K
  · rw [if_pos hk]
    exact (ite_pm _).imp id .inr
  · rw [if_neg hk]
    by_cases hn : a.N ≠ b.N
    · rw [if_pos hn]
      exact (ite_pm _).imp id .inr
    · rw [if_neg hn]
      exact bcmp_range _ _
theorem vcmp_self (a : Vl) : vcmp a a = 0 := by
  unfold vcmp
  rw [if_neg (by simp), if_neg (by simp), bcmp_self]
/-- The place of a value's number in its kind's order. -/
def ordN (v : Vl) : Int := if v.K = 1 then sgn v.N else (v.N : Int)
theorem ordN_inj {a b : Vl} (hk : a.K = b.K) (ha : a.N < 18446744073709551616) (hb : b.N < 18446744073709551616) (h : ordN a = ordN b) : a.N = b.N := by
  unfold ordN at h
  rw [← hk] at h
  split at h
  · exact sgn_inj ha hb h
  · omega
theorem vcmp_iff (a b : Vl) (ha : a.N < 18446744073709551616) (hb : b.N < 18446744073709551616) :
    vcmp a b = if a.K < b.K then -1 else if b.K < a.K then 1 else if ordN a < ordN b then -1 else if ordN b < ordN a then 1 else bcmp a.S b.S := by
  unfold vcmp
  by_cases hk : a.K = b.K
  · rw [if_neg (show ¬ a.K ≠ b.K by simpa using hk), if_neg (show ¬ a.K < b.K by omega), if_neg (show ¬ b.K < a.K by omega)]
    by_cases hn : a.N = b.N
    · have : ordN a = ordN b := by unfold ordN; rw [hk, hn]
      rw [if_neg (show ¬ a.N ≠ b.N by simpa using hn), if_neg (show ¬ ordN a < ordN b by omega), if_neg (show ¬ ordN b < ordN a by omega)]
    · rw [if_pos (show a.N ≠ b.N from hn)]
      have hne : ordN a ≠ ordN b := fun e => hn (ordN_inj hk ha hb e)
      have e : (if a.K = 1 then decide (sgn a.N < sgn b.N) else decide (a.N < b.N)) = decide (ordN a < ordN b) := by
        unfold ordN
        rw [← hk]
        by_cases h1 : a.K = 1
        · simp [h1]
        · simp [h1]
      rw [e]
      by_cases hl : ordN a < ordN b
      · rw [if_pos (show decide (ordN a < ordN b) = true by simpa using hl), if_pos hl]
      · rw [if_neg (show ¬ decide (ordN a < ordN b) = true by simpa using hl), if_neg hl, if_pos (show ordN b < ordN a by omega)]
  · rw [if_pos (show a.K ≠ b.K from hk)]
    by_cases hl : a.K < b.K
    · rw [if_pos hl, if_pos hl]
    · rw [if_neg hl, if_neg hl, if_pos (show b.K < a.K by omega)]
theorem vcmp_neg (a b : Vl) (ha : a.N < 18446744073709551616) (hb : b.N < 18446744073709551616) : vcmp a b = - vcmp b a := by
  rw [vcmp_iff a b ha hb, vcmp_iff b a hb ha]
  by_cases h1 : a.K < b.K
  · rw [if_pos h1, if_neg (show ¬ b.K < a.K by omega), if_pos h1]
  rw [if_neg h1]
  by_cases h2 : b.K < a.K
  · rw [if_pos h2, if_pos h2]; rfl
  rw [if_neg h2, if_neg h2, if_neg h1]
  by_cases h3 : ordN a < ordN b
  · rw [if_pos h3, if_neg (show ¬ ordN b < ordN a by omega), if_pos h3]
  rw [if_neg h3]
  by_cases h4 : ordN b < ordN a
  · rw [if_pos h4, if_pos h4]; rfl
  rw [if_neg h4, if_neg h4, if_neg h3]
  exact bcmp_neg _ _
theorem vcmp_eq (a b : Vl) (ha : a.N < 18446744073709551616) (hb : b.N < 18446744073709551616) : vcmp a b = 0 ↔ a = b := by
  constructor
  · intro h
    unfold vcmp at h
    by_cases hk : a.K ≠ b.K
    · rw [if_pos hk] at h
      rcases ite_pm (a.K < b.K) with e | e <;> rw [e] at h <;> cases h
    · rw [if_neg hk] at h
      by_cases hn : a.N ≠ b.N
      · rw [if_pos hn] at h
        rcases ite_pm ((if a.K = 1 then decide (sgn a.N < sgn b.N) else decide (a.N < b.N)) = true) with e | e <;> rw [e] at h <;> cases h
      · rw [if_neg hn] at h
        have := (bcmp_eq _ _).1 h
        cases a; cases b
        simp_all
  · rintro rfl
    exact vcmp_self a
theorem vcmp_trans (a b c : Vl) (ha : a.N < 18446744073709551616) (hb : b.N < 18446744073709551616) (hc : c.N < 18446744073709551616) (h1 : vcmp a b ≤ 0) (h2 : vcmp b c ≤ 0) : vcmp a c ≤ 0 := by
  rw [vcmp_iff a b ha hb] at h1
  rw [vcmp_iff b c hb hc] at h2
  rw [vcmp_iff a c ha hc]
  by_cases p1 : a.K < c.K
  · rw [if_pos p1]; decide
  rw [if_neg p1]
  have q1 : ¬ b.K < a.K := fun e => by rw [if_neg (by omega), if_pos e] at h1; exact absurd h1 (by decide)
  have q2 : ¬ c.K < b.K := fun e => by rw [if_neg (by omega), if_pos e] at h2; exact absurd h2 (by decide)
  rw [if_neg (by omega)]
  rw [if_neg (by omega), if_neg (by omega)] at h1 h2
  by_cases p2 : ordN a < ordN c
  · rw [if_pos p2]; decide
  rw [if_neg p2]
  have q3 : ¬ ordN b < ordN a := fun e => by rw [if_neg (by omega), if_pos e] at h1; exact absurd h1 (by decide)
  have q4 : ¬ ordN c < ordN b := fun e => by rw [if_neg (by omega), if_pos e] at h2; exact absurd h2 (by decide)
  rw [if_neg (by omega)]
  rw [if_neg (by omega), if_neg (by omega)] at h1 h2
  exact bcmp_trans _ _ _ h1 h2

end Go.Proofs.YtgkcflindenboaaDoor

namespace Go.Proofs.YtgkcflindenboaaDoor
open Go Go.RowKit
set_option linter.unusedVariables false
set_option linter.unusedSimpArgs false
set_option maxRecDepth 100000
set_option linter.unusedSimpArgs false
set_option maxRecDepth 100000

/-! ### How two byte strings part -/
/-- At the first byte where they differ. -/
def Parts (x y : List UInt8) (c : Int) : Prop := ∃ p a b r s, x = p ++ a :: r ∧ y = p ++ b :: s ∧ a ≠ b ∧ c = if a.toNat < b.toNat then -1 else 1
theorem bcmp_front : ∀ (p x y : List UInt8), bcmp (p ++ x) (p ++ y) = bcmp x y
  | [], _, _ => rfl
  | a :: p, x, y => by simp [bcmp, bcmp_front p x y]
theorem Parts.cmp {x y : List UInt8} {c : Int} (h : Parts x y c) : bcmp x y = c := by
  obtain ⟨p, a, b, r, s, rfl, rfl, hne, rfl⟩ := h
  rw [bcmp_front, bcmp]
  by_cases h1 : a.toNat < b.toNat
  · rw [if_pos h1, if_pos h1]
  · have h2 : b.toNat < a.toNat := by
      have : a.toNat ≠ b.toNat := fun e => hne (UInt8.toNat_inj.1 e)
      omega
    rw [if_neg h1, if_neg h1, if_pos h2]
theorem Parts.post {x y : List UInt8} {c : Int} (h : Parts x y c) (r s : List UInt8) : Parts (x ++ r) (y ++ s) c := by
  obtain ⟨p, a, b, r', s', rfl, rfl, hne, rfl⟩ := h
  exact ⟨p, a, b, r' ++ r, s' ++ s, by simp, by simp, hne, rfl⟩
theorem Parts.pre {x y : List UInt8} {c : Int} (h : Parts x y c) (q : List UInt8) : Parts (q ++ x) (q ++ y) c := by
  obtain ⟨p, a, b, r', s', rfl, rfl, hne, rfl⟩ := h
  exact ⟨q ++ p, a, b, r', s', by simp, by simp, hne, rfl⟩
theorem Parts.cons {x y : List UInt8} {c : Int} (h : Parts x y c) (a : UInt8) : Parts (a :: x) (a :: y) c := h.pre [a]
theorem Parts.lt {a b : UInt8} (r s : List UInt8) (h : a.toNat < b.toNat) : Parts (a :: r) (b :: s) (-1) :=
  ⟨[], a, b, r, s, rfl, rfl, fun e => by subst e; omega, by rw [if_pos h]⟩
theorem Parts.gt {a b : UInt8} (r s : List UInt8) (h : b.toNat < a.toNat) : Parts (a :: r) (b :: s) 1 :=
  ⟨[], a, b, r, s, rfl, rfl, fun e => by subst e; omega, by rw [if_neg (by omega)]⟩
theorem Parts.range {x y : List UInt8} {c : Int} (h : Parts x y c) : c = -1 ∨ c = 1 := by
  obtain ⟨p, a, b, r', s', rfl, rfl, hne, rfl⟩ := h
  split
  · exact .inl rfl
  · exact .inr rfl
theorem Parts.ne {x y : List UInt8} {c : Int} (h : Parts x y c) : x ≠ y := by
  intro e
  have h1 := h.cmp
  rw [e, bcmp_self] at h1
  rcases h.range with h2 | h2 <;> omega
/-- Neither begins with the other. -/
theorem Parts.front {x y : List UInt8} {c : Int} (h : Parts x y c) : ¬ x <+: y := by
  rintro ⟨t, rfl⟩
  obtain ⟨p, a, b, r', s', rfl, e, hne, _⟩ := h
  simp only [List.append_assoc, List.cons_append] at e
  have := List.append_cancel_left e
  simp only [List.cons.injEq] at this
  exact hne this.1
def not8 (b : UInt8) : UInt8 := UInt8.ofNat (255 - b.toNat)
theorem not8_toNat (b : UInt8) : (not8 b).toNat = 255 - b.toNat := by
  have := b.toNat_lt
  unfold not8
  rw [UInt8.toNat_ofNat']
  omega
theorem not8_not8 (b : UInt8) : not8 (not8 b) = b := by
  apply UInt8.toNat_inj.1
  rw [not8_toNat, not8_toNat]
  have := b.toNat_lt
  omega
theorem not8_inj {a b : UInt8} (h : not8 a = not8 b) : a = b := by rw [← not8_not8 a, h, not8_not8]
theorem Parts.neg {x y : List UInt8} {c : Int} (h : Parts x y c) : Parts (x.map not8) (y.map not8) (-c) := by
  obtain ⟨p, a, b, r, s, rfl, rfl, hne, rfl⟩ := h
  refine ⟨p.map not8, not8 a, not8 b, r.map not8, s.map not8, by simp, by simp, fun e => hne (not8_inj e), ?_⟩
  rw [not8_toNat, not8_toNat]
  have := a.toNat_lt; have := b.toNat_lt
  have : a.toNat ≠ b.toNat := fun e => hne (UInt8.toNat_inj.1 e)
  by_cases h1 : a.toNat < b.toNat
  · rw [if_pos h1, if_neg (by omega)]; rfl
  · rw [if_neg h1, if_pos (by omega)]
def turnL (d : Bool) (l : List UInt8) : List UInt8 := if d = true then l.map not8 else l
theorem turnL_turnL (d : Bool) (l : List UInt8) : turnL d (turnL d l) = l := by
  cases d
  · rfl
  · show (l.map not8).map not8 = l
    rw [List.map_map]
    have : (not8 ∘ not8) = id := funext not8_not8
    rw [this, List.map_id]
theorem turnL_length (d : Bool) (l : List UInt8) : (turnL d l).length = l.length := by cases d <;> simp [turnL]
theorem turnL_append (d : Bool) (l m : List UInt8) : turnL d (l ++ m) = turnL d l ++ turnL d m := by cases d <;> simp [turnL]
theorem turnL_nil (d : Bool) : turnL d [] = [] := by cases d <;> rfl
theorem Parts.turn {x y : List UInt8} {c : Int} (h : Parts x y c) (d : Bool) : Parts (turnL d x) (turnL d y) (if d = true then -c else c) := by
  cases d
  · exact h
  · exact h.neg

/-! ### The bytes of a value -/
theorem be_parts : ∀ (k x y : Nat), x < 256 ^ k → y < 256 ^ k → x ≠ y → Parts (beB k x) (beB k y) (if x < y then -1 else 1)
  | 0, x, y, hx, hy, hne => by simp at hx hy; omega
  | k + 1, x, y, hx, hy, hne => by
    have hk : 0 < 256 ^ k := Nat.pow_pos (by decide)
    have ex := Nat.div_add_mod x (256 ^ k)
    have ey := Nat.div_add_mod y (256 ^ k)
    have lx := Nat.mod_lt x hk
    have ly := Nat.mod_lt y hk
    rw [Nat.pow_succ] at hx hy
    have qx : x / 256 ^ k < 256 := (Nat.div_lt_iff_lt_mul hk).2 (by rw [Nat.mul_comm]; exact hx)
    have qy : y / 256 ^ k < 256 := (Nat.div_lt_iff_lt_mul hk).2 (by rw [Nat.mul_comm]; exact hy)
    have tx : (UInt8.ofNat (x / 256 ^ k)).toNat = x / 256 ^ k := by rw [UInt8.toNat_ofNat']; exact Nat.mod_eq_of_lt qx
    have ty : (UInt8.ofNat (y / 256 ^ k)).toNat = y / 256 ^ k := by rw [UInt8.toNat_ofNat']; exact Nat.mod_eq_of_lt qy
    rw [beB, beB]
    by_cases hq : x / 256 ^ k = y / 256 ^ k
    · rw [hq] at ex ⊢
      have hm : x % 256 ^ k ≠ y % 256 ^ k := fun e => hne (by omega)
      have ih := be_parts k (x % 256 ^ k) (y % 256 ^ k) lx ly hm
      rw [beB_mod k (x % 256 ^ k) x (Nat.mod_mod _ _), beB_mod k (y % 256 ^ k) y (Nat.mod_mod _ _)] at ih
      have e : (if x < y then (-1 : Int) else 1) = if x % 256 ^ k < y % 256 ^ k then -1 else 1 := by
        by_cases h1 : x < y
        · rw [if_pos h1, if_pos (by omega)]
        · rw [if_neg h1, if_neg (by omega)]
      rw [e]
      exact ih.cons _
    · by_cases h1 : x / 256 ^ k < y / 256 ^ k
      · have : x < y := by
          have := Nat.mul_le_mul_left (256 ^ k) (show x / 256 ^ k + 1 ≤ y / 256 ^ k from h1)
          rw [Nat.mul_add, Nat.mul_one] at this
          omega
        rw [if_pos this]
        exact Parts.lt _ _ (by rw [tx, ty]; exact h1)
      · have h2 : y / 256 ^ k < x / 256 ^ k := by omega
        have : ¬ x < y := by
          have := Nat.mul_le_mul_left (256 ^ k) (show y / 256 ^ k + 1 ≤ x / 256 ^ k from h2)
          rw [Nat.mul_add, Nat.mul_one] at this
          omega
        rw [if_neg this]
        exact Parts.gt _ _ (by rw [tx, ty]; exact h2)

def escK : List UInt8 → List UInt8
  | [] => []
  | b :: r => if b = 0 then 0 :: 255 :: escK r else b :: escK r
theorem escK_snoc : ∀ (l : List UInt8) (b : UInt8), escK (l ++ [b]) = escK l ++ (if b = 0 then [0, 255] else [b])
  | [], b => by simp only [List.nil_append, escK]
  | c :: r, b => by
    rw [List.cons_append, escK, escK_snoc r b, escK]
    split <;> simp
theorem escK_length : ∀ l : List UInt8, (escK l).length ≤ 2 * l.length
  | [] => Nat.le_refl _
  | c :: r => by
    have := escK_length r
    rw [escK]
    split <;> simp only [List.length_cons] <;> omega
theorem pos_of_ne {b : UInt8} (h : b ≠ 0) : (0 : UInt8).toNat < b.toNat := by
  have : b.toNat ≠ 0 := fun e => h (UInt8.toNat_inj.1 e)
  show 0 < b.toNat
  omega
theorem esc_parts : ∀ (s t : List UInt8), s ≠ t → Parts (escK s ++ [0, 0]) (escK t ++ [0, 0]) (bcmp s t)
  | [], [], h => absurd rfl h
  | [], b :: r, _ => by
    rw [escK, escK, bcmp]
    split
    · exact (Parts.lt _ _ (by decide)).cons 0
    · next h => exact Parts.lt _ _ (pos_of_ne h)
  | a :: r, [], _ => by
    rw [escK, escK, bcmp]
    split
    · exact (Parts.gt _ _ (by decide)).cons 0
    · next h => exact Parts.gt _ _ (pos_of_ne h)
  | a :: r, b :: s, hne => by
    rw [escK, escK, bcmp]
    by_cases hab : a = b
    · subst hab
      have ih := esc_parts r s (fun e => hne (by rw [e]))
      rw [if_neg (Nat.lt_irrefl _), if_neg (Nat.lt_irrefl _)]
      by_cases h0 : a = 0
      · rw [if_pos h0, if_pos h0]
        exact (ih.cons 255).cons 0
      · rw [if_neg h0, if_neg h0]
        exact ih.cons a
    · have hn : a.toNat ≠ b.toNat := fun e => hab (UInt8.toNat_inj.1 e)
      by_cases h1 : a.toNat < b.toNat
      · rw [if_pos h1]
        by_cases h0 : a = 0
        · have hb : b ≠ 0 := fun e => hab (h0.trans e.symm)
          rw [if_pos h0, if_neg hb]
          exact Parts.lt _ _ (pos_of_ne hb)
        · have hb : b ≠ 0 := fun e => by subst e; simp at h1
          rw [if_neg h0, if_neg hb]
          exact Parts.lt _ _ h1
      · have h2 : b.toNat < a.toNat := by omega
        rw [if_neg h1, if_pos h2]
        by_cases h0 : b = 0
        · have ha : a ≠ 0 := fun e => hab (e.trans h0.symm)
          rw [if_neg ha, if_pos h0]
          exact Parts.gt _ _ (pos_of_ne ha)
        · have ha : a ≠ 0 := fun e => by subst e; simp at h2
          rw [if_neg ha, if_neg h0]
          exact Parts.gt _ _ h2

/-- An Int's number with its highest bit turned. -/
def flipN (n : Nat) : Nat := if n < 9223372036854775808 then n + 9223372036854775808 else n - 9223372036854775808
theorem flipN_flipN {n : Nat} (h : n < 18446744073709551616) : flipN (flipN n) = n := by
  unfold flipN
  split <;> split <;> omega
theorem flipN_lt {n : Nat} (h : n < 18446744073709551616) : flipN n < 18446744073709551616 := by
  unfold flipN
  split <;> omega
theorem flipN_sgn {n m : Nat} (hn : n < 18446744073709551616) (hm : m < 18446744073709551616) : (flipN n < flipN m) ↔ sgn n < sgn m := by
  unfold flipN sgn
  split <;> split <;> omega
def kNum (v : Vl) : Nat := if v.K = 1 then flipN v.N else v.N
def kb0 (v : Vl) : List UInt8 :=
  if v.K = 0 then [0] else 1 :: (if v.K = 1 ∨ v.K = 2 then beB 8 (kNum v) else if v.K = 3 then [UInt8.ofNat v.N] else escK v.S ++ [0, 0])
def kb (v : Vl) (d : Bool) : List UInt8 := turnL d (kb0 v)
def keyL : List Vl → List Bool → List UInt8
  | v :: l, d :: ds => kb v d ++ keyL l ds
  | _, _ => []
/-- A value whose number a uint64 holds. -/
def Vl.good (v : Vl) : Prop := v.okB = true ∧ v.N < 18446744073709551616
theorem ok_kinds {v : Vl} (h : v.okB = true) :
    (v.K = 0 ∧ v.N = 0 ∧ v.S = []) ∨ ((v.K = 1 ∨ v.K = 2) ∧ v.S = []) ∨ (v.K = 3 ∧ v.N < 2 ∧ v.S = []) ∨ ((v.K = 4 ∨ v.K = 5) ∧ v.N = 0 ∧ v.S.length ≤ 64) := by
  unfold Vl.okB at h
  split at h
  · next e => simp at h; exact .inl ⟨e, h.1, h.2⟩
  · split at h
    · next e => simp at h; exact .inr (.inl ⟨e, h⟩)
    · split at h
      · next e => simp at h; exact .inr (.inr (.inl ⟨e, h.1, h.2⟩))
      · split at h
        · next e => simp at h; exact .inr (.inr (.inr ⟨.inl e, h.1, h.2⟩))
        · split at h
          · next e => simp at h; exact .inr (.inr (.inr ⟨.inr e, h.1, h.2.1⟩))
          · cases h
theorem kb0_length {v : Vl} (h : v.okB = true) : 1 ≤ (kb0 v).length ∧ (kb0 v).length ≤ 131 := by
  unfold kb0
  split
  · exact ⟨by simp, by simp⟩
  · split
    · simp [beB_length]
    · split
      · simp
      · have := escK_length v.S
        rcases ok_kinds h with ⟨e, _⟩ | ⟨e, _⟩ | ⟨e, _⟩ | ⟨e, _, hs⟩
        · omega
        · omega
        · omega
        · simp; omega
theorem vl_ext {a b : Vl} (h1 : a.K = b.K) (h2 : a.N = b.N) (h3 : a.S = b.S) : a = b := by cases a; cases b; simp_all
/-- Two values of one kind, or one of them null: unless they are the same their bytes part as they stand. -/
theorem kb0_parts {a b : Vl} (ha : a.good) (hb : b.good) (hk : a.K = b.K ∨ a.K = 0 ∨ b.K = 0) (hne : a ≠ b) : Parts (kb0 a) (kb0 b) (vcmp a b) := by
  obtain ⟨ha, hna⟩ := ha
  obtain ⟨hb, hnb⟩ := hb
  have oa := ok_kinds ha
  have ob := ok_kinds hb
  by_cases hK : a.K = b.K
  · have e : vcmp a b = if a.N ≠ b.N then (if (if a.K = 1 then decide (sgn a.N < sgn b.N) else decide (a.N < b.N)) = true then -1 else 1) else bcmp a.S b.S := by
      unfold vcmp
      rw [if_neg (by simpa using hK)]
    rw [e]
    unfold kb0
    rw [← hK]
    rcases oa with ⟨e0, hN, hS⟩ | ⟨e0, hS⟩ | ⟨e0, hN, hS⟩ | ⟨e0, hN, hS⟩
    · rcases ob with ⟨f0, hN', hS'⟩ | ⟨f0, _⟩ | ⟨f0, _⟩ | ⟨f0, _⟩
      · exact absurd (vl_ext hK (hN.trans hN'.symm) (hS.trans hS'.symm)) hne
      all_goals omega
    · have hS' : b.S = [] := by
        rcases ob with ⟨f0, _⟩ | ⟨f0, h⟩ | ⟨f0, _⟩ | ⟨f0, _⟩
        · omega
        · exact h
        all_goals omega
      have hN : a.N ≠ b.N := fun h => hne (vl_ext hK h (hS.trans hS'.symm))
      simp only [if_neg (show ¬ a.K = 0 by omega), if_pos e0, if_pos hN]
      refine Parts.cons ?_ 1
      have hw : kNum a ≠ kNum b := by
        unfold kNum
        rw [← hK]
        split
        · intro h; apply hN; rw [← flipN_flipN hna, h, flipN_flipN hnb]
        · exact hN
      have la : kNum a < 256 ^ 8 := by
        unfold kNum
        split
        · exact flipN_lt hna
        · exact hna
      have lb : kNum b < 256 ^ 8 := by
        unfold kNum
        split
        · exact flipN_lt hnb
        · exact hnb
      have hc : (if (if a.K = 1 then decide (sgn a.N < sgn b.N) else decide (a.N < b.N)) = true then (-1 : Int) else 1) = if kNum a < kNum b then -1 else 1 := by
        unfold kNum
        rw [← hK]
        by_cases h1 : a.K = 1
        · rw [if_pos h1, if_pos h1, if_pos h1]
          by_cases h2 : sgn a.N < sgn b.N
          · rw [if_pos (by simpa using h2), if_pos ((flipN_sgn hna hnb).2 h2)]
          · rw [if_neg (by simpa using h2), if_neg (fun h => h2 ((flipN_sgn hna hnb).1 h))]
        · rw [if_neg h1, if_neg h1, if_neg h1]
          by_cases h2 : a.N < b.N
          · rw [if_pos (by simpa using h2), if_pos h2]
          · rw [if_neg (by simpa using h2), if_neg h2]
      rw [hc]
      exact be_parts 8 _ _ la lb hw
    · have hb' : b.N < 2 ∧ b.S = [] := by
        rcases ob with ⟨f0, _⟩ | ⟨f0, h⟩ | ⟨f0, h⟩ | ⟨f0, _⟩
        · omega
        · omega
        · exact h
        · omega
      have hN' : a.N ≠ b.N := fun h => hne (vl_ext hK h (hS.trans hb'.2.symm))
      simp only [if_neg (show ¬ a.K = 0 by omega), if_neg (show ¬ (a.K = 1 ∨ a.K = 2) by omega), if_pos e0, if_pos hN', if_neg (show ¬ a.K = 1 by omega)]
      refine Parts.cons ?_ 1
      have ta : (UInt8.ofNat a.N).toNat = a.N := by rw [UInt8.toNat_ofNat']; omega
      have tb : (UInt8.ofNat b.N).toNat = b.N := by rw [UInt8.toNat_ofNat']; omega
      by_cases h2 : a.N < b.N
      · rw [if_pos (by simpa using h2)]
        exact Parts.lt _ _ (by rw [ta, tb]; exact h2)
      · rw [if_neg (by simpa using h2)]
        exact Parts.gt _ _ (by rw [ta, tb]; omega)
    · have hN' : b.N = 0 := by
        rcases ob with ⟨f0, _⟩ | ⟨f0, h⟩ | ⟨f0, h⟩ | ⟨f0, h, _⟩
        · omega
        · omega
        · omega
        · exact h
      have hS' : a.S ≠ b.S := fun h => hne (vl_ext hK (hN.trans hN'.symm) h)
      simp only [if_neg (show ¬ a.K = 0 by omega), if_neg (show ¬ (a.K = 1 ∨ a.K = 2) by omega), if_neg (show ¬ a.K = 3 by omega), if_neg (show ¬ a.N ≠ b.N by omega)]
      exact (esc_parts _ _ hS').cons 1
  · have e : vcmp a b = if a.K < b.K then -1 else 1 := by
      unfold vcmp
      rw [if_pos hK]
    rw [e]
    have ra : 0 ≤ a.K := by omega
    have rb : 0 ≤ b.K := by omega
    rcases hk with h | h | h
    · exact absurd h hK
    · have : b.K ≠ 0 := fun e => hK (h.trans e.symm)
      rw [if_pos (by omega)]
      unfold kb0
      rw [if_pos h, if_neg this]
      exact Parts.lt _ _ (by decide)
    · have : a.K ≠ 0 := fun e => hK (e.trans h.symm)
      rw [if_neg (by omega)]
      unfold kb0
      rw [if_neg this, if_pos h]
      exact Parts.gt _ _ (by decide)

end Go.Proofs.YtgkcflindenboaaDoor

namespace Go.Proofs.YtgkcflindenboaaDoor
open Go Go.RowKit
set_option linter.unusedVariables false
set_option linter.unusedSimpArgs false
set_option maxRecDepth 100000
set_option linter.unusedSimpArgs false
set_option maxRecDepth 100000

def zcmp (a b : Int) : Int := if a < b then -1 else if b < a then 1 else 0
theorem zcmp_lt {a b : Int} (h : a < b) : zcmp a b = -1 := if_pos h
theorem zcmp_gt {a b : Int} (h : b < a) : zcmp a b = 1 := by unfold zcmp; rw [if_neg (by omega), if_pos h]
theorem zcmp_eq {a b : Int} (h : a = b) : zcmp a b = 0 := by unfold zcmp; rw [if_neg (by omega), if_neg (by omega)]




theorem less_bcmp : ∀ x y : List UInt8, Op.bytesLess x y = decide (bcmp x y = -1)
  | [], [] => rfl
  | [], _ :: _ => rfl
  | _ :: _, [] => rfl
  | a :: x, b :: y => by
    rw [Op.bytesLess, bcmp, less_bcmp x y]
    by_cases h : a.toNat < b.toNat
    · have : a < b := UInt8.lt_iff_toNat_lt.2 h
      rw [if_pos h]
      simp [this]
    · have h1 : ¬ a < b := fun e => h (UInt8.lt_iff_toNat_lt.1 e)
      rw [if_neg h]
      by_cases h2 : b.toNat < a.toNat
      · rw [if_pos h2]
        have : a ≠ b := fun e => by subst e; omega
        simp [h1, this]
      · rw [if_neg h2]
        have : a = b := UInt8.toNat_inj.1 (by omega)
        simp [h1, this]
theorem eq_bcmp (x y : List UInt8) : (x == y) = decide (bcmp x y = 0) := by
  rw [Bool.eq_iff_iff]
  simp [bcmp_eq]

theorem ba_eq {a b : ByteArray} (h : a.toList = b.toList) : a = b := by
  rw [ByteArray.toList_eq, ByteArray.toList_eq] at h
  cases a; cases b
  exact congrArg ByteArray.mk (Array.toList_inj.1 h)

theorem ret_i {a b : Int} (h : a = b) : Ending.returned (Value.int .i64 a) = .returned (.int .i64 b) := by rw [h]
def or3 (x y z : Int) : Int := if x ≠ 0 then x else if y ≠ 0 then y else z
theorem or3_1 {x : Int} (y z : Int) (h : x ≠ 0) : or3 x y z = x := if_pos h
theorem or3_2 {y : Int} (z : Int) (h : y ≠ 0) : or3 0 y z = y := by unfold or3; rw [if_neg (by simp), if_pos h]
theorem or3_3 (z : Int) : or3 0 0 z = z := by simp [or3]
def OrAt (x y z : Int) (i : Value) : Prop := i = .int .i64 0 ∨ (i = .int .i64 1 ∧ x = 0) ∨ (i = .int .i64 2 ∧ x = 0 ∧ y = 0) ∨ (i = .int .i64 3 ∧ x = 0 ∧ y = 0 ∧ z = 0)

/-- The value of a kind, a number and a string. -/
abbrev vlv (K N : Int) (s : ByteArray) : Value := .agg #[.int .i64 K, .int .u64 N, .string s]
abbrev vl (K N : Int) (s : ByteArray) : Vl := ⟨K, N.toNat, s.toList⟩
/-- A number that a uint64 holds. -/
structure U64 (n : Int) : Prop where
  lo : 0 ≤ n
  hi : n < 18446744073709551616
theorem conv_sgn {n : Int} (h : U64 n) : wrap64 n = sgn n.toNat := by
  obtain ⟨a, b⟩ := h
  unfold sgn wrap64
  by_cases hn : n < 9223372036854775808
  · rw [if_pos (by omega)]; omega
  · rw [if_neg (by omega)]; omega
theorem or3_iff (a b c d e : Int) : or3 (zcmp a b) (zcmp c d) e = if a < b then -1 else if b < a then 1 else if c < d then -1 else if d < c then 1 else e := by
  unfold or3 zcmp
  by_cases h1 : a < b
  · simp [h1]
  · by_cases h2 : b < a
    · simp [h1, h2]
    · by_cases h3 : c < d
      · simp [h1, h2, h3]
      · by_cases h4 : d < c <;> simp [h1, h2, h3, h4]
theorem vcmp_or {K N L M n m : Int} {s t : ByteArray} (hN : U64 N) (hM : U64 M) (h : K = 1 ∧ n = sgn N.toNat ∧ m = sgn M.toNat ∨ K ≠ 1 ∧ n = N ∧ m = M) :
    or3 (zcmp K L) (zcmp n m) (bcmp s.toList t.toList) = vcmp (vl K N s) (vl L M t) := by
  obtain ⟨a, b⟩ := hN
  obtain ⟨c, d⟩ := hM
  rw [or3_iff, vcmp_iff _ _ (show N.toNat < _ by omega) (show M.toNat < _ by omega)]
  unfold ordN
  by_cases hl : K < L
  · rw [if_pos hl, if_pos (show K < L from hl)]
  rw [if_neg hl, if_neg (show ¬ K < L from hl)]
  by_cases hg : L < K
  · rw [if_pos hg, if_pos (show L < K from hg)]
  rw [if_neg hg, if_neg (show ¬ L < K from hg)]
  have hK : L = K := by omega
  subst hK
  rcases h with ⟨rfl, rfl, rfl⟩ | ⟨h, hn, hm⟩
  · simp
  · subst hn hm
    simp only [if_neg h]
    rw [Int.toNat_of_nonneg a, Int.toNat_of_nonneg c]

theorem below_2 (w : World) (o p : Obj) : Below w.heap.size w ((w.alloc o).alloc p) := ((Below.refl _ _).alloc (Nat.le_refl _) _).alloc (by simp) _

end Go.Proofs.YtgkcflindenboaaDoor

namespace Go.Proofs.YtgkcflindenboaaDoor
set_option linter.unusedVariables false
set_option linter.unusedSimpArgs false
set_option maxRecDepth 100000

def M64 : Nat := 18446744073709551616
/-- The decimal digits of a number. -/
def dig (n : Nat) : List UInt8 := if h : n < 10 then [UInt8.ofNat (48 + n)] else dig (n / 10) ++ [UInt8.ofNat (48 + n % 10)]
termination_by n
decreasing_by omega
def stepM (x : Nat) (c : UInt8) : Nat := (x * 10 + c.toNat + (M64 - 48)) % M64
def numM (l : List UInt8) : Nat := l.foldl stepM 0
def hexd (i : Nat) : UInt8 := if i < 10 then UInt8.ofNat (48 + i) else UInt8.ofNat (87 + i)
def half (c : UInt8) : Nat := if 48 ≤ c.toNat ∧ c.toNat ≤ 57 then c.toNat - 48 else if 97 ≤ c.toNat ∧ c.toNat ≤ 102 then c.toNat - 87 else 16
def hexB : List UInt8 → List UInt8
  | [] => []
  | c :: r => hexd (c.toNat / 16) :: hexd (c.toNat % 16) :: hexB r
def escd (c : UInt8) : Bool := decide (c.toNat < 33) || (decide (126 < c.toNat) || (decide (c.toNat = 34) || decide (c.toNat = 92)))
def escB : List UInt8 → List UInt8
  | [] => []
  | c :: r => if escd c = true then 92 :: hexd (c.toNat / 16) :: hexd (c.toNat % 16) :: escB r else c :: escB r
def un16 (a b : UInt8) : UInt8 := UInt8.ofNat (half a * 16 + half b)
def unhex : List UInt8 → List UInt8
  | a :: b :: r => un16 a b :: unhex r
  | _ => []
def unesc : List UInt8 → List UInt8
  | c :: a :: b :: r => if c.toNat = 92 then un16 a b :: unesc r else c :: unesc (a :: b :: r)
  | c :: [_] => [c]
  | _ => []
def tNull : List UInt8 := [110, 117, 108, 108]
def tTrue : List UInt8 := [116, 114, 117, 101]
def tFalse : List UInt8 := [102, 97, 108, 115, 101]
def vtext (v : Vl) : List UInt8 :=
  if v.okB = false then []
  else if v.K = 0 then tNull
  else if v.K = 1 then (if sgn v.N < 0 then 45 :: dig (M64 - v.N) else dig v.N)
  else if v.K = 2 then dig v.N ++ [117]
  else if v.K = 3 then (if v.N = 1 then tTrue else tFalse)
  else if v.K = 4 then 120 :: hexB v.S
  else 34 :: (escB v.S ++ [34])
def guessN (s : List UInt8) : Vl :=
  if s.getLast? = some 117 then ⟨2, numM (s.dropLast.take 30), []⟩
  else if s.head? = some 45 then ⟨1, (M64 - numM ((s.take 30).drop 1)) % M64, []⟩
  else ⟨1, numM (s.take 30), []⟩
def guess (s : List UInt8) : Vl :=
  if s = tTrue ∨ s = tFalse then ⟨3, if s = tTrue then 1 else 0, []⟩
  else if s.head? = some 120 then ⟨4, 0, unhex (s.drop 1)⟩
  else if 1 < s.length ∧ s.head? = some 34 then ⟨5, 0, unesc (s.drop 1)⟩
  else if s = tNull then ⟨0, 0, []⟩
  else guessN s
def vparse (s : List UInt8) : Vl × Int := if s = [] ∨ vtext (guess s) ≠ s then (⟨0, 0, []⟩, 2) else (guess s, 0)

theorem half_hexd : ∀ i : Fin 16, half (hexd i) = i := by decide
theorem half_hex {i : Nat} (h : i < 16) : half (hexd i) = i := half_hexd ⟨i, h⟩
theorem un16_hex (c : UInt8) : un16 (hexd (c.toNat / 16)) (hexd (c.toNat % 16)) = c := by
  have h := UInt8.toNat_lt c
  unfold un16
  rw [half_hex (by omega), half_hex (by omega)]
  apply UInt8.toNat_inj.1
  simp
  omega
theorem unhex_hex : ∀ l, unhex (hexB l) = l
  | [] => rfl
  | c :: r => by rw [hexB, unhex, un16_hex, unhex_hex r]
theorem esc_len : ∀ l, 0 < l.length → 0 < (escB l).length
  | [], h => by simp at h
  | c :: r, _ => by rw [escB]; split <;> simp
theorem unesc_esc : ∀ l, unesc (escB l ++ [34]) = l
  | [] => rfl
  | c :: r => by
    rw [escB]
    by_cases h : escd c = true
    · rw [if_pos h]
      show unesc (92 :: hexd (c.toNat / 16) :: hexd (c.toNat % 16) :: (escB r ++ [34])) = _
      rw [unesc, if_pos (by decide), un16_hex, unesc_esc r]
    · rw [if_neg h]
      have hc : ¬ c.toNat = 92 := fun e => h (by unfold escd; simp [e])
      show unesc (c :: (escB r ++ [34])) = _
      have ih := unesc_esc r
      cases he : escB r ++ [34] with
      | nil => simp at he
      | cons a t =>
        cases t with
        | nil =>
          cases r with
          | nil => rfl
          | cons d r' =>
            exfalso
            have := esc_len (d :: r') (by simp)
            have h2 := congrArg List.length he
            simp at h2
            have h3 : (escB (d :: r')).length = 0 := by rw [h2]; rfl
            omega
        | cons b t' =>
          rw [unesc, if_neg hc, ← he, ih]

theorem dig_lo {n : Nat} (h : n < 10) : dig n = [UInt8.ofNat (48 + n)] := by rw [dig]; simp [h]
theorem dig_hi {n : Nat} (h : ¬ n < 10) : dig n = dig (n / 10) ++ [UInt8.ofNat (48 + n % 10)] := by rw [dig]; simp [h]
theorem ofNat_dig {i : Nat} (h : i < 10) : (UInt8.ofNat (48 + i)).toNat = 48 + i := by simp; omega
theorem dig_all (n : Nat) : ∀ c ∈ dig n, 48 ≤ c.toNat ∧ c.toNat ≤ 57 := by
  induction n using Nat.strongRecOn with
  | ind n ih =>
    by_cases h : n < 10
    · rw [dig_lo h]
      intro c hc
      rw [List.mem_singleton.1 hc, ofNat_dig h]
      omega
    · rw [dig_hi h]
      intro c hc
      rcases List.mem_append.1 hc with hc | hc
      · exact ih (n / 10) (by omega) c hc
      · rw [List.mem_singleton.1 hc, ofNat_dig (by omega)]
        omega
theorem dig_ne (n : Nat) : dig n ≠ [] := by
  by_cases h : n < 10
  · rw [dig_lo h]; simp
  · rw [dig_hi h]; simp
theorem foldl_snoc {α β : Type} (f : α → β → α) (a : α) (l : List β) (c : β) : (l ++ [c]).foldl f a = f (l.foldl f a) c := by simp
theorem numM_snoc (l : List UInt8) (c : UInt8) : numM (l ++ [c]) = stepM (numM l) c := foldl_snoc stepM 0 l c
theorem M64_pos : 0 < M64 := by unfold M64; omega
theorem numM_lt (l : List UInt8) : numM l < M64 := by
  rcases List.eq_nil_or_concat l with rfl | ⟨l', c, rfl⟩
  · exact M64_pos
  · rw [List.concat_eq_append, numM_snoc]; unfold stepM; exact Nat.mod_lt _ M64_pos
theorem numM_dig (n : Nat) (hn : n < M64) : numM (dig n) = n := by
  induction n using Nat.strongRecOn with
  | ind n ih =>
    unfold M64 at hn
    by_cases h : n < 10
    · rw [dig_lo h, ← List.nil_append [UInt8.ofNat (48 + n)], numM_snoc]
      unfold stepM
      rw [ofNat_dig h]
      show (0 * 10 + (48 + n) + (M64 - 48)) % M64 = n
      unfold M64
      omega
    · rw [dig_hi h, numM_snoc, ih (n / 10) (by omega) (by unfold M64; omega)]
      unfold stepM
      rw [ofNat_dig (by omega)]
      unfold M64
      omega
theorem dig_length : ∀ (k n : Nat), n < 10 ^ (k + 1) → (dig n).length ≤ k + 1
  | 0, n, h => by rw [dig_lo (by simpa using h)]; simp
  | k + 1, n, h => by
    by_cases h1 : n < 10
    · rw [dig_lo h1]; simp
    · rw [dig_hi h1, List.length_append, List.length_singleton]
      have : n / 10 < 10 ^ (k + 1) := by rw [Nat.pow_succ] at h; omega
      have := dig_length k (n / 10) this
      omega
theorem dig_len20 {n : Nat} (h : n ≤ M64) : (dig n).length ≤ 20 := dig_length 19 n (by unfold M64 at h; omega)
theorem dig_head (n : Nat) : ∃ c r, dig n = c :: r ∧ 48 ≤ c.toNat ∧ c.toNat ≤ 57 := by
  cases h : dig n with
  | nil => exact (dig_ne n h).elim
  | cons c r => exact ⟨c, r, rfl, dig_all n c (by rw [h]; simp)⟩
theorem dig_last (n : Nat) : ∃ c r, dig n = r ++ [c] ∧ 48 ≤ c.toNat ∧ c.toNat ≤ 57 := by
  rcases List.eq_nil_or_concat (dig n) with h | ⟨r, c, h⟩
  · exact (dig_ne n h).elim
  · rw [List.concat_eq_append] at h
    exact ⟨c, r, h, dig_all n c (by rw [h]; simp)⟩
theorem byte_ne {c : UInt8} {k : Nat} (d : UInt8) (hd : d.toNat = k) (h : c.toNat ≠ k) : c ≠ d := fun e => h (by rw [e, hd])

theorem guess_num (s : List UInt8) (c : UInt8) (r : List UInt8) (hs : s = c :: r) (hc : c.toNat = 45 ∨ 48 ≤ c.toNat ∧ c.toNat ≤ 57) : guess s = guessN s := by
  have n1 : c ≠ 116 := byte_ne (k := 116) _ rfl (by omega)
  have n2 : c ≠ 102 := byte_ne (k := 102) _ rfl (by omega)
  have n3 : c ≠ 120 := byte_ne (k := 120) _ rfl (by omega)
  have n4 : c ≠ 34 := byte_ne (k := 34) _ rfl (by omega)
  have n5 : c ≠ 110 := byte_ne (k := 110) _ rfl (by omega)
  subst hs
  unfold guess
  rw [if_neg (by simp [tTrue, tFalse, n1, n2]), if_neg (by simp [n3]), if_neg (by simp [n4]), if_neg (by simp [tNull, n5])]

theorem guess_text (v : Vl) (hv : v.okB = true) (hN : v.N < M64) : guess (vtext v) = v := by
  obtain ⟨K, N, S⟩ := v
  have hv0 := hv
  unfold vtext
  rw [if_neg (by rw [hv0]; decide)]
  simp only at hN ⊢
  by_cases k0 : K = 0
  · subst k0
    simp [Vl.okB] at hv
    rw [if_pos rfl, hv.1, hv.2]
    decide
  rw [if_neg k0]
  by_cases k1 : K = 1
  · subst k1
    simp [Vl.okB] at hv
    subst hv
    rw [if_pos rfl]
    by_cases hs : sgn N < 0
    · rw [if_pos hs]
      have hN2 : 9223372036854775808 ≤ N := by unfold sgn at hs; split at hs <;> omega
      obtain ⟨c, r, hd, hc⟩ := dig_last (M64 - N)
      have hlen := dig_len20 (n := M64 - N) (by omega)
      rw [guess_num _ 45 _ rfl (.inl rfl)]
      unfold guessN
      have hl : (45 :: dig (M64 - N)).getLast? = some c := by rw [hd]; show ((45 :: r) ++ [c]).getLast? = _; exact List.getLast?_concat
      rw [hl, if_neg (by simp; exact byte_ne (k := 117) _ rfl (by omega)), if_pos (by simp)]
      rw [List.take_of_length_le (by simp; omega)]
      simp only [List.drop_succ_cons, List.drop_zero]
      rw [numM_dig _ (by unfold M64 at *; omega)]
      congr 1
      unfold M64 at *
      omega
    · rw [if_neg hs]
      obtain ⟨c, r, hd, hc⟩ := dig_last N
      obtain ⟨a, t, ha, hac⟩ := dig_head N
      have hlen := dig_len20 (n := N) (by omega)
      rw [guess_num _ a t ha (.inr hac)]
      unfold guessN
      have hl : (dig N).getLast? = some c := by rw [hd]; simp
      have hh : (dig N).head? = some a := by rw [ha]; rfl
      rw [hl, if_neg (by simp; exact byte_ne (k := 117) _ rfl (by omega)), hh, if_neg (by simp; exact byte_ne (k := 45) _ rfl (by omega))]
      rw [List.take_of_length_le (by omega), numM_dig _ hN]
  rw [if_neg k1]
  by_cases k2 : K = 2
  · subst k2
    simp [Vl.okB] at hv
    subst hv
    rw [if_pos rfl]
    obtain ⟨a, t, ha, hac⟩ := dig_head N
    have hlen := dig_len20 (n := N) (by omega)
    rw [guess_num _ a (t ++ [117]) (by rw [ha]; rfl) (.inr hac)]
    unfold guessN
    rw [if_pos (by simp), List.dropLast_concat, List.take_of_length_le (by omega), numM_dig _ hN]
  rw [if_neg k2]
  by_cases k3 : K = 3
  · subst k3
    simp [Vl.okB] at hv
    obtain ⟨h1, rfl⟩ := hv
    rw [if_pos rfl]
    have : N = 0 ∨ N = 1 := by omega
    rcases this with rfl | rfl
    · decide
    · decide
  rw [if_neg k3]
  by_cases k4 : K = 4
  · subst k4
    simp [Vl.okB] at hv
    rw [if_pos rfl]
    unfold guess
    rw [if_neg (by simp [tTrue, tFalse]), if_pos (by simp)]
    simp only [List.drop_succ_cons, List.drop_zero]
    rw [unhex_hex, hv.1]
  rw [if_neg k4]
  have k5 : K = 5 := by
    simp only [Vl.okB, if_neg k0, if_neg k3, if_neg k4] at hv
    rw [if_neg (by omega)] at hv
    by_cases e : K = 5
    · exact e
    · rw [if_neg e] at hv; cases hv
  subst k5
  simp [Vl.okB] at hv
  unfold guess
  rw [if_neg (by simp [tTrue, tFalse]), if_neg (by simp), if_pos (by simp)]
  simp only [List.drop_succ_cons, List.drop_zero]
  rw [unesc_esc, hv.1]

theorem vtext_ne (v : Vl) (hv : v.okB = true) : vtext v ≠ [] := by
  unfold vtext
  rw [if_neg (by rw [hv]; decide)]
  split
  · decide
  split
  · split
    · simp
    · exact dig_ne _
  split
  · simp
  split
  · split <;> decide
  split <;> simp
theorem vtext_nil (v : Vl) : vtext v = [] ↔ v.okB = false := by
  cases h : v.okB with
  | true => simp [vtext_ne v h]
  | false => simp [vtext, h]
theorem vtext_inj {v u : Vl} (hv : v.okB = true) (hN : v.N < M64) (hM : u.N < M64) (h : vtext v = vtext u) : v = u := by
  have hu : u.okB = true := by
    cases e : u.okB with
    | true => rfl
    | false => exact (vtext_ne v hv (h.trans ((vtext_nil u).2 e))).elim
  rw [← guess_text v hv hN, h, guess_text u hu hM]
/-- What a text is read as: the value whose text it is, if there is one. -/
theorem vparse_text {v : Vl} (hv : v.okB = true) (hN : v.N < M64) {s : List UInt8} (hs : vtext v = s) : vparse s = (v, 0) := by
  subst hs
  unfold vparse
  rw [guess_text v hv hN, if_neg (fun h => h.elim (vtext_ne v hv) (fun h => h rfl))]
theorem vparse_none {s : List UInt8} (h : ∀ v : Vl, v.okB = true → v.N < M64 → vtext v ≠ s) (hN : (guess s).N < M64) : vparse s = (⟨0, 0, []⟩, 2) := by
  unfold vparse
  by_cases h0 : s = []
  · rw [if_pos (.inl h0)]
  · have hne : vtext (guess s) ≠ s := fun e => by
      cases hk : (guess s).okB with
      | true => exact h _ hk hN e
      | false => exact h0 (e.symm.trans ((vtext_nil _).2 hk))
    rw [if_pos (.inr hne)]
theorem guess_lt (s : List UInt8) : (guess s).N < M64 := by
  unfold guess
  split
  · show (if _ then _ else _) < M64
    split <;> (unfold M64; omega)
  split
  · exact M64_pos
  split
  · exact M64_pos
  split
  · exact M64_pos
  unfold guessN
  split
  · exact numM_lt _
  split
  · exact Nat.mod_lt _ M64_pos
  · exact numM_lt _
/-- A way to read texts that answers the value whose text it is, and else an error, is this one. -/
theorem vparse_is {s : List UInt8} {v : Vl} {e : Int} (h0 : e = 0 → v.okB = true ∧ v.N < M64 ∧ vtext v = s) (h1 : e ≠ 0 → e = 2 ∧ v = ⟨0, 0, []⟩ ∧ ∀ u : Vl, u.okB = true → u.N < M64 → vtext u ≠ s) : vparse s = (v, e) := by
  by_cases he : e = 0
  · obtain ⟨a, b, c⟩ := h0 he
    rw [he]
    exact vparse_text a b c
  · obtain ⟨a, b, c⟩ := h1 he
    rw [a, b]
    exact vparse_none c (guess_lt s)

end Go.Proofs.YtgkcflindenboaaDoor

namespace Go.Proofs.YtgkcflindenboaaDoor
open Go Go.RowKit
set_option linter.unusedVariables false
set_option linter.unusedSimpArgs false
set_option maxRecDepth 100000
set_option linter.unusedSimpArgs false
set_option maxRecDepth 100000

theorem bl_info : (Tryd.prog.info? 115).map (·.size) = some 2 := by kernel_rfl
theorem bl_lies : liesAt Tryd.prog Tryd.prog.depth 115 (2 / Tryd.prog.cellsOf 115) 0 115 1 = true := by kernel_rfl
theorem by_info : (Tryd.prog.info? 5).map (fun i => (i.zero, i.size, i.bytes)) = some (some (.int .u8 0), 1, 1) := by kernel_rfl
theorem bl_under : Tryd.prog.underlying 113 = some (.pointer 115) := Tryd.underlying113
theorem us_under : Tryd.prog.underlying 124 = some .unsafePointer := Tryd.underlying124

abbrev IsB (B b : Nat) (bs : List Value) (w : World) : Prop := Lib.IsBuilder 115 5 B b bs w
abbrev UsedB (B b : Nat) (bs : List Value) (w : World) : Prop := Lib.BuilderAt 115 5 B b (.pointer (some ⟨b, 0, none⟩)) bs w
abbrev FreshB (B b : Nat) (bs : List Value) (w : World) : Prop := Lib.BuilderAt 115 5 B b (.pointer none) bs w

theorem check_used (b : Nat) (w : World) (h0 : w.cell? ⟨b, 0, none⟩ = some (.pointer (some ⟨b, 0, none⟩))) :
    Calls Tryd.prog 94 #[.pointer (some ⟨b, 0, none⟩)] w fun e w' => e = .returned (.tuple #[]) ∧ w = w' := by
  obtain ⟨j, hj, _⟩ := Option.map_eq_some_iff.1 bl_info
  have hsame := Lib.run_neq_ptr_same (P := Tryd.prog) w ⟨b, 0, none⟩ bl_under hj
  clear hj
  go_enter Tryd.func94, Tryd.ntmps94
  go_wp2
  go_end0
  exact ⟨rfl, rfl⟩
theorem check_fresh (b : Nat) (w : World) (h0 : w.cell? ⟨b, 0, none⟩ = some (.pointer none)) (hsh : w.shape? b = some (115, 2)) (hfz : w.frozen? ⟨b, 0, none⟩ = false) :
    Calls Tryd.prog 94 #[.pointer (some ⟨b, 0, none⟩)] w fun e w' => e = .returned (.tuple #[]) ∧ w' = w.setCell ⟨b, 0, none⟩ (.pointer (some ⟨b, 0, none⟩)) := by
  obtain ⟨j, hj, hjs⟩ := Option.map_eq_some_iff.1 bl_info
  have h1 := Lib.run_to_unsafe (P := Tryd.prog) w ⟨b, 0, none⟩ bl_under us_under hj (by rw [hjs]; decide) hsh (Nat.zero_lt_succ 1)
  have h2 : ∀ args W, (callFunc 95 args).run Tryd.prog W = ((Extern.AbiNoEscape.same args).run Tryd.prog W).andThen fun v w' => .ok (.value v) w' :=
    run_callFunc_extern Tryd.func95 (by kernel_rfl) (by kernel_rfl) (by kernel_rfl) (e := Extern.AbiNoEscape.same) (by kernel_rfl)
  have h2' : (callFunc 95 #[.pointer (some ⟨b, 0, none⟩)]).run Tryd.prog w = .ok (.value (.pointer (some ⟨b, 0, none⟩))) w := by rw [h2, Lib.run_noEscape]; rfl
  have h3 := Lib.run_from_unsafe (P := Tryd.prog) w ⟨b, 0, none⟩ us_under bl_under hj hsh bl_lies
  clear hj h2 hjs
  go_enter Tryd.func94, Tryd.ntmps94
  go_wp2
  go_end0
  exact ⟨rfl, rfl⟩
theorem check_any (B b : Nat) (bs : List Value) (w : World) (h : IsB B b bs w) :
    Calls Tryd.prog 94 #[.pointer (some ⟨b, 0, none⟩)] w fun e w' => e = .returned (.tuple #[]) ∧ UsedB B b bs w' ∧ Below B w w' := by
  rcases h with h | h
  · refine (check_fresh b w h.cell0 h.shape h.frozen0).mono ?_
    rintro e w' ⟨rfl, rfl⟩
    exact ⟨rfl, h.used _, (Below.refl B w).setCell (p := ⟨b, 0, none⟩) h.1 _⟩
  · refine (check_used b w h.cell0).mono ?_
    rintro e w' ⟨rfl, rfl⟩
    exact ⟨rfl, h, Below.refl B _⟩

/-- A builder's block behind an append that has left it as it was. -/
theorem used_put {B b : Nat} {v v' : Value} {bs' : List Value} {w : World} (hB : B ≤ b) (hb : w.heap[b]? = some (.cells #[.pointer (some ⟨b, 0, none⟩), v] 115 (0, 0))) (hown : w.ownsRow B 5 1 v' bs'.length bs') :
    UsedB B b bs' (w.setCell ⟨b, 1, none⟩ v') := Lib.BuilderAt.put hB hb hown (by decide)
theorem lt_heap {w : World} {b : Nat} {o : Obj} (h : w.heap[b]? = some o) : b < w.heap.size := by
  rcases Nat.lt_or_ge b w.heap.size with h' | h'
  · exact h'
  · simp [Array.getElem?_eq_none h'] at h

set_option maxHeartbeats 2000000 in
theorem wbyte_any (B b : Nat) (bs : List Value) (c : Int) (w : World) (h : IsB B b bs w) (hlen : bs.length + 1 ≤ 140737488355328) (hBw : B ≤ w.heap.size) :
    Calls Tryd.prog 88 #[.pointer (some ⟨b, 0, none⟩), .int .u8 c] w fun e w' => e = .returned .nilIface ∧ UsedB B b (bs ++ [.int .u8 c]) w' ∧ Below B w w' := by
  obtain ⟨i0, hi, hz0, hz1, hz2⟩ := info_parts by_info
  go_enter Tryd.func88, Tryd.ntmps88
  go_wp2_with (go_at_call 94; refine (check_any B b bs _ h).mono ?_)
  rintro e w1 ⟨rfl, ⟨hB, v, hbk, hown, hne⟩, hb1⟩
  have hsz := hb1.size
  have hlt := lt_heap hbk
  have c0 : w1.cell? ⟨b, 0, none⟩ = some (.pointer (some ⟨b, 0, none⟩)) := by rw [Lib.cell_of_heap hbk]; rfl
  have c1 : w1.cell? ⟨b, 1, none⟩ = some v := by rw [Lib.cell_of_heap hbk]; rfl
  go_wp2_with (at_builtin; refine wpList_append_own _ rfl _ _ 49 rfl B 5 i0 (.int .u8 0) 1 1 Tryd.underlying49 hi hz0 hz1 hz2 rfl (by decide) _ _ _ rfl (hown.alloc _) ⟨w1.heap.size, 0, none⟩ 1 1 [.int .u8 c] rfl rfl ?c1 ?c2 ?c3 ?c4 ?c5 ?_)
  case c1 => exact cell_one_new _ _ _
  case c2 => intro u hu; simp at hu; subst hu; rfl
  case c3 => unfold maxLen; omega
  case c4 => omega
  case c5 => simp; omega
  intro v' w2 hown' hgrow _
  have hb2 : w2.heap[b]? = some (.cells #[.pointer (some ⟨b, 0, none⟩), v] 115 (0, 0)) := by
    rw [hgrow.block b (by simp; omega) (fun e => hne e.symm), Lib.alloc_old w1 _ b hlt]
    exact hbk
  have d0 : w2.cell? ⟨b, 0, none⟩ = some (.pointer (some ⟨b, 0, none⟩)) := by rw [Lib.cell_of_heap hb2]; rfl
  have d1 : w2.cell? ⟨b, 1, none⟩ = some v := by rw [Lib.cell_of_heap hb2]; rfl
  have f1 : w2.frozen? ⟨b, 1, none⟩ = false := Lib.frozen_of_heap hb2 1
  obtain ⟨g, cap, rfl⟩ : ∃ g cap, v' = .slice (some ⟨g, 0, none⟩) (bs.length + 1) cap := by
    rcases hown'.2 with ⟨_, h0⟩ | ⟨g, cap, cur, hv, _⟩
    · omega
    · exact ⟨g, cap, hv⟩
  have HP := Lib.hid (used_put (bs' := bs ++ [.int .u8 c]) hB hb2 (by simpa using hown'))
  have HB := Lib.hid ((hb1.alloc (by omega) (.cells #[.int .u8 c] 5)).grown hgrow (by simp; omega) (fun k hk => (hown.lt k hk).1))
  clear hown hown' hgrow hb2 hbk hne hb1
  go_wp2
  go_ret
  exact ⟨rfl, HP.out, HB.out.setCell (p := ⟨b, 1, none⟩) hB _⟩


/-- A builder in block b, made by the call that began in w0; it holds the bytes l. -/
structure Bld (w0 : World) (b : Nat) (l : List UInt8) (w : World) : Prop where
  is : IsB w0.heap.size b (Lib.byteCells l) w
  below : Below w0.heap.size w0 w
theorem Bld.fresh (w : World) : Bld w w.heap.size [] (w.alloc (.cells #[.pointer none, .slice none 0 0] 115)) :=
  ⟨Lib.fresh_isBuilder _ _ w, (Below.refl _ _).alloc (Nat.le_refl _) _⟩
theorem at_old {T e : TypeId} {B b : Nat} {p : Value} {bs : List Value} {w w' : World} (h : Lib.BuilderAt T e B b p bs w) (hb : Below w.heap.size w w') : Lib.BuilderAt T e B b p bs w' := by
  obtain ⟨hB, v, hbk, hown, hne⟩ := h
  refine ⟨hB, v, ?_, ?_, hne⟩
  · rw [hb.block b (lt_heap hbk)]; exact hbk
  · exact hown.kept (row := none) ⟨hb.os, hb.tape, hb.output, hb.size, fun k hk _ => hb.block k hk⟩ (by
      cases h : v.ownBlock with
      | none => exact .inl rfl
      | some g => exact .inr (by simp))
theorem Bld.old {w0 w w' : World} {b : Nat} {l : List UInt8} (h : Bld w0 b l w) (hb : Below w.heap.size w w') : Bld w0 b l w' :=
  ⟨h.is.imp (fun h => at_old h hb) (fun h => at_old h hb), h.below.trans (hb.mono h.below.size)⟩
theorem Bld.draws {w0 w : World} {b : Nat} {l : List UInt8} (h : Bld w0 b l w) : Bld w0 b l w.drew := h.old ((Below.refl _ _).drew)
theorem bytes_snoc (l : List UInt8) (c : UInt8) : Lib.byteCells l ++ [.int .u8 (c.toNat : Int)] = Lib.byteCells (l ++ [c]) := by simp [Lib.byteCells]
theorem bytes_len (l : List UInt8) : (Lib.byteCells l).length = l.length := by simp [Lib.byteCells]
theorem strCells_bytes (s : ByteArray) : Lib.strCells s = Lib.byteCells s.toList := by rw [ByteArray.toList_eq]; rfl

theorem Bld.wbyte {w0 w : World} {b : Nat} {l : List UInt8} (h : Bld w0 b l w) (hl : l.length < 140737488355328) (c : UInt8) (z : Int) (hz : z = (c.toNat : Int)) :
    Calls Tryd.prog 88 #[.pointer (some ⟨b, 0, none⟩), .int .u8 z] w fun e w' => e = .returned .nilIface ∧ Bld w0 b (l ++ [c]) w' := by
  subst hz
  refine (wbyte_any _ b _ (c.toNat : Int) w h.is (by rw [bytes_len]; omega) h.below.size).mono ?_
  rintro e w' ⟨rfl, hu, hb⟩
  exact ⟨rfl, .inr (by rw [← bytes_snoc]; exact hu), h.below.trans hb⟩

theorem Bld.string {w0 w : World} {b : Nat} {l : List UInt8} (h : Bld w0 b l w) :
    Calls Tryd.prog 87 #[.pointer (some ⟨b, 0, none⟩)] w fun e w' => e = .returned (.string ⟨l.toArray⟩) ∧ Below w0.heap.size w0 w' := by
  refine (Tryd.Builder_String_any _ b l w h.is h.below.size).mono ?_
  rintro e w' ⟨rfl, hb⟩
  exact ⟨rfl, h.below.trans hb⟩

end Go.Proofs.YtgkcflindenboaaDoor

namespace Go.Proofs.YtgkcflindenboaaDoor
open Go Go.RowKit
set_option linter.unusedVariables false
set_option linter.unusedSimpArgs false
set_option maxRecDepth 100000
set_option linter.unusedSimpArgs false
set_option maxRecDepth 100000

theorem dig_nat (i : Nat) (hi : i < ByteArray.size { data := #[48, 49, 50, 51, 52, 53, 54, 55, 56, 57, 97, 98, 99, 100, 101, 102] }) :
    (({ data := #[48, 49, 50, 51, 52, 53, 54, 55, 56, 57, 97, 98, 99, 100, 101, 102] } : ByteArray)[i]'hi).toNat = (hexd i).toNat := by
  have h16 : i < 16 := hi
  have : i = 0 ∨ i = 1 ∨ i = 2 ∨ i = 3 ∨ i = 4 ∨ i = 5 ∨ i = 6 ∨ i = 7 ∨ i = 8 ∨ i = 9 ∨ i = 10 ∨ i = 11 ∨ i = 12 ∨ i = 13 ∨ i = 14 ∨ i = 15 := by omega
  rcases this with h | h | h | h | h | h | h | h | h | h | h | h | h | h | h | h <;> subst h <;> rfl
theorem dig_int {z : Int} {i : Nat} (hi : i < ByteArray.size { data := #[48, 49, 50, 51, 52, 53, 54, 55, 56, 57, 97, 98, 99, 100, 101, 102] })
    (hz : z = ((({ data := #[48, 49, 50, 51, 52, 53, 54, 55, 56, 57, 97, 98, 99, 100, 101, 102] } : ByteArray)[i]'hi).toNat : Int)) : z = ((hexd i).toNat : Int) := by rw [hz, dig_nat]
theorem dig_index (z : Int) (i : Nat) (hz : z = (i : Int)) (hi : i < 16) (w : World) : (Instr.index 9 (.string { data := #[48, 49, 50, 51, 52, 53, 54, 55, 56, 57, 97, 98, 99, 100, 101, 102] }) (.int .u8 z)).run Tryd.prog w = .ok (.int .u8 ((hexd i).toNat : Int)) w := by
  subst hz
  rw [run_index_string w _ _ _ _ Tryd.underlying9, dif_pos ⟨by omega, by show (i : Int) < 16; omega⟩]
  rw [dig_nat (i := ((i : Int)).toNat) (by show _ < 16; omega)]
  rfl
theorem ret_s {a b : List UInt8} (h : a = b) : Ending.returned (Value.string ⟨a.toArray⟩) = .returned (.string ⟨b.toArray⟩) := by rw [h]
theorem and15 (x : UInt8) : bits .and .u8 (x.toNat : Int) 15 = ((x.toNat % 16 : Nat) : Int) := by
  have h : ∀ y : Fin 256, bits .and .u8 (y.val : Int) 15 = ((y.val % 16 : Nat) : Int) := by decide
  exact h ⟨x.toNat, x.toNat_lt⟩
theorem hexB_snoc : ∀ (l : List UInt8) (c : UInt8), hexB (l ++ [c]) = hexB l ++ [hexd (c.toNat / 16)] ++ [hexd (c.toNat % 16)]
  | [], c => rfl
  | d :: r, c => by show _ :: _ :: hexB (r ++ [c]) = _; rw [hexB_snoc r c]; rfl
theorem hexB_length : ∀ l, (hexB l).length = 2 * l.length
  | [] => rfl
  | c :: r => by simp only [hexB, List.length_cons, hexB_length r]; omega
theorem ba_size (s : ByteArray) : s.toList.length = s.size := by rw [ByteArray.toList_eq]; rfl
theorem ba_get (s : ByteArray) (k : Nat) (h : k < s.size) : s.toList[k]? = some s[k] := by
  rw [ByteArray.toList_eq]
  have h2 : k < s.data.size := h
  rw [List.getElem?_eq_getElem (by simpa using h2)]
  rfl
theorem take_step (s : ByteArray) (k : Nat) (h : k < s.size) : s.toList.take (k + 1) = s.toList.take k ++ [s[k]] := by
  rw [List.take_add_one, ba_get s k h]; rfl


theorem ba_append (a b : ByteArray) : (a ++ b).toList = a.toList ++ b.toList := by
  rw [ByteArray.toList_eq, ByteArray.toList_eq, ByteArray.toList_eq]; simp
theorem ba92 : (ByteArray.mk #[92]).toList = [92] := ByteArray.toList_mk [92]
theorem ba92s : (ByteArray.mk #[92]).size = 1 := rfl
theorem ba_one (s : ByteArray) (k : Nat) (h : k < s.size) : (s.extract k (k + 1)).toList = [s[k]] := by
  have h2 : k < s.data.size := h
  rw [ByteArray.toList_eq, ByteArray.data_extract]
  apply List.ext_getElem
  · simp; omega
  · intro i h1 h3
    simp at h3
    subst h3
    simp
    rfl
theorem escB_snoc : ∀ (l : List UInt8) (c : UInt8), escB (l ++ [c]) = escB l ++ (if escd c = true then 92 :: hexB [c] else [c])
  | [], c => by simp only [List.nil_append, escB]; split <;> rfl
  | d :: r, c => by
    rw [List.cons_append, escB, escB_snoc r c, escB]
    by_cases h : escd d = true <;> simp [h]
theorem escB_length : ∀ l, (escB l).length ≤ 3 * l.length
  | [] => Nat.le_refl _
  | c :: r => by
    have := escB_length r
    rw [escB]
    split <;> simp only [List.length_cons] <;> omega


end Go.Proofs.YtgkcflindenboaaDoor

namespace Go.Proofs.YtgkcflindenboaaDoor
open Go Go.RowKit
set_option linter.unusedVariables false
set_option linter.unusedSimpArgs false
set_option maxRecDepth 100000
set_option linter.unusedSimpArgs false
set_option maxRecDepth 100000

/-- The library's tables and errors as the program lays them. -/
structure Tabs (w : World) : Prop where
  pow : Lib.TabIs Tryd.prog w "internal/strconv.uint64pow10" .u64 Lib.pow10Tab
  utf : Lib.Utf8Tabs (Tryd.laysValid_ren.g 3) (Tryd.laysValid_ren.g 4) w
  syn : ∃ tp p, w.var? Tryd.prog "strconv.ErrSyntax" = some #[.iface tp p]
  rng : ∃ tp p, w.var? Tryd.prog "strconv.ErrRange" = some #[.iface tp p]
theorem var_keep {P : Program} {w w' : World} {n : String} {cs : Array Value} (h : w.var? P n = some cs) (hb : Below w.heap.size w w') : w'.var? P n = some cs := by
  unfold World.var? at *
  cases hg : P.globalNamed n with
  | none => simp [hg] at h
  | some g =>
    simp only [hg, Option.bind_some] at h ⊢
    have hlt : g < w.heap.size := by
      rcases Nat.lt_or_ge g w.heap.size with h' | h'
      · exact h'
      · rw [Array.getElem?_eq_none h'] at h; simp at h
    rw [hb.block g hlt]
    exact h
theorem Tabs.keep {w w' : World} (h : Tabs w) (hb : Below w.heap.size w w') : Tabs w' :=
  ⟨var_keep h.pow hb, Utf8Tabs_below h.utf hb, h.syn.imp fun _ h => h.imp fun _ h => var_keep h hb, h.rng.imp fun _ h => h.imp fun _ h => var_keep h hb⟩

theorem dig_dec (n : Nat) : dig n = Lib.decDigits n := by
  induction n using Nat.strongRecOn with
  | ind n ih =>
    by_cases h : n < 10
    · rw [dig_lo h, Lib.decDigits, dif_pos h]
    · rw [dig_hi h, Lib.decDigits, dif_neg h, ih (n / 10) (by omega)]
theorem below_grow (w : World) (k : Nat) (os : Array Obj) : Below w.heap.size w (Sort.grow (w.drewN k) os) := by
  refine ⟨rfl, rfl, rfl, ?_, ?_⟩
  · show w.heap.size ≤ (w.heap ++ os).size
    simp
  · intro i hi
    show (w.heap ++ os)[i]? = _
    rw [Array.getElem?_append_left hi]

abbrev encB : UInt8 → Value := fun b => .int .u8 (b.toNat : Int)
theorem holds_zero0 (w : World) (T : TypeId) (nd : Nat) (hs : nd ≤ 24) : Sort.Holds encB (w.alloc (.cells Lib.zeros24 T)) w.heap.size 0 (Array.replicate nd (0 : UInt8)) := fun j hj => by
  have hj' : j < nd := by simpa using hj
  refine ⟨?_, World.frozen?_alloc_new _ _ _ _⟩
  rw [World.cell?_alloc_new, Nat.zero_add, Lib.zeros24_at _ (by omega), getElem!_pos _ j hj]
  simp



theorem itoa_dig (n : Nat) (hn : n < M64) : Lib.itoa (sgn n) = if sgn n < 0 then 45 :: dig (M64 - n) else dig n := by
  unfold sgn Lib.itoa M64 at *
  by_cases h : n < 9223372036854775808
  · rw [if_pos h, if_neg (by omega), if_neg (by omega), dig_dec]
    rfl
  · rw [if_neg h, if_pos (by omega), if_pos (by omega), dig_dec]
    congr 2
    omega

end Go.Proofs.YtgkcflindenboaaDoor

namespace Go.Proofs.YtgkcflindenboaaDoor
set_option linter.unusedVariables false
set_option linter.unusedSimpArgs false
set_option maxRecDepth 100000
set_option linter.unusedSimpArgs false
open Go.Lib (checkN firstT accLo accHi validD validD_cons validD_lead validD_nil)

/-- Behind a first byte from 128 on. -/
def u8tail (r : List UInt8) (n low x0 : Nat) : Nat :=
  if r.length + 1 < n then 0
  else if ((r.take (n - 1)).all fun d => decide (128 ≤ d.toNat) && decide (d.toNat < 192)) = true then
    (if (r.take (n - 1)).foldl (fun x d => x * 64 + d.toNat - 128) x0 < low ∨ 1114111 < (r.take (n - 1)).foldl (fun x d => x * 64 + d.toNat - 128) x0 ∨ (55296 ≤ (r.take (n - 1)).foldl (fun x d => x * 64 + d.toNat - 128) x0 ∧ (r.take (n - 1)).foldl (fun x d => x * 64 + d.toNat - 128) x0 < 57344) then 0 else n)
  else 0
theorem u8len2 (c : UInt8) (r : List UInt8) (h1 : 194 ≤ c.toNat) (h2 : c.toNat < 224) : u8len (c :: r) = u8tail r 2 128 (c.toNat - 192) := by
  have h : ¬ c.toNat < 128 := by omega
  simp only [u8len, u8tail, if_neg h, if_pos (show 194 ≤ c.toNat ∧ c.toNat < 224 from ⟨h1, h2⟩), if_true]
  by_cases hl : r.length + 1 < 2
  · rw [if_pos (.inr hl), if_pos hl]
  · rw [if_neg (by omega), if_neg hl]
theorem u8len3 (c : UInt8) (r : List UInt8) (h1 : 224 ≤ c.toNat) (h2 : c.toNat < 240) : u8len (c :: r) = u8tail r 3 2048 (c.toNat - 224) := by
  have h : ¬ c.toNat < 128 := by omega
  simp only [u8len, u8tail, if_neg h, if_neg (show ¬ (194 ≤ c.toNat ∧ c.toNat < 224) by omega), if_pos (show 224 ≤ c.toNat ∧ c.toNat < 240 from ⟨h1, h2⟩), if_true, if_neg (show ¬ (3 : Nat) = 2 by decide)]
  by_cases hl : r.length + 1 < 3
  · rw [if_pos (.inr hl), if_pos hl]
  · rw [if_neg (by omega), if_neg hl]
theorem u8len4 (c : UInt8) (r : List UInt8) (h1 : 240 ≤ c.toNat) (h2 : c.toNat < 245) : u8len (c :: r) = u8tail r 4 65536 (c.toNat - 240) := by
  have h : ¬ c.toNat < 128 := by omega
  simp only [u8len, u8tail, if_neg h, if_neg (show ¬ (194 ≤ c.toNat ∧ c.toNat < 224) by omega), if_neg (show ¬ (224 ≤ c.toNat ∧ c.toNat < 240) by omega), if_pos (show 240 ≤ c.toNat ∧ c.toNat < 245 from ⟨h1, h2⟩), if_neg (show ¬ (4 : Nat) = 2 by decide), if_neg (show ¬ (4 : Nat) = 3 by decide)]
  by_cases hl : r.length + 1 < 4
  · rw [if_pos (.inr hl), if_pos hl]
  · rw [if_neg (by omega), if_neg hl]
theorem u8len0 (c : UInt8) (r : List UInt8) (h1 : 128 ≤ c.toNat) (h2 : c.toNat < 194 ∨ 245 ≤ c.toNat) : u8len (c :: r) = 0 := by
  have h : ¬ c.toNat < 128 := by omega
  simp only [u8len, if_neg h, if_neg (show ¬ (194 ≤ c.toNat ∧ c.toNat < 224) by omega), if_neg (show ¬ (224 ≤ c.toNat ∧ c.toNat < 240) by omega), if_neg (show ¬ (240 ≤ c.toNat ∧ c.toNat < 245) by omega), true_or, if_true]
theorem u8len1 (c : UInt8) (r : List UInt8) (h1 : c.toNat < 128) : u8len (c :: r) = 1 := by
  simp only [u8len, if_pos h1]

def okN (n b1 b2 b3 sz lo hi : Nat) : Nat := match checkN n b1 b2 b3 sz lo hi with | none => 0 | some k => k
theorem tail2 (r : List UInt8) (x0 : Nat) (hx : 2 ≤ x0) (hx2 : x0 < 32) : u8tail r 2 128 x0 = okN (r.length + 1) (r.getD 0 0).toNat (r.getD 1 0).toNat (r.getD 2 0).toNat 2 128 191 := by
  cases r with
  | nil => simp [u8tail, okN, checkN]
  | cons a t =>
    simp only [u8tail, okN, checkN, List.length_cons, List.take_succ_cons, List.take_zero, List.all_cons, List.all_nil, List.foldl_cons, List.foldl_nil, List.getD_cons_zero, if_true, Bool.and_true, Bool.and_eq_true, decide_eq_true_eq, Nat.succ_sub_succ_eq_sub, Nat.sub_zero]
    rw [if_neg (show ¬ t.length + 1 + 1 < 2 by omega)]
    by_cases h : 128 ≤ a.toNat ∧ a.toNat < 192
    · rw [if_pos h, if_neg (by omega), if_neg (by omega)]
    · rw [if_neg h, if_pos (by omega)]
theorem tail3 (r : List UInt8) (x0 lo hi : Nat) (hx2 : x0 < 16) (hlo : lo = if x0 = 0 then 160 else 128) (hhi : hi = if x0 = 13 then 159 else 191) :
    u8tail r 3 2048 x0 = okN (r.length + 1) (r.getD 0 0).toNat (r.getD 1 0).toNat (r.getD 2 0).toNat 3 lo hi := by
  match r with
  | [] => simp [u8tail, okN, checkN]
  | [a] => simp [u8tail, okN, checkN]
  | a :: b :: t =>
    simp only [u8tail, okN, checkN, List.length_cons, List.take_succ_cons, List.take_zero, List.all_cons, List.all_nil, List.foldl_cons, List.foldl_nil, List.getD_cons_zero, List.getD_cons_succ, if_true, Bool.and_true, Bool.and_eq_true, decide_eq_true_eq, Nat.succ_sub_succ_eq_sub, Nat.sub_zero, if_neg (show ¬ (3 : Nat) = 2 by decide)]
    rw [if_neg (show ¬ t.length + 1 + 1 + 1 < 3 by omega)]
    by_cases h : (128 ≤ a.toNat ∧ a.toNat < 192) ∧ 128 ≤ b.toNat ∧ b.toNat < 192
    · rw [if_pos h]
      by_cases h2 : lo ≤ a.toNat ∧ a.toNat ≤ hi
      · rw [if_neg (by split at hlo <;> split at hhi <;> omega), if_neg (by omega)]
      · rw [if_pos (by split at hlo <;> split at hhi <;> omega), if_pos (by omega)]
    · rw [if_neg h, if_pos (by split at hlo <;> split at hhi <;> omega)]
theorem tail4 (r : List UInt8) (x0 lo hi : Nat) (hx2 : x0 < 5) (hlo : lo = if x0 = 0 then 144 else 128) (hhi : hi = if x0 = 4 then 143 else 191) :
    u8tail r 4 65536 x0 = okN (r.length + 1) (r.getD 0 0).toNat (r.getD 1 0).toNat (r.getD 2 0).toNat 4 lo hi := by
  match r with
  | [] => simp [u8tail, okN, checkN]
  | [a] => simp [u8tail, okN, checkN]
  | [a, b] => simp [u8tail, okN, checkN]
  | a :: b :: d :: t =>
    simp only [u8tail, okN, checkN, List.length_cons, List.take_succ_cons, List.take_zero, List.all_cons, List.all_nil, List.foldl_cons, List.foldl_nil, List.getD_cons_zero, List.getD_cons_succ, if_true, Bool.and_true, Bool.and_eq_true, decide_eq_true_eq, Nat.succ_sub_succ_eq_sub, Nat.sub_zero, if_neg (show ¬ (4 : Nat) = 2 by decide), if_neg (show ¬ (4 : Nat) = 3 by decide)]
    rw [if_neg (show ¬ t.length + 1 + 1 + 1 + 1 < 4 by omega)]
    by_cases h : (128 ≤ a.toNat ∧ a.toNat < 192) ∧ (128 ≤ b.toNat ∧ b.toNat < 192) ∧ 128 ≤ d.toNat ∧ d.toNat < 192
    · rw [if_pos h]
      by_cases h2 : lo ≤ a.toNat ∧ a.toNat ≤ hi
      · rw [if_neg (by split at hlo <;> split at hhi <;> omega), if_neg (by omega)]
      · rw [if_pos (by split at hlo <;> split at hhi <;> omega), if_pos (by omega)]
    · rw [if_neg h, if_pos (by split at hlo <;> split at hhi <;> omega)]

theorem u8len_check (c : UInt8) (r : List UInt8) (h : 128 ≤ c.toNat) :
    u8len (c :: r) = okN (r.length + 1) (r.getD 0 0).toNat (r.getD 1 0).toNat (r.getD 2 0).toNat (firstT c.toNat % 8) (accLo (firstT c.toNat / 16)) (accHi (firstT c.toNat / 16)) := by
  have hc := c.toNat_lt
  have n0 : ¬ c.toNat < 128 := by omega
  by_cases c1 : c.toNat < 194
  · rw [u8len0 c r h (.inl c1)]; simp [firstT, n0, c1, okN, checkN]
  by_cases c2 : c.toNat < 224
  · rw [u8len2 c r (by omega) c2, tail2 r _ (by omega) (by omega)]; simp [firstT, n0, c1, c2, accLo, accHi]
  by_cases c3 : c.toNat = 224
  · rw [u8len3 c r (by omega) (by omega), tail3 r _ 160 191 (by omega) (by rw [if_pos (by omega)]) (by rw [if_neg (by omega)])]; simp [firstT, c3, accLo, accHi]
  by_cases c4 : c.toNat < 237
  · rw [u8len3 c r (by omega) (by omega), tail3 r _ 128 191 (by omega) (by rw [if_neg (by omega)]) (by rw [if_neg (by omega)])]; simp [firstT, n0, c1, c2, c3, c4, accLo, accHi]
  by_cases c5 : c.toNat = 237
  · rw [u8len3 c r (by omega) (by omega), tail3 r _ 128 159 (by omega) (by rw [if_neg (by omega)]) (by rw [if_pos (by omega)])]; simp [firstT, c5, accLo, accHi]
  by_cases c6 : c.toNat < 240
  · rw [u8len3 c r (by omega) (by omega), tail3 r _ 128 191 (by omega) (by rw [if_neg (by omega)]) (by rw [if_neg (by omega)])]; simp [firstT, n0, c1, c2, c3, c4, c5, c6, accLo, accHi]
  by_cases c7 : c.toNat = 240
  · rw [u8len4 c r (by omega) (by omega), tail4 r _ 144 191 (by omega) (by rw [if_pos (by omega)]) (by rw [if_neg (by omega)])]; simp [firstT, c7, accLo, accHi]
  by_cases c8 : c.toNat < 244
  · rw [u8len4 c r (by omega) (by omega), tail4 r _ 128 191 (by omega) (by rw [if_neg (by omega)]) (by rw [if_neg (by omega)])]; simp [firstT, n0, c1, c2, c3, c4, c5, c6, c7, c8, accLo, accHi]
  by_cases c9 : c.toNat = 244
  · rw [u8len4 c r (by omega) (by omega), tail4 r _ 128 143 (by omega) (by rw [if_neg (by omega)]) (by rw [if_pos (by omega)])]; simp [firstT, c9, accLo, accHi]
  · rw [u8len0 c r h (.inr (by omega))]; simp [firstT, n0, c1, c2, c3, c4, c5, c6, c7, c8, c9, okN, checkN]

theorem checkN_pos {n b1 b2 b3 sz lo hi k : Nat} (h : checkN n b1 b2 b3 sz lo hi = some k) : 0 < k ∧ k ≤ n := by
  unfold checkN at h
  repeat' split at h
  all_goals first | (cases h; omega) | (cases h)
theorem valid_utf8F : ∀ (f : Nat) (l : List UInt8), l.length ≤ f → validD l = utf8F f l
  | 0, [], _ => rfl
  | 0, _ :: _, h => by simp at h
  | f + 1, [], _ => rfl
  | f + 1, c :: r, h => by
    show validD (c :: r) = if u8len (c :: r) = 0 then false else utf8F f ((c :: r).drop (u8len (c :: r)))
    by_cases hc : c.toNat < 128
    · rw [validD_cons c r hc, u8len1 c r hc, if_neg (by decide)]
      exact valid_utf8F f r (by simpa using h)
    · rw [validD_lead (c :: r) (by simp) (by simpa using hc)]
      have hk := u8len_check c r (by omega)
      simp only [List.length_cons, List.getD_cons_zero, List.getD_cons_succ]
      unfold okN at hk
      cases hcheck : checkN (r.length + 1) (r.getD 0 0).toNat (r.getD 1 0).toNat (r.getD 2 0).toNat (firstT c.toNat % 8) (accLo (firstT c.toNat / 16)) (accHi (firstT c.toNat / 16)) with
      | none => rw [hcheck] at hk; rw [if_pos hk]
      | some k =>
        rw [hcheck] at hk
        have := checkN_pos hcheck
        simp only at hk ⊢
        rw [hk, if_neg (by omega)]
        exact valid_utf8F f _ (by simp only [List.length_drop, List.length_cons] at *; omega)
theorem utf8_valid (l : List UInt8) : validD l = utf8B l := valid_utf8F l.length l (Nat.le_refl _)

end Go.Proofs.YtgkcflindenboaaDoor

namespace Go.Proofs.YtgkcflindenboaaDoor
open Go Go.RowKit
set_option linter.unusedVariables false
set_option linter.unusedSimpArgs false
set_option maxRecDepth 100000
set_option linter.unusedSimpArgs false
set_option maxRecDepth 100000


theorem ret_b {a b : Bool} (h : a = b) : Ending.returned (Value.bool a) = .returned (.bool b) := by rw [h]
theorem validstr_any (s : ByteArray) (w : World) (hs : s.size ≤ 9223372036854775807) (hT : Tabs w) :
    Calls Tryd.prog 42 #[.string s] w fun e w' => e = .returned (.bool (utf8B s.toList)) ∧ Below w.heap.size w w' := by
  have h := Any.utf8_ValidString Tryd.laysValid s w hs hT.utf
  rw [utf8_valid, ← ByteArray.toList_eq] at h
  exact h
theorem valid_any {K N : Int} {s : ByteArray} (hN : U64 N) (w : World) (hT : Tabs w) :
    Calls Tryd.prog 22 #[vlv K N s] w fun e w' => e = .returned (.bool (vl K N s).okB) ∧ Below w.heap.size w w' := by
  have h0 := hN.lo
  have HB := Lib.hid (fun o => (Below.refl w.heap.size w).alloc (Nat.le_refl _) o)
  have HT := Lib.hid (fun o => hT.keep (HB.out o))
  clear hT
  have hsz := ba_size s
  by_cases k0 : K = 0
  · subst k0
    have hok : (vl 0 N s).okB = (decide (N.toNat = 0) && s.toList.isEmpty) := rfl
    by_cases hn : N = 0
    · subst hn
      have hr : (vl 0 0 s).okB = s.toList.isEmpty := rfl
      rw [hr]
      clear hok hr hsz
      go_enter Tryd.func22, Tryd.ntmps22
      go_wp2
      all_goals go_ret
      all_goals exact ⟨ret_b (by simp_all), HB.out _⟩
    · have hb : (N == 0) = false := by simpa using hn
      have hr : (vl 0 N s).okB = false := by rw [hok, decide_eq_false (show ¬ N.toNat = 0 by omega)]; rfl
      rw [hr]
      clear hok hr hsz hn
      go_enter Tryd.func22, Tryd.ntmps22
      go_wp2
      go_ret
      exact ⟨rfl, HB.out _⟩
  by_cases k1 : K = 1
  · subst k1
    have hr : (vl 1 N s).okB = s.toList.isEmpty := rfl
    rw [hr]
    clear hr hsz
    · skip
      go_enter Tryd.func22, Tryd.ntmps22
      go_wp2
      all_goals go_ret
      all_goals exact ⟨ret_b (by simp_all), HB.out _⟩
  by_cases k2 : K = 2
  · subst k2
    have hr : (vl 2 N s).okB = s.toList.isEmpty := rfl
    rw [hr]
    clear hr hsz
    · skip
      go_enter Tryd.func22, Tryd.ntmps22
      go_wp2
      all_goals go_ret
      all_goals exact ⟨ret_b (by simp_all), HB.out _⟩
  by_cases k3 : K = 3
  · subst k3
    have hok : (vl 3 N s).okB = (decide (N.toNat < 2) && s.toList.isEmpty) := rfl
    by_cases hn : N ≤ 1
    · have hr : (vl 3 N s).okB = s.toList.isEmpty := by rw [hok, decide_eq_true (show N.toNat < 2 by omega)]; rfl
      have hn2 : N < 2 := by omega
      rw [hr]
      clear hok hr hsz
      go_enter Tryd.func22, Tryd.ntmps22
      go_wp2
      all_goals go_ret
      all_goals exact ⟨ret_b (by simp_all), HB.out _⟩
    · have hr : (vl 3 N s).okB = false := by rw [hok, decide_eq_false (show ¬ N.toNat < 2 by omega)]; rfl
      have hn1 : 1 < N := by omega
      have hn2 : ¬ N < 2 := by omega
      rw [hr]
      clear hok hr hsz
      go_enter Tryd.func22, Tryd.ntmps22
      go_wp2
      go_ret
      exact ⟨rfl, HB.out _⟩
  by_cases k4 : K = 4
  · subst k4
    have hok : (vl 4 N s).okB = (decide (N.toNat = 0) && decide (s.toList.length ≤ 64)) := rfl
    by_cases hn : N = 0
    · subst hn
      by_cases hl : (s.size : Int) ≤ 64
      · have hr : (vl 4 0 s).okB = true := by rw [hok, decide_eq_true (show s.toList.length ≤ 64 by omega)]; rfl
        rw [hr]
        clear hok hr hsz
        go_enter Tryd.func22, Tryd.ntmps22
        go_wp2
        go_ret
        exact ⟨rfl, HB.out _⟩
      · have hr : (vl 4 0 s).okB = false := by rw [hok, decide_eq_false (show ¬ s.toList.length ≤ 64 by omega)]; rfl
        have hl2 : (64 : Int) < s.size := by omega
        rw [hr]
        clear hok hr hsz
        go_enter Tryd.func22, Tryd.ntmps22
        go_wp2
        go_ret
        exact ⟨rfl, HB.out _⟩
    · have hb : (N == 0) = false := by simpa using hn
      have hr : (vl 4 N s).okB = false := by rw [hok, decide_eq_false (show ¬ N.toNat = 0 by omega)]; rfl
      rw [hr]
      clear hok hr hsz hn
      go_enter Tryd.func22, Tryd.ntmps22
      go_wp2
      go_ret
      exact ⟨rfl, HB.out _⟩
  by_cases k5 : K = 5
  · subst k5
    have hok : (vl 5 N s).okB = (decide (N.toNat = 0) && (decide (s.toList.length ≤ 64) && utf8B s.toList)) := rfl
    by_cases hn : N = 0
    · subst hn
      by_cases hl : (s.size : Int) ≤ 64
      · have hr : (vl 5 0 s).okB = utf8B s.toList := by rw [hok, decide_eq_true (show s.toList.length ≤ 64 by omega)]; rfl
        obtain ⟨B, hB⟩ : ∃ B, utf8B s.toList = B := ⟨_, rfl⟩
        have HS : Hid (s.size ≤ 64) := Lib.hid (by omega)
        have HU := Lib.hid hB
        rw [hr, hB]
        clear hok hr hsz hB
        go_enter Tryd.func22, Tryd.ntmps22
        go_wp2_with fail
        refine (validstr_any s _ (by have := HS.out; omega) (HT.out _)).mono ?_
        rintro e w1 ⟨rfl, hb1⟩
        rw [HU.out]
        have H1 := Lib.hid ((HB.out _).trans (hb1.mono (by simp)))
        clear hb1
        go_wp2
        all_goals go_ret
        all_goals exact ⟨ret_b (by simp_all), H1.out⟩
      · have hr : (vl 5 0 s).okB = false := by rw [hok, decide_eq_false (show ¬ s.toList.length ≤ 64 by omega)]; rfl
        have hl2 : (64 : Int) < s.size := by omega
        rw [hr]
        clear hok hr hsz
        go_enter Tryd.func22, Tryd.ntmps22
        go_wp2
        go_ret
        exact ⟨rfl, HB.out _⟩
    · have hb : (N == 0) = false := by simpa using hn
      have hr : (vl 5 N s).okB = false := by rw [hok, decide_eq_false (show ¬ N.toNat = 0 by omega)]; rfl
      rw [hr]
      clear hok hr hsz hn
      go_enter Tryd.func22, Tryd.ntmps22
      go_wp2
      go_ret
      exact ⟨rfl, HB.out _⟩
  have hr : (vl K N s).okB = false := by
    simp [Vl.okB, k0, k1, k2, k3, k4, k5]
  have b0 : (K == 0) = false := by simpa using k0
  have b1 : (K == 1) = false := by simpa using k1
  have b2 : (K == 2) = false := by simpa using k2
  have b3 : (K == 3) = false := by simpa using k3
  have b4 : (K == 4) = false := by simpa using k4
  have b5 : (K == 5) = false := by simpa using k5
  rw [hr]
  clear hr hsz k0 k1 k2 k3 k4 k5
  · skip
    go_enter Tryd.func22, Tryd.ntmps22
    go_wp2
    go_ret
    exact ⟨rfl, HB.out _⟩

end Go.Proofs.YtgkcflindenboaaDoor

namespace Go.Proofs.YtgkcflindenboaaDoor
open Go Go.RowKit
set_option linter.unusedVariables false
set_option linter.unusedSimpArgs false
set_option maxRecDepth 100000
set_option linter.unusedSimpArgs false
set_option maxRecDepth 100000

def letZ (z : Int) : Bool := decide (97 ≤ z) && decide (z ≤ 122)
def digZ (z : Int) : Bool := decide (48 ≤ z) && decide (z ≤ 57)
def nmc (c : UInt8) : Bool := letZ c.toNat || (digZ c.toNat || decide ((c.toNat : Int) = 95))
def nameB (l : List UInt8) : Bool := decide (1 ≤ l.length) && (decide (l.length ≤ 16) && (letZ (l.getD 0 0).toNat && l.all nmc))
theorem letter_any (z : Int) (w : World) : Calls Tryd.prog 90 #[.int .u8 z] w fun e w' => e = .returned (.bool (letZ z)) ∧ w = w' := by
  obtain ⟨b, hb⟩ : ∃ b, letZ z = b := ⟨_, rfl⟩
  rw [hb]
  unfold letZ at hb
  by_cases h1 : 97 ≤ z
  · have h2 : decide (97 ≤ z) = true := decide_eq_true h1
    rw [h2, Bool.true_and] at hb
    clear h2
    have H := Lib.hid hb
    clear hb
    go_enter Tryd.func90, Tryd.ntmps90
    go_wp2
    go_ret
    exact ⟨ret_b H.out, rfl⟩
  · have h2 : decide (97 ≤ z) = false := decide_eq_false h1
    rw [h2, Bool.false_and] at hb
    clear h2
    subst hb
    go_enter Tryd.func90, Tryd.ntmps90
    go_wp2
    go_ret
    exact ⟨rfl, rfl⟩
theorem digit_any (z : Int) (w : World) : Calls Tryd.prog 91 #[.int .u8 z] w fun e w' => e = .returned (.bool (digZ z)) ∧ w = w' := by
  obtain ⟨b, hb⟩ : ∃ b, digZ z = b := ⟨_, rfl⟩
  rw [hb]
  unfold digZ at hb
  by_cases h1 : 48 ≤ z
  · have h2 : decide (48 ≤ z) = true := decide_eq_true h1
    rw [h2, Bool.true_and] at hb
    clear h2
    have H := Lib.hid hb
    clear hb
    go_enter Tryd.func91, Tryd.ntmps91
    go_wp2
    go_ret
    exact ⟨ret_b H.out, rfl⟩
  · have h2 : decide (48 ≤ z) = false := decide_eq_false h1
    rw [h2, Bool.false_and] at hb
    clear h2
    subst hb
    go_enter Tryd.func91, Tryd.ntmps91
    go_wp2
    go_ret
    exact ⟨rfl, rfl⟩
theorem all_step (s : ByteArray) (k : Nat) (h : k < s.size) (p : UInt8 → Bool) : (s.toList.take (k + 1)).all p = ((s.toList.take k).all p && p s[k]) := by
  rw [take_step s k h, List.all_append]; simp
theorem all_no (s : ByteArray) (k : Nat) (h : k < s.size) (p : UInt8 → Bool) (hp : p s[k] = false) : s.toList.all p = false := by
  rw [List.all_eq_false]
  exact ⟨s[k], List.mem_of_getElem? (ba_get s k h), by simp [hp]⟩
theorem ba_first (s : ByteArray) (h : 0 < s.size) : s.toList.getD 0 0 = s[0] := by
  rw [List.getD_eq_getElem?_getD, ba_get s 0 h]; rfl
theorem letter_y (z : Int) (h : letZ z = true) (w : World) : Calls Tryd.prog 90 #[.int .u8 z] w fun e w' => e = .returned (.bool true) ∧ w = w' := by
  have := letter_any z w; rw [h] at this; exact this
theorem letter_n (z : Int) (h : letZ z = false) (w : World) : Calls Tryd.prog 90 #[.int .u8 z] w fun e w' => e = .returned (.bool false) ∧ w = w' := by
  have := letter_any z w; rw [h] at this; exact this
theorem digit_y (z : Int) (h : digZ z = true) (w : World) : Calls Tryd.prog 91 #[.int .u8 z] w fun e w' => e = .returned (.bool true) ∧ w = w' := by
  have := digit_any z w; rw [h] at this; exact this
theorem digit_n (z : Int) (h : digZ z = false) (w : World) : Calls Tryd.prog 91 #[.int .u8 z] w fun e w' => e = .returned (.bool false) ∧ w = w' := by
  have := digit_any z w; rw [h] at this; exact this
theorem empty_of {s : ByteArray} (h : s.size = 0) : s.toList.isEmpty = true := by
  have := ba_size s
  rw [h] at this
  rw [List.isEmpty_iff]
  exact List.eq_nil_of_length_eq_zero this
theorem nonempty_of {s : ByteArray} (h : 0 < s.size) : s.toList.isEmpty = false := by
  have := ba_size s
  cases hl : s.toList with
  | nil => rw [hl] at this; simp at this; omega
  | cons => rfl

set_option maxHeartbeats 1000000 in
theorem name_any (s : ByteArray) (w : World) : Calls Tryd.prog 78 #[.string s] w fun e w' => e = .returned (.bool (nameB s.toList)) ∧ w = w' := by
  obtain ⟨B, hB⟩ : ∃ B, nameB s.toList = B := ⟨_, rfl⟩
  rw [hB]
  have hsz := ba_size s
  unfold nameB at hB
  rw [hsz] at hB
  by_cases h0 : s.size = 0
  · have he := empty_of h0
    rw [decide_eq_false (show ¬ 1 ≤ s.size by omega), Bool.false_and] at hB
    subst hB
    clear hsz h0
    go_enter Tryd.func78, Tryd.ntmps78
    go_wp2
    go_ret
    exact ⟨rfl, rfl⟩
  have hp0 : 0 < s.size := by omega
  have he := nonempty_of hp0
  have hpos : (0 : Int) < s.size := by omega
  rw [decide_eq_true (show 1 ≤ s.size by omega), Bool.true_and] at hB
  by_cases h16 : s.size ≤ 16
  case neg =>
    rw [decide_eq_false h16, Bool.false_and] at hB
    subst hB
    have hgt : (16 : Int) < s.size := by omega
    clear hsz h0 h16
    go_enter Tryd.func78, Tryd.ntmps78
    go_wp2
    go_ret
    exact ⟨rfl, rfl⟩
  rw [decide_eq_true h16, Bool.true_and, ba_first s hp0] at hB
  have hle : (s.size : Int) ≤ 16 := by omega
  obtain ⟨z, hz⟩ : ∃ z : Int, ((s[0]'hp0).toNat : Int) = z := ⟨_, rfl⟩
  rw [hz] at hB
  by_cases hl : letZ z = true
  case neg =>
    have hl : letZ z = false := by simpa using hl
    rw [hl, Bool.false_and] at hB
    subst hB
    have HL := Lib.hid hl
    clear hsz h0 h16 hl
    go_enter Tryd.func78, Tryd.ntmps78
    go_wp2_with fail
    refine (letter_n z HL.out _).mono ?_
    rintro e w' ⟨rfl, rfl⟩
    go_wp2
    go_ret
    exact ⟨rfl, rfl⟩
  rw [hl, Bool.true_and] at hB
  have HL := Lib.hid hl
  have HBE := Lib.hid hB
  have H16 := Lib.hid h16
  clear hsz h0 h16 hl hB
  go_enter Tryd.func78, Tryd.ntmps78
  go_wp2_with fail
  refine (letter_y z HL.out _).mono ?_
  rintro e w' ⟨rfl, rfl⟩
  go_wp2_with fail
  go_loop [3, 4, 20] (fun _ _ i => ∃ k : Nat, k ≤ s.size ∧ i = .int .i64 k ∧ Hid ((s.toList.take k).all nmc = true)) (fun _ _ i => s.size - (intOf i).toNat)
  case atStart => exact ⟨0, Nat.zero_le _, rfl, Lib.hid rfl⟩
  case round =>
    obtain ⟨k, hk, rfl, HA⟩ := hrel
    clear hz
    by_cases hlt : k < s.size
    · obtain ⟨y, hy⟩ : ∃ y : Int, (s[k].toNat : Int) = y := ⟨_, rfl⟩
      have HN : Hid (nmc s[k] = (letZ y || (digZ y || decide (y = 95)))) := Lib.hid (by rw [nmc, hy])
      have HST := Lib.hid (all_step s k hlt nmc)
      by_cases hl : letZ y = true
      · have HLY := Lib.hid hl
        clear hl
        go_wp2_with fail
        refine (letter_y y HLY.out _).mono ?_
        rintro e w' ⟨rfl, rfl⟩
        go_wp2_with fail
        go_round
        case rel => exact ⟨k + 1, by omega, by go_num, Lib.hid (by rw [HST.out, HA.out, HN.out, HLY.out]; rfl)⟩
        case measure => simp [intOf]; omega
      have HLY := Lib.hid (show letZ y = false by simpa using hl)
      clear hl
      by_cases hd : digZ y = true
      · have HDY := Lib.hid hd
        clear hd
        go_wp2_with fail
        refine (letter_n y HLY.out _).mono ?_
        rintro e w' ⟨rfl, rfl⟩
        go_wp2_with fail
        refine (digit_y y HDY.out _).mono ?_
        rintro e w' ⟨rfl, rfl⟩
        go_wp2_with fail
        go_round
        case rel => exact ⟨k + 1, by omega, by go_num, Lib.hid (by rw [HST.out, HA.out, HN.out, HLY.out, HDY.out]; rfl)⟩
        case measure => simp [intOf]; omega
      have HDY := Lib.hid (show digZ y = false by simpa using hd)
      clear hd
      by_cases hu : y = 95
      · have hub : (y != 95) = false := by simpa using hu
        have HU := Lib.hid hu
        clear hu
        go_wp2_with fail
        refine (letter_n y HLY.out _).mono ?_
        rintro e w' ⟨rfl, rfl⟩
        go_wp2_with fail
        refine (digit_n y HDY.out _).mono ?_
        rintro e w' ⟨rfl, rfl⟩
        go_wp2_with fail
        go_round
        case rel => exact ⟨k + 1, by omega, by go_num, Lib.hid (by rw [HST.out, HA.out, HN.out, HLY.out, HDY.out, decide_eq_true HU.out]; rfl)⟩
        case measure => simp [intOf]; omega
      · have hub : (y != 95) = true := by simpa using hu
        have HNO : Hid (B = false) := Lib.hid (by rw [← HBE.out]; exact all_no s k hlt nmc (by rw [HN.out, HLY.out, HDY.out, decide_eq_false hu]; rfl))
        clear hu
        go_wp2_with fail
        refine (letter_n y HLY.out _).mono ?_
        rintro e w' ⟨rfl, rfl⟩
        go_wp2_with fail
        refine (digit_n y HDY.out _).mono ?_
        rintro e w' ⟨rfl, rfl⟩
        go_wp2_with fail
        go_ret
        exact ⟨ret_b HNO.out.symm, rfl⟩
    · have HY : Hid (B = true) := Lib.hid (by rw [← HBE.out, ← HA.out, List.take_of_length_le (by rw [ba_size]; omega)])
      go_wp2
      go_ret
      exact ⟨ret_b HY.out.symm, rfl⟩

end Go.Proofs.YtgkcflindenboaaDoor
