/-
  Joined: Mem BeB PackSt PackIn PackIn2 PackIn3 PackIn4 PackIn5 MemP PackOut PackOut2 PackOut3 PackLaw0.
-/
import Derived.WalkKit
import Derived.WalkSpells
import Derived.WalkLawsBesides
import Derived.Deep.AppendLies
import Derived.Laws.Rows
import Derived.Lib.Hide
import Derived.Laws.BitsAllLaws
import Derived.Laws.Bits64b
import Derived.Test.YtookbmpaoljelaaGreatRows
import Derived.Deep.QuietTactic
import Derived.BigQuiet
import Derived.Laws.IdiomStrings
import Derived.Laws.AppendOwnNone
import Derived.Deep.RegionLaw
import Derived.Lib.AppendStr

namespace Go.Proofs.YtookbmpaoljelaaGreat
open Go Go.RowKit
set_option linter.unusedVariables false
set_option linter.unusedSimpArgs false
set_option maxRecDepth 100000

/-- Of the blocks that were there none has changed but those in S. -/
structure Only (S : Nat → Prop) (w w' : World) : Prop where
  os : w'.os = w.os
  tape : w'.tape = w.tape
  output : w'.output = w.output
  size : w.heap.size ≤ w'.heap.size
  block : ∀ k, k < w.heap.size → ¬ S k → w'.heap[k]? = w.heap[k]?

theorem Only.refl (S : Nat → Prop) (w : World) : Only S w w := ⟨rfl, rfl, rfl, Nat.le_refl _, fun _ _ _ => rfl⟩
theorem Only.trans {S T : Nat → Prop} {a b c : World} (h : Only S a b) (k : Only T b c) (hT : ∀ k, k < a.heap.size → T k → S k) : Only S a c :=
  ⟨k.os.trans h.os, k.tape.trans h.tape, k.output.trans h.output, Nat.le_trans h.size k.size,
    fun i hi hs => (k.block i (Nat.lt_of_lt_of_le hi h.size) (fun ht => hs (hT i hi ht))).trans (h.block i hi hs)⟩
theorem Only.mono {S T : Nat → Prop} {a b : World} (h : Only S a b) (hT : ∀ k, k < a.heap.size → S k → T k) : Only T a b :=
  ⟨h.os, h.tape, h.output, h.size, fun k hk ht => h.block k hk fun hs => ht (hT k hk hs)⟩
theorem Only.drew {S : Nat → Prop} {a b : World} (h : Only S a b) : Only S a b.drew := ⟨h.os, h.tape, h.output, h.size, h.block⟩
theorem Only.drewN {S : Nat → Prop} {a b : World} (h : Only S a b) (n : Nat) : Only S a (b.drewN n) := ⟨h.os, h.tape, h.output, h.size, h.block⟩
theorem Only.alloc {S : Nat → Prop} {a b : World} (h : Only S a b) (o : Obj) : Only S a (b.alloc o) :=
  h.trans (T := fun _ => False) ⟨rfl, rfl, rfl, by simp, fun k hk _ => Below.heap_alloc _ _ _ hk⟩ (fun _ _ h => h.elim)
theorem Only.setCell {S : Nat → Prop} {a b : World} (h : Only S a b) {p : Addr} (hp : p.block < a.heap.size → S p.block) (u : Value) : Only S a (b.setCell p u) :=
  h.trans (T := fun k => k = p.block) ⟨rfl, rfl, rfl, by simp [World.setCell], fun k _ hk => Below.heap_setCell _ _ _ _ hk⟩ (fun k hk e => by subst e; exact hp hk)
theorem Only.cell (w : World) (p o : Nat) (u : Value) : Only (fun k => k = p) w (w.setCell ⟨p, o, none⟩ u) :=
  ⟨rfl, rfl, rfl, by simp [World.setCell], fun k _ hk => Below.heap_setCell _ _ _ _ hk⟩
theorem heap_set {w : World} {p : Nat} {cs : Array Value} {t : TypeId} {fr : Nat × Nat} (h : w.heap[p]? = some (.cells cs t fr)) (o : Nat) (u : Value) :
    (w.setCell ⟨p, o, none⟩ u).heap[p]? = some (.cells (cs.setIfInBounds o u) t fr) := by
  simp only [World.setCell, Array.getElem?_modify, if_pos, h, Option.map_some]
  rfl
theorem Only.grown {S : Nat → Prop} {a b c : World} {row : Option Nat} (h : Only S a b) (hg : b.grownBy c row) (hr : ∀ k, k < a.heap.size → row = some k → S k) : Only S a c :=
  h.trans (T := fun k => row = some k) ⟨hg.os, hg.tape, hg.output, hg.size, fun k hk hn => hg.block k hk (fun e => hn e.symm)⟩ hr
theorem Only.below {S : Nat → Prop} {a b : World} (h : Only S a b) {B : Nat} (hB : B ≤ a.heap.size) (hS : ∀ k, S k → B ≤ k) : Below B a b :=
  ⟨h.os, h.tape, h.output, h.size, fun k hk => h.block k (by omega) (fun hs => by have := hS k hs; omega)⟩
theorem Only.lt {S : Nat → Prop} {a b : World} (h : Only S a b) {k : Nat} (hk : k < a.heap.size) : k < b.heap.size := Nat.lt_of_lt_of_le hk h.size

theorem lt_of_some {w : World} {b : Nat} {o : Obj} (h : w.heap[b]? = some o) : b < w.heap.size := (Array.getElem?_eq_some_iff.1 h).1
theorem Only.keep {S : Nat → Prop} {a b : World} (h : Only S a b) {k : Nat} {o : Obj} (hk : a.heap[k]? = some o) (hs : ¬ S k) : b.heap[k]? = some o :=
  (h.block k (lt_of_some hk) hs).trans hk

/-- Bytes as the model's cells. -/
def u8s (xs : List UInt8) : List Value := xs.map fun b => Value.int .u8 b.toNat
theorem u8s_length (xs : List UInt8) : (u8s xs).length = xs.length := by simp [u8s]
theorem u8s_append (xs ys : List UInt8) : u8s (xs ++ ys) = u8s xs ++ u8s ys := by simp [u8s]
theorem u8s_oneCell (xs : List UInt8) : ∀ u ∈ u8s xs, u.oneCell' = true := by
  intro u hu; simp [u8s] at hu; obtain ⟨b, _, rfl⟩ := hu; rfl

/-- A slice value whose cells read as these bytes, wherever they lie. -/
def SlC (w : World) (v : Value) (xs : List UInt8) : Prop :=
  (v = .slice none 0 0 ∧ xs = []) ∨ ∃ a cap, v = .slice (some a) xs.length cap ∧ ∀ j, j < xs.length → w.cell? (a.add j) = some (.int .u8 (xs.getD j 0).toNat)

theorem u8s_get {xs : List UInt8} {j : Nat} {u : Value} (h : (u8s xs)[j]? = some u) : j < xs.length ∧ u = .int .u8 (xs.getD j 0).toNat := by
  simp only [u8s, List.getElem?_map, Option.map_eq_some_iff] at h
  obtain ⟨b, hb, rfl⟩ := h
  obtain ⟨hj, rfl⟩ := List.getElem?_eq_some_iff.1 hb
  exact ⟨hj, by simp [hj]⟩
theorem u8s_at {xs : List UInt8} {j : Nat} (h : j < xs.length) : (u8s xs)[j]? = some (.int .u8 (xs.getD j 0).toNat) := by
  simp [u8s, h]

theorem add_lit (g off j : Nat) : (⟨g, off, none⟩ : Addr).add j = ⟨g, off + j, none⟩ := by unfold Addr.add; split <;> simp_all

/-- A slice of int that reads as these numbers. -/
def SlI (w : World) (ao : Option Addr) (ks : List Int) : Prop :=
  ∀ j, j < ks.length → ∃ g off, ao = some ⟨g, off, none⟩ ∧ w.cell? ⟨g, off + j, none⟩ = some (.int .i64 (ks.getD j 0))

theorem SlC.shape {w : World} {v : Value} {xs : List UInt8} (h : SlC w v xs) : ∃ ao cap, v = .slice ao xs.length cap := by
  rcases h with ⟨rfl, rfl⟩ | ⟨a, cap, rfl, _⟩
  · exact ⟨none, 0, rfl⟩
  · exact ⟨_, cap, rfl⟩

theorem Only.cellq {a b : World} (h : Only (fun _ => False) a b) {p : Addr} {v : Value} (hc : a.cell? p = some v) : b.cell? p = some v :=
  (World.cell?_of_block (h.block p.block (World.block_lt_of_cell? a p hc) (fun h => h))).trans hc
theorem SlC.keep {w w' : World} {v : Value} {xs : List UInt8} (h : SlC w v xs) (ho : Only (fun _ => False) w w') : SlC w' v xs := by
  rcases h with h | ⟨a, cap, rfl, hc⟩
  · exact .inl h
  · exact .inr ⟨a, cap, rfl, fun j hj => ho.cellq (hc j hj)⟩

theorem own_shape {w : World} {b : Nat} {e : TypeId} {v : Value} {n : Nat} {xs : List Value} (h : w.ownsRow b e 1 v n xs) : ∃ ao cap, v = .slice ao n cap := by
  rcases h.2 with ⟨rfl, rfl⟩ | ⟨g, cap, cur, rfl, _⟩
  · exact ⟨none, 0, rfl⟩
  · exact ⟨_, cap, rfl⟩

theorem own_keep {w w' : World} {B : Nat} {e : TypeId} {size : Nat} {v : Value} {n : Nat} {xs : List Value} (h : w.ownsRow B e size v n xs) (ho : Only (fun _ => False) w w') : w'.ownsRow B e size v n xs := by
  refine ⟨h.1, ?_⟩
  rcases h.2 with h0 | ⟨g, cap, cur, rfl, hb, hg, rest⟩
  · exact .inl h0
  · exact .inr ⟨g, cap, cur, rfl, hb, ho.keep hg (fun h => h), rest⟩

def Quiet (w : World) (w' : World) : Prop := Only (fun _ => False) w w'

theorem own_shapeN {w : World} {b : Nat} {e : TypeId} {size : Nat} {v : Value} {n : Nat} {xs : List Value} (h : w.ownsRow b e size v n xs) : ∃ ao cap, v = .slice ao n cap := by
  rcases h.2 with ⟨rfl, rfl⟩ | ⟨g, cap, cur, rfl, _⟩
  · exact ⟨none, 0, rfl⟩
  · exact ⟨_, cap, rfl⟩
theorem own_lt {w : World} {b : Nat} {e : TypeId} {size : Nat} {v : Value} {n : Nat} {xs : List Value} (h : w.ownsRow b e size v n xs) {k : Nat} (hk : v.ownBlock = some k) : k < w.heap.size := by
  rcases h.2 with ⟨rfl, rfl⟩ | ⟨g, cap, cur, rfl, _, hg, _⟩
  · simp [Value.ownBlock] at hk
  · simp [Value.ownBlock] at hk; subst hk; exact lt_of_some hg
theorem own_keepAt {w w' : World} {B : Nat} {e : TypeId} {size : Nat} {v : Value} {n : Nat} {xs : List Value} (h : w.ownsRow B e size v n xs) (hk : ∀ k, v.ownBlock = some k → w'.heap[k]? = w.heap[k]?) : w'.ownsRow B e size v n xs := by
  refine ⟨h.1, ?_⟩
  rcases h.2 with h0 | ⟨g, cap, cur, rfl, hb, hg, rest⟩
  · exact .inl h0
  · exact .inr ⟨g, cap, cur, rfl, hb, (hk g rfl).trans hg, rest⟩
theorem own_type {w : World} {b : Nat} {e : TypeId} {size : Nat} {v : Value} {n : Nat} {xs : List Value} (h : w.ownsRow b e size v n xs) {k : Nat} {cs : Array Value} {t : TypeId} {fr : Nat × Nat} (hb : w.heap[k]? = some (.cells cs t fr)) (ht : t ≠ e) : v.ownBlock ≠ some k := by
  intro hk
  rcases h.2 with ⟨rfl, rfl⟩ | ⟨g, cap, cur, rfl, _, hg, _⟩
  · simp [Value.ownBlock] at hk
  · simp [Value.ownBlock] at hk
    subst hk
    rw [hg] at hb
    simp at hb
    exact ht hb.2.1.symm

/-- A slice of bytes that reads as xs, and lies in none of the blocks F. -/
def SlO (w : World) (F : Nat → Prop) (v : Value) (xs : List UInt8) : Prop := SlC w v xs ∧ ∀ a n c, v = .slice (some a) n c → xs ≠ [] → ¬ F a.block
theorem add_block (a : Addr) (j : Nat) : (a.add j).block = a.block := by unfold Addr.add; split <;> rfl
theorem SlC.keepAt {w w' : World} {F : Nat → Prop} {v : Value} {xs : List UInt8} (h : SlO w F v xs) (hk : ∀ k, k < w.heap.size → ¬ F k → w'.heap[k]? = w.heap[k]?) : SlC w' v xs := by
  obtain ⟨h, hF⟩ := h
  rcases h with h | ⟨a, cap, rfl, hc⟩
  · exact .inl h
  · refine .inr ⟨a, cap, rfl, fun j hj => ?_⟩
    have h1 := hc j hj
    have hb : (a.add j).block < w.heap.size := World.block_lt_of_cell? w _ h1
    refine (World.cell?_of_block (hk _ hb ?_)).trans h1
    rw [add_block]
    exact hF a _ _ rfl (fun e => by subst e; simp at hj)
theorem SlO.keep {w w' : World} {F : Nat → Prop} {v : Value} {xs : List UInt8} (h : SlO w F v xs) (ho : Only F w w') : SlO w' F v xs :=
  ⟨SlC.keepAt h ho.block, h.2⟩
theorem SlO.quiet {w w' : World} {F : Nat → Prop} {v : Value} {xs : List UInt8} (h : SlO w F v xs) (ho : Only (fun _ => False) w w') : SlO w' F v xs :=
  ⟨h.1.keep ho, h.2⟩
/-- What was there when the statement began lies in no block that is newer. -/
theorem SlC.old {w0 w : World} {F : Nat → Prop} {v : Value} {xs : List UInt8} (h : SlC w0 v xs) (ho : Only (fun _ => False) w0 w) (hF : ∀ k, F k → w0.heap.size ≤ k) : SlO w F v xs := by
  refine ⟨h.keep ho, fun a n c e hx hk => ?_⟩
  rcases h with ⟨rfl, rfl⟩ | ⟨b, cap, rfl, hc⟩
  · exact hx rfl
  · simp at e
    obtain ⟨rfl, _, _⟩ := e
    have h0 : 0 < xs.length := List.length_pos_iff.2 hx
    have h1 := World.block_lt_of_cell? w0 _ (hc 0 h0)
    rw [add_block] at h1
    have := hF _ hk
    omega

/-! ### Parts of memory, side by side -/
/-- A part of memory: what holds of a world, and which blocks it takes. -/
abbrev Res := World → (Nat → Prop) → Prop
class Stab (I : Res) : Prop where
  lt : ∀ {w : World} {F : Nat → Prop}, I w F → ∀ k, F k → k < w.heap.size
  keep : ∀ {w w' : World} {F : Nat → Prop}, I w F → (∀ k, F k → w'.heap[k]? = w.heap[k]?) → I w' F
def Sep (I J : Res) : Res := fun w F => ∃ A B : Nat → Prop, I w A ∧ J w B ∧ (∀ k, A k → ¬ B k) ∧ ∀ k, F k ↔ A k ∨ B k
def Emp : Res := fun _ F => ∀ k, ¬ F k
def Blk (k : Nat) (o : Obj) : Res := fun w F => w.heap[k]? = some o ∧ ∀ i, F i ↔ i = k
def ExR {α : Type} (I : α → Res) : Res := fun w F => ∃ x, I x w F
def AndR (p : Prop) (I : Res) : Res := fun w F => p ∧ I w F
instance {I J : Res} [Stab I] [Stab J] : Stab (Sep I J) where
  lt := by
    rintro w F ⟨A, B, hA, hB, hd, hF⟩ k hk
    rcases (hF k).1 hk with h | h
    · exact Stab.lt hA k h
    · exact Stab.lt hB k h
  keep := by
    rintro w w' F ⟨A, B, hA, hB, hd, hF⟩ hk
    exact ⟨A, B, Stab.keep hA (fun k h => hk k ((hF k).2 (.inl h))), Stab.keep hB (fun k h => hk k ((hF k).2 (.inr h))), hd, hF⟩
instance : Stab Emp where
  lt := fun h k hk => (h k hk).elim
  keep := fun h _ => h
instance {k : Nat} {o : Obj} : Stab (Blk k o) where
  lt := fun h i hi => by rw [(h.2 i).1 hi]; exact lt_of_some h.1
  keep := fun h hk => ⟨(hk k ((h.2 k).2 rfl)).trans h.1, h.2⟩
instance {α : Type} {I : α → Res} [∀ x, Stab (I x)] : Stab (ExR I) where
  lt := fun ⟨_, h⟩ => Stab.lt h
  keep := fun ⟨x, h⟩ hk => ⟨x, Stab.keep h hk⟩
instance {p : Prop} {I : Res} [Stab I] : Stab (AndR p I) where
  lt := fun ⟨_, h⟩ => Stab.lt h
  keep := fun ⟨x, h⟩ hk => ⟨x, Stab.keep h hk⟩
theorem Sep.comm {I J : Res} {w : World} {F : Nat → Prop} (h : Sep I J w F) : Sep J I w F := by
  obtain ⟨A, B, hA, hB, hd, hF⟩ := h
  exact ⟨B, A, hB, hA, fun k h1 h2 => hd k h2 h1, fun k => (hF k).trans Or.comm⟩
theorem Sep.assoc {I J K : Res} {w : World} {F : Nat → Prop} (h : Sep (Sep I J) K w F) : Sep I (Sep J K) w F := by
  obtain ⟨AB, C, ⟨A, B, hA, hB, hd, hF⟩, hC, hd2, hF2⟩ := h
  refine ⟨A, fun k => B k ∨ C k, hA, ⟨B, C, hB, hC, fun k h1 h2 => hd2 k ((hF k).2 (.inr h1)) h2, fun k => Iff.rfl⟩, fun k h1 h2 => ?_, fun k => ?_⟩
  · rcases h2 with h2 | h2
    · exact hd k h1 h2
    · exact hd2 k ((hF k).2 (.inl h1)) h2
  · rw [hF2, hF, or_assoc]
theorem Sep.imp {I J I' J' : Res} {w : World} {F : Nat → Prop} (h : Sep I J w F) (hI : ∀ A, I w A → I' w A) (hJ : ∀ B, J w B → J' w B) : Sep I' J' w F := by
  obtain ⟨A, B, hA, hB, hd, hF⟩ := h
  exact ⟨A, B, hI A hA, hJ B hB, hd, hF⟩

/-- What a statement has made since it began in w0: parts of memory in blocks of its own; nothing that was there has changed. -/
def Own (w0 w : World) (I : Res) : Prop := ∃ F : Nat → Prop, I w F ∧ (∀ k, F k → w0.heap.size ≤ k) ∧ Only (fun _ => False) w0 w
theorem Own.only {w0 w : World} {I : Res} (h : Own w0 w I) : Only (fun _ => False) w0 w := h.choose_spec.2.2
theorem Own.start (w : World) : Own w w Emp := ⟨fun _ => False, fun _ h => h, fun _ h => h.elim, Only.refl _ _⟩
theorem Own.imp {w0 w : World} {I J : Res} (h : Own w0 w I) (hI : ∀ F, I w F → J w F) : Own w0 w J := by
  obtain ⟨F, h1, h2, h3⟩ := h
  exact ⟨F, hI F h1, h2, h3⟩
theorem Own.comm {w0 w : World} {I J : Res} (h : Own w0 w (Sep I J)) : Own w0 w (Sep J I) := h.imp fun _ => Sep.comm
theorem Own.assoc {w0 w : World} {I J K : Res} (h : Own w0 w (Sep (Sep I J) K)) : Own w0 w (Sep I (Sep J K)) := h.imp fun _ => Sep.assoc
theorem Own.assoc' {w0 w : World} {I J K : Res} (h : Own w0 w (Sep I (Sep J K))) : Own w0 w (Sep (Sep I J) K) :=
  h.imp fun _ h => (Sep.comm (Sep.assoc (Sep.comm (Sep.assoc (Sep.comm h)))))
theorem Own.fst {w0 w : World} {I J : Res} (h : Own w0 w (Sep I J)) : Own w0 w I := by
  obtain ⟨F, ⟨A, B, hA, hB, hd, hF⟩, h2, h3⟩ := h
  exact ⟨A, hA, fun k hk => h2 k ((hF k).2 (.inl hk)), h3⟩
theorem Own.snd {w0 w : World} {I J : Res} (h : Own w0 w (Sep I J)) : Own w0 w J := h.comm.fst
theorem Own.quiet {w0 w w' : World} {I : Res} [Stab I] (h : Own w0 w I) (ho : Only (fun _ => False) w w') : Own w0 w' I := by
  obtain ⟨F, h1, h2, h3⟩ := h
  exact ⟨F, Stab.keep h1 (fun k hk => ho.block k (Stab.lt h1 k hk) (fun h => h)), h2, h3.trans ho (fun _ _ h => h)⟩
theorem Own.drew {w0 w : World} {I : Res} [Stab I] (h : Own w0 w I) : Own w0 w.drew I := h.quiet ((Only.refl _ w).drew)
theorem Own.drewN {w0 w : World} {I : Res} [Stab I] (h : Own w0 w I) (n : Nat) : Own w0 (w.drewN n) I := h.quiet ((Only.refl _ w).drewN n)
/-- Something in new blocks. -/
theorem Own.fresh {w0 w w' : World} {I J : Res} [Stab I] (h : Own w0 w I) (ho : Only (fun _ => False) w w') {B : Nat → Prop} (hJ : J w' B) (hB : ∀ k, B k → w.heap.size ≤ k) : Own w0 w' (Sep J I) := by
  obtain ⟨F, h1, h2, h3⟩ := h
  exact ⟨fun k => B k ∨ F k, ⟨B, F, hJ, Stab.keep h1 (fun k hk => ho.block k (Stab.lt h1 k hk) (fun h => h)), fun k a b => by have := hB k a; have := Stab.lt h1 k b; omega, fun k => Iff.rfl⟩,
    fun k hk => hk.elim (fun a => by have := hB k a; have := h3.size; omega) (h2 k), h3.trans ho (fun _ _ h => h)⟩
theorem Own.alloc {w0 w : World} {I : Res} [Stab I] (h : Own w0 w I) (o : Obj) : Own w0 (w.alloc o) (Sep (Blk w.heap.size o) I) :=
  h.fresh ((Only.refl _ w).alloc o) (B := fun k => k = w.heap.size) ⟨heap_alloc_new w o, fun i => Iff.rfl⟩ (fun k e => by omega)

theorem Own.swap {w0 w : World} {I J K : Res} (h : Own w0 w (Sep I (Sep J K))) : Own w0 w (Sep J (Sep I K)) := (h.assoc'.imp fun _ h => h.imp (fun _ h => Sep.comm h) (fun _ h => h)).assoc
theorem Own.drop2 {w0 w : World} {I J K : Res} (h : Own w0 w (Sep I (Sep J K))) : Own w0 w (Sep I K) := h.swap.snd
/-- A new block beside the first part. -/
theorem Own.lend {w0 w : World} {I J : Res} [Stab I] [Stab J] (h : Own w0 w (Sep I J)) (o : Obj) : Own w0 (w.alloc o) (Sep I (Sep (Blk w.heap.size o) J)) := (h.alloc o).swap
/-- Bytes in a block of their own. -/
def Row (g : Nat) (t : TypeId) (xs : List UInt8) (fr : Nat × Nat := (0, 0)) : Res := Blk g (.cells (u8s xs).toArray t fr)
instance {g : Nat} {t : TypeId} {xs : List UInt8} {fr : Nat × Nat} : Stab (Row g t xs fr) := inferInstanceAs (Stab (Blk g _))
theorem row_bytes {w : World} {g : Nat} {xs : List UInt8} {t : TypeId} {fr : Nat × Nat} {n cap : Nat} (h : w.heap[g]? = some (.cells (u8s xs).toArray t fr)) (hn : n ≤ xs.length) : SlC w (.slice (some ⟨g, 0, none⟩) n cap) (xs.take n) := by
  refine .inr ⟨⟨g, 0, none⟩, cap, by simp [Nat.min_eq_left hn], fun j hj => ?_⟩
  rw [add_lit, cell_of_row w g _ _ _ _ h]
  simp at hj
  simp only [Nat.zero_add, List.getElem?_toArray]
  rw [u8s_at (by omega)]
  congr 3
  simp [List.getD_eq_getElem?_getD, show j < n by omega]
theorem row_bytes' {w : World} {g : Nat} {xs : List UInt8} {t : TypeId} {fr : Nat × Nat} {n cap : Nat} (h : w.heap[g]? = some (.cells (u8s xs).toArray t fr)) (hn : n = xs.length) : SlC w (.slice (some ⟨g, 0, none⟩) n cap) xs := by
  have := row_bytes (n := n) (cap := cap) h (Nat.le_of_eq hn)
  rwa [List.take_of_length_le (Nat.le_of_eq hn.symm)] at this
/-- What lies in a row of its own lies in no block of another part. -/
theorem Row.apart {w : World} {g n c : Nat} {t : TypeId} {xs : List UInt8} {fr : Nat × Nat} {J : Res} {F B : Nat → Prop} (hJ : Sep (Row g t xs fr) J w B) (hd : ∀ k, F k → ¬ B k) (hn : n = xs.length) : SlO w F (.slice (some ⟨g, 0, none⟩) n c) xs := by
  obtain ⟨A, C, hA, hC, hac, hB⟩ := hJ
  refine ⟨row_bytes' hA.1 hn, fun a m c e hx hk => ?_⟩
  simp at e
  obtain ⟨rfl, _, _⟩ := e
  exact hd _ hk ((hB _).2 (.inl ((hA.2 _).2 rfl)))
theorem Own.row {w0 w : World} {g : Nat} {t : TypeId} {xs : List UInt8} {fr : Nat × Nat} (h : Own w0 w (Row g t xs fr)) : w.heap[g]? = some (.cells (u8s xs).toArray t fr) := by
  obtain ⟨F, h1, _⟩ := h
  exact h1.1

/-- What a call leaves of a part of memory: it answers 'val x', the part is then 'Q x'; of what was there only the part's blocks have changed, and what it has taken besides is new. -/
def Post {α : Type} (w : World) (F : Nat → Prop) (val : α → Value) (Q : α → Res) (e : Ending) (w' : World) : Prop :=
  ∃ (x : α) (F' : Nat → Prop), e = .returned (val x) ∧ Q x w' F' ∧ (∀ k, F' k → F k ∨ w.heap.size ≤ k) ∧ Only F w w'
theorem Own.call {α : Type} {w0 w : World} {val : α → Value} {Q : α → Res} {I J : Res} [Stab J] {P : Program} {f : FuncId} {args : Array Value} (h : Own w0 w (Sep I J))
    (c : ∀ F B : Nat → Prop, I w F → J w B → (∀ k, F k → ¬ B k) → (∀ k, F k → w0.heap.size ≤ k) → Calls P f args w (Post w F val Q)) :
    Calls P f args w fun e w' => ∃ x, e = .returned (val x) ∧ Own w0 w' (Sep (Q x) J) := by
  obtain ⟨F, ⟨A, B, hA, hB, hd, hF⟩, h2, h3⟩ := h
  refine (c A B hA hB hd (fun k hk => h2 k ((hF k).2 (.inl hk)))).mono ?_
  rintro e w' ⟨x, F', rfl, hQ, hsub, ho⟩
  refine ⟨x, rfl, fun k => F' k ∨ B k, ⟨F', B, hQ, Stab.keep hB (fun k hk => ho.block k (Stab.lt hB k hk) (fun h => hd k h hk)), fun k a b => ?_, fun k => Iff.rfl⟩, fun k hk => ?_, h3.trans ho (fun k hk a => ?_)⟩
  · rcases hsub k a with h | h
    · exact hd k h b
    · have := Stab.lt hB k b; omega
  · rcases hk with hk | hk
    · rcases hsub k hk with h | h
      · exact h2 k ((hF k).2 (.inl h))
      · have := h3.size; omega
    · exact h2 k ((hF k).2 (.inr hk))
  · have := h2 k ((hF k).2 (.inl a)); omega
theorem Own.call1 {α : Type} {w0 w : World} {val : α → Value} {Q : α → Res} {I : Res} {P : Program} {f : FuncId} {args : Array Value} (h : Own w0 w I)
    (c : ∀ F : Nat → Prop, I w F → (∀ k, F k → w0.heap.size ≤ k) → Calls P f args w (Post w F val Q)) :
    Calls P f args w fun e w' => ∃ x, e = .returned (val x) ∧ Own w0 w' (Q x) := by
  have h' : Own w0 w (Sep I Emp) := h.imp fun F hF => ⟨F, fun _ => False, hF, fun _ h => h, fun _ _ h => h, fun k => by simp⟩
  refine (h'.call (fun F B hI _ _ hF => c F hI hF)).mono ?_
  rintro e w' ⟨x, rfl, hq⟩
  exact ⟨x, rfl, hq.fst⟩
theorem Post.of {α : Type} {w : World} {F : Nat → Prop} {val : α → Value} {Q : α → Res} {e : Ending} {w' : World} (x : α) (F' : Nat → Prop) (he : e = .returned (val x)) (hQ : Q x w' F') (hs : ∀ k, F' k → F k ∨ w.heap.size ≤ k) (ho : Only F w w') : Post w F val Q e w' :=
  ⟨x, F', he, hQ, hs, ho⟩

end Go.Proofs.YtookbmpaoljelaaGreat

namespace Go.Proofs.YtookbmpaoljelaaGreat
open Go Go.RowKit
set_option linter.unusedVariables false
set_option linter.unusedSimpArgs false
set_option maxRecDepth 100000
set_option linter.unusedSimpArgs false
set_option maxRecDepth 100000

/-- The lowest k bytes of x, the highest first. -/
def beB : Nat → Nat → List UInt8
  | 0, _ => []
  | k + 1, x => UInt8.ofNat (x / 256 ^ k) :: beB k x
theorem beB_length (k x : Nat) : (beB k x).length = k := by induction k with
  | zero => rfl
  | succ k ih => simp [beB, ih]
/-- Blocks that a put into the Out at p may change. -/
def OutS (p : Nat) (v : Value) (k : Nat) : Prop := k = p ∨ v.ownBlock = some k
theorem OutS.sub {w : World} {p : Nat} {v v' : Value} (hb : v'.ownBlock = v.ownBlock ∨ ∃ g, v'.ownBlock = some g ∧ w.heap.size ≤ g) : ∀ k, k < w.heap.size → OutS p v' k → OutS p v k := by
  intro k hk h
  rcases h with rfl | h
  · exact .inl rfl
  · rcases hb with hb | ⟨g, hg, hge⟩
    · exact .inr (hb ▸ h)
    · rw [hg] at h; simp at h; omega
theorem row_trans {w wr : World} {v v1 v2 : Value} (h : w.heap.size ≤ wr.heap.size) (h1 : v1.ownBlock = v.ownBlock ∨ ∃ g, v1.ownBlock = some g ∧ w.heap.size ≤ g)
    (h2 : v2.ownBlock = v1.ownBlock ∨ ∃ g, v2.ownBlock = some g ∧ wr.heap.size ≤ g) : v2.ownBlock = v.ownBlock ∨ ∃ g, v2.ownBlock = some g ∧ w.heap.size ≤ g := by
  rcases h2 with h2 | ⟨g, hg, hge⟩
  · rw [h2]; exact h1
  · exact .inr ⟨g, hg, by omega⟩
theorem shift_at (x m : Nat) (hm : m ≤ 7) : Op.shift .shr .u64 (x : Int) .i64 (IntKind.i64.wrap (8 * (m : Int))) = pure (.int .u64 ((x / 256 ^ m : Nat) : Int)) := by
  have e : IntKind.i64.wrap (8 * (m : Int)) = ((8 * m : Nat) : Int) := by
    rw [IntWalk.i64_in _ (by omega)]; omega
  rw [e, shift_shr .u64 .i64 _ _ (by omega) (by simp [IntKind.bits]; omega)]
  congr 2
  have h2 : (256 : Nat) ^ m = 2 ^ (8 * m) := by rw [Nat.pow_mul]
  rw [h2]
  have h3 : ((8 * m : Nat) : Int).toNat = 8 * m := by omega
  rw [h3]
  norm_cast
/-- The number in these bytes, the highest first. -/
def numB (l : List UInt8) : Nat := l.foldl (fun x b => x * 256 + b.toNat) 0
theorem numB_snoc (l : List UInt8) (b : UInt8) : numB (l ++ [b]) = numB l * 256 + b.toNat := by simp [numB]
theorem numB_lt (k : Nat) : ∀ l : List UInt8, l.length = k → numB l < 256 ^ k := by
  induction k with
  | zero => intro l hl; obtain rfl : l = [] := List.length_eq_zero_iff.1 hl; simp [numB]
  | succ k ih =>
    intro l hl
    have hne : l ≠ [] := by intro h; subst h; simp at hl
    rw [← List.dropLast_concat_getLast hne, numB_snoc, Nat.pow_succ]
    have := ih l.dropLast (by simp [hl])
    have := (l.getLast hne).toNat_lt
    omega
theorem take_snoc8 (l : List UInt8) (k : Nat) (h : k < l.length) : l.take (k + 1) = l.take k ++ [l.getD k 0] := by
  rw [List.take_succ_eq_append_getElem h]; simp [h]
theorem or_step (x b : Nat) (hx : x < 72057594037927936) (hb : b < 256) : bits .or .u64 ((x : Int) * 256) (IntKind.u64.wrap (b : Int)) = ((x * 256 + b : Nat) : Int) := by
  have e1 : IntKind.u64.wrap (b : Int) = (b : Int) := by rw [IntKind.wrap_u64]; omega
  have e2 : (x : Int) * 256 = ((x * 256 : Nat) : Int) := by omega
  rw [e1, e2, bits_or_u64_nat _ _ (by omega) (by omega)]
  congr 1
  have := Nat.two_pow_add_eq_or_of_lt (i := 8) (b := b) (by omega) x
  rw [Nat.mul_comm x 256]
  exact this.symm
theorem numB_take_lt (ys : List UInt8) (k : Nat) (hk : k < ys.length) (h8 : ys.length ≤ 8) : numB (ys.take k) < 72057594037927936 := by
  have h1 := numB_lt k (ys.take k) (by simp; omega)
  have h2 : 256 ^ k ≤ 256 ^ 7 := Nat.pow_le_pow_right (by omega) (by omega)
  omega
theorem foldB (l : List UInt8) : ∀ a : Nat, l.foldl (fun x b => x * 256 + b.toNat) a = a * 256 ^ l.length + numB l := by
  induction l with
  | nil => intro a; simp [numB]
  | cons b l ih =>
    intro a
    simp only [List.foldl_cons, List.length_cons, numB, Nat.pow_succ]
    rw [ih, ih (0 * 256 + b.toNat)]
    simp only [Nat.zero_mul, Nat.zero_add, Nat.add_mul]
    rw [Nat.mul_assoc a 256, Nat.mul_comm 256, Nat.add_assoc]
theorem numB_append (l m : List UInt8) : numB (l ++ m) = numB l * 256 ^ m.length + numB m := by
  unfold numB
  rw [List.foldl_append]
  exact foldB m _
theorem numB_be (x : Nat) : ∀ k : Nat, numB (beB k x) = x % 256 ^ k := by
  intro k
  induction k with
  | zero => simp [beB, numB, Nat.mod_one]
  | succ k ih =>
    have h := numB_append [UInt8.ofNat (x / 256 ^ k)] (beB k x)
    simp only [List.singleton_append] at h
    rw [beB, h, ih, beB_length, Nat.pow_succ, Nat.mod_mul]
    simp [numB]
    rw [Nat.mul_comm]
    omega
/-- A sector that holds a part is the part's bytes with zeros behind them. -/
theorem beB_mod : ∀ (k a b : Nat), a % 256 ^ k = b % 256 ^ k → beB k a = beB k b
  | 0, _, _, _ => rfl
  | k + 1, a, b, h => by
    have h1 : a % 256 ^ k = b % 256 ^ k := by
      rw [← Nat.mod_mod_of_dvd a (Nat.pow_dvd_pow 256 (Nat.le_succ k)), h, Nat.mod_mod_of_dvd b (Nat.pow_dvd_pow 256 (Nat.le_succ k))]
    have h2 : a / 256 ^ k % 256 = b / 256 ^ k % 256 := by
      rw [Nat.pow_succ] at h
      rw [← Nat.mod_mul_right_div_self, ← Nat.mod_mul_right_div_self, h]
    rw [beB, beB, beB_mod k a b h1]
    congr 1
    rw [← UInt8.toNat_inj]
    simpa using h2
theorem beB_numB : ∀ (k : Nat) (l : List UInt8), l.length = k → beB k (numB l) = l
  | 0, l, h => by rw [List.eq_nil_of_length_eq_zero h]; rfl
  | k + 1, l, h => by
    match l, h with
    | b :: r, h =>
      have hr : r.length = k := by simpa using h
      have h1 := numB_append [b] r
      simp only [List.singleton_append] at h1
      have h2 : numB [b] = b.toNat := by simp [numB]
      rw [h2, hr] at h1
      have hlt := numB_lt k r hr
      rw [beB, h1]
      have e1 : (b.toNat * 256 ^ k + numB r) / 256 ^ k = b.toNat := by
        rw [Nat.mul_comm, Nat.mul_add_div (Nat.pow_pos (by decide)), Nat.div_eq_of_lt hlt, Nat.add_zero]
      rw [e1]
      have e2 : beB k (b.toNat * 256 ^ k + numB r) = beB k (numB r) := beB_mod k _ _ (by rw [Nat.mul_comm, Nat.mul_add_mod])
      rw [e2, beB_numB k r hr]
      simp
theorem numB_be' (x k : Nat) (h : x < 256 ^ k) : numB (beB k x) = x := by rw [numB_be, Nat.mod_eq_of_lt h]

end Go.Proofs.YtookbmpaoljelaaGreat

namespace Go.Proofs.YtookbmpaoljelaaGreat
open Go Go.RowKit
set_option linter.unusedVariables false
set_option linter.unusedSimpArgs false
set_option maxRecDepth 100000

/-- A slice value that reads as these bytes, in a block of bytes. -/
def SlB (w : World) (v : Value) (xs : List UInt8) : Prop :=
  (v = .slice none 0 0 ∧ xs = []) ∨
  ∃ g off cap cur, v = .slice (some ⟨g, off, none⟩) xs.length cap ∧ xs.length ≤ cap ∧ cap ≤ maxLen ∧ w.heap[g]? = some (.cells cur 5 (0, 0)) ∧
    ∀ j, j < xs.length → cur[off + j]? = some (.int .u8 (xs.getD j 0).toNat)

/-- The Out in block p: the slice value in its field, its bytes, the block of its row. -/
structure OutV (w : World) (p : Nat) (v : Value) (xs : List UInt8) : Prop where
  at' : w.heap[p]? = some (.cells #[v] 63 (0, 0))
  own : w.ownsRow 0 5 1 v xs.length (u8s xs)

/-- The In in block p: the slice value in its field, the bytes that are left, whether it is bad. -/
structure InV (w : World) (p : Nat) (v : Value) (xs : List UInt8) (bad : Bool) : Prop where
  at' : w.heap[p]? = some (.cells #[v, .bool bad] 69 (0, 0))
  sl : SlB w v xs

theorem SlB.keep {S : Nat → Prop} {w w' : World} {v : Value} {xs : List UInt8} (h : SlB w v xs) (ho : Only S w w')
    (hS : ∀ k cur, w.heap[k]? = some (.cells cur 5 (0, 0)) → ¬ S k) : SlB w' v xs := by
  rcases h with h | ⟨g, off, cap, cur, rfl, h1, h2, h3, h4⟩
  · exact .inl h
  · exact .inr ⟨g, off, cap, cur, rfl, h1, h2, ho.keep h3 (hS g cur h3), h4⟩

theorem InV.cell0 {w : World} {p : Nat} {v : Value} {xs : List UInt8} {bad : Bool} (h : InV w p v xs bad) : w.cell? ⟨p, 0, none⟩ = some v := by simp [World.cell?, h.at']
theorem InV.cell1 {w : World} {p : Nat} {v : Value} {xs : List UInt8} {bad : Bool} (h : InV w p v xs bad) : w.cell? ⟨p, 1, none⟩ = some (.bool bad) := by simp [World.cell?, h.at']
theorem InV.free {w : World} {p : Nat} {v : Value} {xs : List UInt8} {bad : Bool} (h : InV w p v xs bad) (o : Nat) : w.frozen? ⟨p, o, none⟩ = false := by simp [World.frozen?, h.at']
theorem InV.lt {w : World} {p : Nat} {v : Value} {xs : List UInt8} {bad : Bool} (h : InV w p v xs bad) : p < w.heap.size := lt_of_some h.at'

theorem SlB.shape {w : World} {v : Value} {xs : List UInt8} (h : SlB w v xs) :
    ∃ ao cap, v = .slice ao xs.length cap ∧ xs.length ≤ cap ∧ cap ≤ maxLen := by
  rcases h with ⟨rfl, rfl⟩ | ⟨g, off, cap, cur, rfl, h1, h2, _⟩
  · exact ⟨none, 0, rfl, Nat.le_refl _, by unfold maxLen; omega⟩
  · exact ⟨_, cap, rfl, h1, h2⟩

end Go.Proofs.YtookbmpaoljelaaGreat

namespace Go.Proofs.YtookbmpaoljelaaGreat
open Go Go.RowKit

set_option maxHeartbeats 400000 in
theorem bad_any (p : Nat) (b : Bool) (w : World) (hc : w.cell? ⟨p, 1, none⟩ = some (.bool b)) :
    Calls Tryz.prog 43 #[.pointer (some ⟨p, 0, none⟩)] w fun e w' => e = .returned (.bool b) ∧ w = w' := by
  go_enter Tryz.func43, Tryz.ntmps43
  go_wp2
  go_ret
  exact ⟨rfl, rfl⟩

set_option maxHeartbeats 400000 in
theorem bad_nil (w : World) :
    Calls Tryz.prog 43 #[.pointer none] w fun e w' => e = .returned (.bool true) ∧ w = w' := by
  go_enter Tryz.func43, Tryz.ntmps43
  go_wp2
  go_ret
  exact ⟨rfl, rfl⟩

set_option maxHeartbeats 400000 in
theorem left_any (p : Nat) (ao : Option Addr) (n c : Nat) (w : World) (hc : w.cell? ⟨p, 0, none⟩ = some (.slice ao n c)) :
    Calls Tryz.prog 44 #[.pointer (some ⟨p, 0, none⟩)] w fun e w' => e = .returned (.int .i64 n) ∧ w = w' := by
  go_enter Tryz.func44, Tryz.ntmps44
  go_wp2
  go_ret
  exact ⟨rfl, rfl⟩

set_option maxHeartbeats 400000 in
theorem left_nil (w : World) :
    Calls Tryz.prog 44 #[.pointer none] w fun e w' => e = .returned (.int .i64 0) ∧ w = w' := by
  go_enter Tryz.func44, Tryz.ntmps44
  go_wp2
  go_ret
  exact ⟨rfl, rfl⟩

end Go.Proofs.YtookbmpaoljelaaGreat

namespace Go.Proofs.YtookbmpaoljelaaGreat
open Go Go.RowKit
set_option linter.unusedVariables false
set_option linter.unusedSimpArgs false
set_option maxRecDepth 100000

set_option maxHeartbeats 400000 in
theorem next_nil (n : Int) (w : World) :
    Calls Tryz.prog 77 #[.pointer none, .int .i64 n] w fun e w' => e = .returned (.slice none 0 0) ∧ w = w' := by
  go_enter Tryz.func77, Tryz.ntmps77
  go_wp2_with (go_at_call 43; refine (bad_nil _).mono ?_; rintro e w' ⟨rfl, rfl⟩)
  go_ret
  exact ⟨rfl, rfl⟩

set_option maxHeartbeats 400000 in
theorem next_bad (p : Nat) (n : Int) (w : World) (hc : w.cell? ⟨p, 1, none⟩ = some (.bool true)) :
    Calls Tryz.prog 77 #[.pointer (some ⟨p, 0, none⟩), .int .i64 n] w fun e w' => e = .returned (.slice none 0 0) ∧ w = w' := by
  go_enter Tryz.func77, Tryz.ntmps77
  go_wp2_with (go_at_call 43; refine (bad_any _ _ _ hc).mono ?_; rintro e w' ⟨rfl, rfl⟩)
  go_ret
  exact ⟨rfl, rfl⟩

set_option maxHeartbeats 400000 in
theorem next_short (p : Nat) (ao : Option Addr) (l c n : Nat) (w : World) (hc : w.cell? ⟨p, 1, none⟩ = some (.bool false)) (hc0 : w.cell? ⟨p, 0, none⟩ = some (.slice ao l c))
    (hf : w.frozen? ⟨p, 1, none⟩ = false) (hn : l < n) :
    Calls Tryz.prog 77 #[.pointer (some ⟨p, 0, none⟩), .int .i64 n] w fun e w' => e = .returned (.slice none 0 0) ∧ w.setCell ⟨p, 1, none⟩ (.bool true) = w' := by
  go_enter Tryz.func77, Tryz.ntmps77
  go_wp2_with (go_at_call 43; refine (bad_any _ _ _ hc).mono ?_; rintro e w' ⟨rfl, rfl⟩)
  go_ret
  exact ⟨rfl, rfl⟩

set_option maxHeartbeats 400000 in
theorem next_ok (p g off l c n : Nat) (w : World) (hc : w.cell? ⟨p, 1, none⟩ = some (.bool false)) (hc0 : w.cell? ⟨p, 0, none⟩ = some (.slice (some ⟨g, off, none⟩) l c))
    (hf : w.frozen? ⟨p, 0, none⟩ = false) (hn : n ≤ l) (hlc : l ≤ c) (hm : c ≤ 9223372036854775807) :
    Calls Tryz.prog 77 #[.pointer (some ⟨p, 0, none⟩), .int .i64 n] w fun e w' => e = .returned (.slice (some ⟨g, off, none⟩) n c) ∧
      w.setCell ⟨p, 0, none⟩ (.slice (some (if n < c then ⟨g, off + n, none⟩ else ⟨g, off, none⟩)) (l - n) (c - n)) = w' := by
  have hn' : ¬ l < n := by omega
  go_enter Tryz.func77, Tryz.ntmps77
  go_wp2_with (go_at_call 43; refine (bad_any _ _ _ hc).mono ?_; rintro e w' ⟨rfl, rfl⟩)
  all_goals (go_ret; exact ⟨rfl, rfl⟩)

set_option maxHeartbeats 400000 in
theorem next_ok0 (p : Nat) (w : World) (hc : w.cell? ⟨p, 1, none⟩ = some (.bool false)) (hc0 : w.cell? ⟨p, 0, none⟩ = some (.slice none 0 0))
    (hf : w.frozen? ⟨p, 0, none⟩ = false) :
    Calls Tryz.prog 77 #[.pointer (some ⟨p, 0, none⟩), .int .i64 0] w fun e w' => e = .returned (.slice none 0 0) ∧
      w.setCell ⟨p, 0, none⟩ (.slice none 0 0) = w' := by
  go_enter Tryz.func77, Tryz.ntmps77
  go_wp2_with (go_at_call 43; refine (bad_any _ _ _ hc).mono ?_; rintro e w' ⟨rfl, rfl⟩)
  go_ret
  exact ⟨rfl, rfl⟩

/-- May n bytes be taken? -/
def can (n : Nat) (xs : List UInt8) (bad : Bool) : Bool := !bad && decide (n ≤ xs.length)
def nextR (n : Nat) (xs : List UInt8) (bad : Bool) : List UInt8 := if can n xs bad then xs.take n else []
def nextL (n : Nat) (xs : List UInt8) (bad : Bool) : List UInt8 := if can n xs bad then xs.drop n else xs

def NextPost (w : World) (p n : Nat) (xs : List UInt8) (bad : Bool) (e : Ending) (w' : World) : Prop :=
  ∃ r v', e = .returned r ∧ SlB w' r (nextR n xs bad) ∧ InV w' p v' (nextL n xs bad) (!can n xs bad) ∧ Only (fun k => k = p) w w'

theorem SlB.setCell {w : World} {v : Value} {xs : List UInt8} (h : SlB w v xs) {p : Nat} {cs : Array Value} {t : TypeId} (hp : w.heap[p]? = some (.cells cs t (0, 0))) (ht : t ≠ 5) (o : Nat) (u : Value) :
    SlB (w.setCell ⟨p, o, none⟩ u) v xs :=
  h.keep (S := fun k => k = p) (Only.cell w p o u) (fun k cur hk e => by subst e; rw [hk] at hp; simp at hp; exact ht hp.2.symm)

theorem InV.set0 {w : World} {p : Nat} {v u : Value} {xs ys : List UInt8} {bad : Bool} (h : InV w p v xs bad) (hu : SlB w u ys) : InV (w.setCell ⟨p, 0, none⟩ u) p u ys bad :=
  ⟨by rw [heap_set h.at']; rfl, hu.setCell h.at' (by decide) 0 u⟩
theorem InV.set1 {w : World} {p : Nat} {v : Value} {xs : List UInt8} {bad : Bool} (h : InV w p v xs bad) (b : Bool) : InV (w.setCell ⟨p, 1, none⟩ (.bool b)) p v xs b :=
  ⟨by rw [heap_set h.at']; rfl, h.sl.setCell h.at' (by decide) 1 _⟩

theorem SlB.take {w : World} {g off cap : Nat} {cur : Array Value} {xs : List UInt8} (hc : xs.length ≤ cap) (hm : cap ≤ maxLen) (hg : w.heap[g]? = some (.cells cur 5 (0, 0)))
    (hx : ∀ j, j < xs.length → cur[off + j]? = some (.int .u8 (xs.getD j 0).toNat)) {n : Nat} (hn : n ≤ xs.length) : SlB w (.slice (some ⟨g, off, none⟩) n cap) (xs.take n) := by
  refine .inr ⟨g, off, cap, cur, by simp [Nat.min_eq_left hn], by simp; omega, hm, hg, fun j hj => ?_⟩
  simp at hj
  rw [hx j (by omega)]
  rw [List.getD_eq_getElem?_getD, List.getD_eq_getElem?_getD, List.getElem?_take, if_pos (by omega)]

theorem SlB.drop {w : World} {g off cap : Nat} {cur : Array Value} {xs : List UInt8} (hc : xs.length ≤ cap) (hm : cap ≤ maxLen) (hg : w.heap[g]? = some (.cells cur 5 (0, 0)))
    (hx : ∀ j, j < xs.length → cur[off + j]? = some (.int .u8 (xs.getD j 0).toNat)) {n : Nat} (hn : n ≤ xs.length) :
    SlB w (.slice (some (if n < cap then ⟨g, off + n, none⟩ else ⟨g, off, none⟩)) (xs.length - n) (cap - n)) (xs.drop n) := by
  by_cases h : n < cap
  · refine .inr ⟨g, off + n, cap - n, cur, by simp [h], by simp; omega, by omega, hg, fun j hj => ?_⟩
    simp at hj
    rw [Nat.add_assoc, hx (n + j) (by omega)]
    simp [List.getD_eq_getElem?_getD]
  · refine .inr ⟨g, off, cap - n, cur, by simp [h], by simp; omega, by omega, hg, fun j hj => ?_⟩
    simp at hj
    omega

theorem next_any (p n : Nat) (v : Value) (xs : List UInt8) (bad : Bool) (w : World) (hI : InV w p v xs bad) :
    Calls Tryz.prog 77 #[.pointer (some ⟨p, 0, none⟩), .int .i64 n] w (NextPost w p n xs bad) := by
  cases bad with
  | true =>
    refine (next_bad p n w hI.cell1).mono ?_
    rintro e w' ⟨rfl, rfl⟩
    refine ⟨_, v, rfl, .inl ⟨rfl, by simp [nextR, can]⟩, by simpa [nextL, can] using hI, Only.refl _ _⟩
  | false =>
    by_cases hn : n ≤ xs.length
    · have hcan : can n xs false = true := by simp [can, hn]
      rcases hI.sl with ⟨rfl, rfl⟩ | ⟨g, off, cap, cur, rfl, h1, h2, h3, h4⟩
      · obtain rfl : n = 0 := by simpa using hn
        refine (next_ok0 p w hI.cell1 hI.cell0 (hI.free 0)).mono ?_
        rintro e w' ⟨rfl, rfl⟩
        refine ⟨_, .slice none 0 0, rfl, .inl ⟨rfl, by simp [nextR]⟩, ?_, Only.cell w p _ _⟩
        rw [hcan]
        simpa [nextL] using hI.set0 (u := .slice none 0 0) (ys := []) (.inl ⟨rfl, rfl⟩)
      · refine (next_ok p g off xs.length cap n w hI.cell1 hI.cell0 (hI.free 0) hn h1 (by unfold maxLen at h2; omega)).mono ?_
        rintro e w' ⟨rfl, rfl⟩
        have ht := (SlB.take h1 h2 h3 h4 hn).setCell hI.at' (by decide) 0 (.slice (some (if n < cap then ⟨g, off + n, none⟩ else ⟨g, off, none⟩)) (xs.length - n) (cap - n))
        have hd := hI.set0 (SlB.drop h1 h2 h3 h4 hn)
        refine ⟨_, _, rfl, by simpa [nextR, hcan] using ht, by simpa [nextL, hcan] using hd, Only.cell w p _ _⟩
    · have hcan : can n xs false = false := by simp [can]; omega
      obtain ⟨ao, cap, rfl, _⟩ := hI.sl.shape
      refine (next_short p ao xs.length cap n w hI.cell1 hI.cell0 (hI.free 1) (by omega)).mono ?_
      rintro e w' ⟨rfl, rfl⟩
      refine ⟨_, _, rfl, .inl ⟨rfl, by simp [nextR, hcan]⟩, by simpa [nextL, hcan] using hI.set1 true, Only.cell w p _ _⟩

end Go.Proofs.YtookbmpaoljelaaGreat

namespace Go.Proofs.YtookbmpaoljelaaGreat
open Go Go.RowKit
set_option linter.unusedVariables false
set_option linter.unusedSimpArgs false
set_option maxRecDepth 100000

theorem SlB.cells {w : World} {ao : Option Addr} {n cap : Nat} {ys : List UInt8} (h : SlB w (.slice ao n cap) ys) {k : Nat} (hk : k < ys.length) :
    ∃ g off, ao = some ⟨g, off, none⟩ ∧ w.cell? ⟨g, off + k, none⟩ = some (.int .u8 (ys.getD k 0).toNat) := by
  rcases h with ⟨_, rfl⟩ | ⟨g, off, cap', cur, hv, _, _, hg, hx⟩
  · simp at hk
  · simp only [Value.slice.injEq] at hv
    exact ⟨g, off, hv.1, by simp [World.cell?, hg, hx k hk]⟩
def NumPost (w : World) (p n : Nat) (xs : List UInt8) (bad : Bool) (e : Ending) (w' : World) : Prop :=
  ∃ v', e = .returned (.int .u64 (numB (nextR n xs bad))) ∧ InV w' p v' (nextL n xs bad) (!can n xs bad) ∧ Only (fun k => k = p) w w'

set_option maxHeartbeats 400000 in
theorem number_any (p n : Nat) (v : Value) (xs : List UInt8) (bad : Bool) (w : World) (hI : InV w p v xs bad) (hn8 : n ≤ 8) :
    Calls Tryz.prog 76 #[.pointer (some ⟨p, 0, none⟩), .int .i64 n] w (NumPost w p n xs bad) := by
  go_enter Tryz.func76, Tryz.ntmps76
  go_wp2_with fail
  refine (next_any p n v xs bad w hI).mono ?_
  rintro e w1 ⟨r, v', rfl, hr, hI', ho⟩
  obtain ⟨ys, hys⟩ : ∃ ys, ys = nextR n xs bad := ⟨_, rfl⟩
  rw [← hys] at hr
  have hl8 : ys.length ≤ 8 := by rw [hys]; unfold nextR; split <;> simp; omega
  obtain ⟨ao, cap, hre, hlc, hcm⟩ := hr.shape
  have HR := Lib.hid hr; clear hr
  have HY := Lib.hid hys; clear hys
  have HI' := Lib.hid hI'; clear hI'
  have HO := Lib.hid ho; clear ho
  have HI := Lib.hid hI; clear hI
  subst hre
  go_wp2_with fail
  go_loop [5, 12] (fun x i => ∃ k : Nat, k ≤ ys.length ∧ i = .int .i64 k ∧ x = .int .u64 (numB (ys.take k))) (fun _ i => ys.length - (intOf i).toNat)
  case atStart => exact ⟨0, Nat.zero_le _, rfl, rfl⟩
  case round =>
    obtain ⟨k, hk, rfl, rfl⟩ := hrel
    by_cases hlt : k < ys.length
    · obtain ⟨g, off, hao, hcell⟩ := HR.out.cells hlt
      have hbd : (ys.getD k 0).toNat < 256 := (ys.getD k 0).toNat_lt
      have hnb := Lib.hid (numB_take_lt ys k hlt hl8)
      have hnb' := hnb.out
      have hbd' := Lib.hid hbd
      have HT := Lib.hid (take_snoc8 ys k hlt)
      have HG : Hid (ys.getD k 0 = ys[k]) := by simp [Hid, hlt]
      subst hao
      go_wp2
      go_round
      case rel =>
        refine ⟨k + 1, by omega, by go_num, ?_⟩
        rw [← HG.out, or_step _ _ hnb.out hbd'.out, HT.out, numB_snoc]
      case measure => simp [intOf]; omega
    · have hke : k = ys.length := by omega
      go_wp2
      go_ret
      refine ⟨v', ?_, HI'.out, HO.out⟩
      rw [← HY.out]
      rfl

end Go.Proofs.YtookbmpaoljelaaGreat

namespace Go.Proofs.YtookbmpaoljelaaGreat
open Go Go.RowKit
set_option linter.unusedVariables false
set_option linter.unusedSimpArgs false
set_option maxRecDepth 100000

theorem nextR_le (n : Nat) (xs : List UInt8) (bad : Bool) : (nextR n xs bad).length ≤ n := by
  unfold nextR; split
  · simp; omega
  · simp
theorem numB_le (n : Nat) (l : List UInt8) (h : l.length ≤ n) : numB l < 256 ^ n := by
  have h1 := numB_lt l.length l rfl
  have h2 : 256 ^ l.length ≤ 256 ^ n := Nat.pow_le_pow_right (by omega) h
  omega
theorem numN_lt (n : Nat) (xs : List UInt8) (bad : Bool) : numB (nextR n xs bad) < 256 ^ n := numB_le n _ (nextR_le n xs bad)

/-- A take of a number of n bytes, answered in an integer kind. -/
def UPost (k : IntKind) (w : World) (p n : Nat) (xs : List UInt8) (bad : Bool) (e : Ending) (w' : World) : Prop :=
  ∃ v', e = .returned (.int k (numB (nextR n xs bad))) ∧ InV w' p v' (nextL n xs bad) (!can n xs bad) ∧ Only (fun k => k = p) w w'

set_option maxHeartbeats 400000 in
theorem inU64 (p : Nat) (v : Value) (xs : List UInt8) (bad : Bool) (w : World) (hI : InV w p v xs bad) :
    Calls Tryz.prog 38 #[.pointer (some ⟨p, 0, none⟩)] w (UPost .u64 w p 8 xs bad) := by
  go_enter Tryz.func38, Tryz.ntmps38
  go_wp2_with fail
  refine (number_any p 8 v xs bad w hI (by omega)).mono ?_
  rintro e w1 ⟨v', rfl, hI', ho⟩
  have HI' := Lib.hid hI'; clear hI'
  have HO := Lib.hid ho; clear ho
  go_wp2
  go_ret
  exact ⟨v', rfl, HI'.out, HO.out⟩


set_option maxHeartbeats 400000 in
theorem inU16 (p : Nat) (v : Value) (xs : List UInt8) (bad : Bool) (w : World) (hI : InV w p v xs bad) :
    Calls Tryz.prog 75 #[.pointer (some ⟨p, 0, none⟩)] w (UPost .u16 w p 2 xs bad) := by
  go_enter Tryz.func75, Tryz.ntmps75
  go_wp2_with fail
  refine (number_any p 2 v xs bad w hI (by omega)).mono ?_
  rintro e w1 ⟨v', rfl, hI', ho⟩
  have HI' := Lib.hid hI'; clear hI'
  have HO := Lib.hid ho; clear ho
  have HN := Lib.hid (numN_lt 2 xs bad)
  go_wp2
  go_ret
  refine ⟨v', ?_, HI'.out, HO.out⟩
  have := HN.out
  simp [IntKind.wrap_u16]
  omega

set_option maxHeartbeats 400000 in
theorem inU8 (p : Nat) (v : Value) (xs : List UInt8) (bad : Bool) (w : World) (hI : InV w p v xs bad) :
    Calls Tryz.prog 74 #[.pointer (some ⟨p, 0, none⟩)] w (UPost .u8 w p 1 xs bad) := by
  go_enter Tryz.func74, Tryz.ntmps74
  go_wp2_with fail
  refine (number_any p 1 v xs bad w hI (by omega)).mono ?_
  rintro e w1 ⟨v', rfl, hI', ho⟩
  have HI' := Lib.hid hI'; clear hI'
  have HO := Lib.hid ho; clear ho
  have HN := Lib.hid (numN_lt 1 xs bad)
  go_wp2
  go_ret
  refine ⟨v', ?_, HI'.out, HO.out⟩
  have := HN.out
  simp
  omega


/-- What a flag's take answers and leaves. -/
def flagOk (xs : List UInt8) (bad : Bool) : Bool := can 1 xs bad && decide ((xs.headD 0).toNat ≤ 1)
def flagR (xs : List UInt8) (bad : Bool) : Bool := flagOk xs bad && decide ((xs.headD 0).toNat = 1)
def flagL (xs : List UInt8) (bad : Bool) : List UInt8 := if flagOk xs bad then xs.drop 1 else xs
def FlagPost (w : World) (p : Nat) (xs : List UInt8) (bad : Bool) (e : Ending) (w' : World) : Prop :=
  ∃ v', e = .returned (.bool (flagR xs bad)) ∧ InV w' p v' (flagL xs bad) (!flagOk xs bad) ∧ Only (fun k => k = p) w w'

set_option maxHeartbeats 400000 in
theorem flag_empty (p : Nat) (v : Value) (bad : Bool) (w : World) (hI : InV w p v [] bad) :
    Calls Tryz.prog 33 #[.pointer (some ⟨p, 0, none⟩)] w (FlagPost w p [] bad) := by
  obtain ⟨ao, cap, rfl, _⟩ := hI.sl.shape
  have hc0 := hI.cell0
  simp only [List.length_nil] at hc0
  have HI := Lib.hid hI; clear hI
  go_enter Tryz.func33, Tryz.ntmps33
  go_wp2_with fail
  refine (left_any p ao 0 cap w hc0).mono ?_
  rintro e w' ⟨rfl, rfl⟩
  go_wp2_with fail
  refine (inU8 p _ [] bad w HI.out).mono ?_
  rintro e w1 ⟨v', rfl, hI', ho⟩
  have HI' := Lib.hid hI'; clear hI'
  have HO := Lib.hid ho; clear ho
  have hn : numB (nextR 1 [] bad) = 0 := by simp [nextR, numB]
  have hcan : can 1 [] bad = false := by simp [can]
  go_wp2
  go_ret
  have h1 := HI'.out
  refine ⟨v', ?_, ?_, HO.out⟩
  · simp [flagR, flagOk, hcan]
  · simpa [flagL, flagOk, hcan, nextL] using h1

set_option maxHeartbeats 400000 in
theorem flag_big (p : Nat) (v : Value) (b : UInt8) (xs : List UInt8) (bad : Bool) (w : World) (hI : InV w p v (b :: xs) bad) (hb : 1 < b.toNat) :
    Calls Tryz.prog 33 #[.pointer (some ⟨p, 0, none⟩)] w (FlagPost w p (b :: xs) bad) := by
  obtain ⟨ao, cap, rfl, _⟩ := hI.sl.shape
  have hc0 := hI.cell0
  have hf := hI.free 1
  have hc1 := hI.cell1
  obtain ⟨g, off, rfl, hcell⟩ := hI.sl.cells (k := 0) (by simp)
  simp only [List.getD_cons_zero, Nat.add_zero] at hcell
  have hpos : 0 < (b :: xs).length := by simp
  obtain ⟨l, hl⟩ : ∃ l, l = (b :: xs).length := ⟨_, rfl⟩
  rw [← hl] at hc0 hpos
  have HL := Lib.hid hl
  have hpos' : (0 : Int) < (l : Int) := by omega
  have hd : decide ((0 : Int) < (l : Int)) = true := by simpa using hpos
  have HI := Lib.hid hI; clear hI
  clear hl
  go_enter Tryz.func33, Tryz.ntmps33
  go_wp2_with fail
  refine (left_any p _ l cap w hc0).mono ?_
  rintro e w' ⟨rfl, rfl⟩
  go_wp2_with fail
  refine (inU8 p _ (b :: xs) true _ (HI.out.set1 true)).mono ?_
  rintro e w1 ⟨v', rfl, hI', ho⟩
  have HI' := Lib.hid hI'; clear hI'
  have HO := Lib.hid ho; clear ho
  have hn : numB (nextR 1 (b :: xs) true) = 0 := by simp [nextR, can, numB]
  go_wp2
  go_ret
  have h1 := HI'.out
  have hok : flagOk (b :: xs) bad = false := by simp [flagOk]; intro _; omega
  refine ⟨v', ?_, ?_, (Only.cell w p 1 _).trans HO.out (fun _ _ h => h)⟩
  · simp [flagR, hok]
  · simpa [flagL, hok, nextL, can] using h1

set_option maxHeartbeats 400000 in
theorem flag_small (p : Nat) (v : Value) (b : UInt8) (xs : List UInt8) (bad : Bool) (w : World) (hI : InV w p v (b :: xs) bad) (hb : b.toNat ≤ 1) :
    Calls Tryz.prog 33 #[.pointer (some ⟨p, 0, none⟩)] w (FlagPost w p (b :: xs) bad) := by
  obtain ⟨ao, cap, rfl, _⟩ := hI.sl.shape
  have hc0 := hI.cell0
  obtain ⟨g, off, rfl, hcell⟩ := hI.sl.cells (k := 0) (by simp)
  simp only [List.getD_cons_zero, Nat.add_zero] at hcell
  have hpos : 0 < (b :: xs).length := by simp
  obtain ⟨l, hl⟩ : ∃ l, l = (b :: xs).length := ⟨_, rfl⟩
  rw [← hl] at hc0 hpos
  have HL := Lib.hid hl
  have hpos' : (0 : Int) < (l : Int) := by omega
  have hd : decide ((0 : Int) < (l : Int)) = true := by simpa using hpos
  have hb' : ¬ (1 : Int) < (b.toNat : Int) := by omega
  have HI := Lib.hid hI; clear hI
  clear hl
  go_enter Tryz.func33, Tryz.ntmps33
  go_wp2_with fail
  refine (left_any p _ l cap w hc0).mono ?_
  rintro e w' ⟨rfl, rfl⟩
  go_wp2_with fail
  refine (inU8 p _ (b :: xs) bad _ HI.out).mono ?_
  rintro e w1 ⟨v', rfl, hI', ho⟩
  have HI' := Lib.hid hI'; clear hI'
  have HO := Lib.hid ho; clear ho
  go_wp2
  go_ret
  have h1 := HI'.out
  have hok : flagOk (b :: xs) bad = can 1 (b :: xs) bad := by simp [flagOk]; intro _; omega
  refine ⟨v', ?_, ?_, HO.out⟩
  · simp only [flagR, hok]
    cases bad
    · simp [can, nextR, numB]
      rw [Bool.eq_iff_iff]; simp; omega
    · simp [can, nextR, numB]
  · simpa [flagL, hok, nextL] using h1

theorem inFlag (p : Nat) (v : Value) (xs : List UInt8) (bad : Bool) (w : World) (hI : InV w p v xs bad) :
    Calls Tryz.prog 33 #[.pointer (some ⟨p, 0, none⟩)] w (FlagPost w p xs bad) := by
  cases xs with
  | nil => exact flag_empty p v bad w hI
  | cons b xs =>
    by_cases hb : b.toNat ≤ 1
    · exact flag_small p v b xs bad w hI hb
    · exact flag_big p v b xs bad w hI (by omega)

end Go.Proofs.YtookbmpaoljelaaGreat

namespace Go.Proofs.YtookbmpaoljelaaGreat
open Go Go.RowKit
set_option linter.unusedVariables false
set_option linter.unusedSimpArgs false
set_option maxRecDepth 100000

theorem run_str {w : World} {v : Value} {xs : List UInt8} (h : SlB w v xs) : (convert 22 9 v).run Tryz.prog w = .ok (.string ⟨xs.toArray⟩) w := by
  rcases h with ⟨rfl, rfl⟩ | ⟨g, off, cap, cur, rfl, h1, h2, h3, h4⟩
  · rw [run_convert_bytes_string w 22 9 5 none 0 0 Tryz.underlying22 Tryz.underlying5 Tryz.underlying9]
    kernel_rfl
  · refine run_convert_bytes_back w 22 9 5 ⟨g, off, none⟩ cap xs Tryz.underlying22 Tryz.underlying5 Tryz.underlying9 (fun j hj => ?_)
    have hadd : (⟨g, off, none⟩ : Addr).add j = ⟨g, off + j, none⟩ := by unfold Addr.add; split <;> simp_all
    rw [hadd]
    simp only [World.cell?, h3]
    rw [if_neg (by simp), h4 j hj]
    simp [hj]

/-- What a text's take answers and leaves. -/
def txtN (xs : List UInt8) : Nat := numB (xs.take 2)
def txtOk (xs : List UInt8) (bad : Bool) : Bool := can 2 xs bad && can (txtN xs) (xs.drop 2) bad
def txtR (xs : List UInt8) (bad : Bool) : List UInt8 := if txtOk xs bad then (xs.drop 2).take (txtN xs) else []
def txtL (xs : List UInt8) (bad : Bool) : List UInt8 := if txtOk xs bad then (xs.drop 2).drop (txtN xs) else xs
def TextPost (w : World) (p : Nat) (xs : List UInt8) (bad : Bool) (e : Ending) (w' : World) : Prop :=
  ∃ v', e = .returned (.string ⟨(txtR xs bad).toArray⟩) ∧ InV w' p v' (txtL xs bad) (!txtOk xs bad) ∧ Only (fun k => k = p) w w'

set_option maxHeartbeats 400000 in
theorem text_bad (p : Nat) (v : Value) (xs : List UInt8) (w : World) (hI : InV w p v xs true) :
    Calls Tryz.prog 40 #[.pointer (some ⟨p, 0, none⟩)] w (TextPost w p xs true) := by
  have hc1 := hI.cell1
  have HI := Lib.hid hI; clear hI
  go_enter Tryz.func40, Tryz.ntmps40
  go_wp2_with fail
  refine (bad_any p true w hc1).mono ?_
  rintro e w' ⟨rfl, rfl⟩
  go_wp2
  go_ret
  exact ⟨v, by simp [txtR, txtOk, can], by simpa [txtL, txtOk, can] using HI.out, Only.refl _ _⟩

/-- The same block again, whatever lies in it: what may be read stays. -/
theorem InV.back {w w' : World} {p : Nat} {v v' : Value} {xs xs' : List UInt8} {bad bad' : Bool} (h : InV w p v xs bad) (h' : InV w' p v' xs' bad') (ho : Only (fun k => k = p) w w') :
    InV (w'.setCell ⟨p, 0, none⟩ v) p v xs bad' :=
  h'.set0 (h.sl.keep ho (fun k cur hk e => by subst e; have := h.at'; rw [hk] at this; simp at this))

theorem text_ok (xs : List UInt8) (b2 : Bool) (h : b2 = !can (numB (nextR 2 xs false)) (nextL 2 xs false) (!can 2 xs false)) : txtOk xs false = !b2 := by
  subst h
  cases hc : can 2 xs false <;> simp [txtOk, hc, nextR, nextL, txtN]
  simp [can]
theorem text_res (xs : List UInt8) (h : txtOk xs false = true) : txtR xs false = nextR (numB (nextR 2 xs false)) (nextL 2 xs false) (!can 2 xs false) ∧
    txtL xs false = nextL (numB (nextR 2 xs false)) (nextL 2 xs false) (!can 2 xs false) := by
  have h1 : can 2 xs false = true := by simp [txtOk] at h; exact h.1
  have h2 : can (numB (List.take 2 xs)) (List.drop 2 xs) false = true := by simp [txtOk, txtN] at h; exact h.2
  simp [txtR, txtL, h, nextR, nextL, h1, h2, txtN]

set_option maxHeartbeats 400000 in
theorem text_good (p : Nat) (v : Value) (xs : List UInt8) (w : World) (hI : InV w p v xs false) :
    Calls Tryz.prog 40 #[.pointer (some ⟨p, 0, none⟩)] w (TextPost w p xs false) := by
  obtain ⟨ao, cap, rfl, _⟩ := hI.sl.shape
  have hc1 := hI.cell1
  have hc0 := hI.cell0
  have HI := Lib.hid hI; clear hI
  go_enter Tryz.func40, Tryz.ntmps40
  go_wp2_with fail
  refine (bad_any p false w hc1).mono ?_
  rintro e w' ⟨rfl, rfl⟩
  go_wp2_with fail
  refine (inU16 p _ xs false w HI.out).mono ?_
  rintro e w1 ⟨v1, rfl, hI1, ho1⟩
  have HI1 := Lib.hid hI1; clear hI1
  have HO1 := Lib.hid ho1; clear ho1
  clear hc0 hc1
  obtain ⟨n, hn⟩ : ∃ n, n = numB (nextR 2 xs false) := ⟨_, rfl⟩
  have hlt : n < 65536 := by rw [hn]; exact numN_lt 2 xs false
  rw [← hn]
  have HN := Lib.hid hn; clear hn
  go_wp2_with fail
  refine (next_any p n v1 _ _ w1 HI1.out).mono ?_
  rintro e w2 ⟨r, v2, rfl, hr, hI2, ho2⟩
  obtain ⟨zs, hz⟩ : ∃ zs, zs = nextR n (nextL 2 xs false) (!can 2 xs false) := ⟨_, rfl⟩
  obtain ⟨b2, hb2⟩ : ∃ b2, b2 = !can n (nextL 2 xs false) (!can 2 xs false) := ⟨_, rfl⟩
  rw [← hz] at hr
  rw [← hb2] at hI2
  have hcv := run_str hr
  have hc1 := hI2.cell1
  have hc0 := hI2.cell0
  have hf := hI2.free 0
  have HI2 := Lib.hid hI2; clear hI2
  have HO2 := Lib.hid ho2; clear ho2
  have HZ := Lib.hid hz; clear hz
  have HB := Lib.hid hb2; clear hb2
  have HR := Lib.hid hr; clear hr
  cases b2 with
  | false =>
    go_wp2
    go_ret
    have hok := text_ok xs false (by rw [← HN.out]; exact HB.out)
    have hres := text_res xs hok
    rw [← HN.out] at hres
    refine ⟨v2, ?_, ?_, HO1.out.trans HO2.out (fun _ _ h => h)⟩
    · rw [hres.1, ← HZ.out]; rfl
    · rw [hres.2, hok]; exact HI2.out
  | true =>
    go_wp2
    go_ret
    have hok := text_ok xs true (by rw [← HN.out]; exact HB.out)
    refine ⟨.slice ao xs.length cap, ?_, ?_, (HO1.out.trans HO2.out (fun _ _ h => h)).trans (Only.cell _ _ _ _) (fun _ _ h => h)⟩
    · have : zs = [] := by
        have h1 := HZ.out
        have h2 := HB.out
        simp only [nextR] at h1
        rw [if_neg (by simp at h2; simp [h2])] at h1
        exact h1
      rw [this]
      simp [txtR, hok]
    · simpa [txtL, hok] using HI.out.back HI2.out (HO1.out.trans HO2.out (fun _ _ h => h))

theorem inText (p : Nat) (v : Value) (xs : List UInt8) (bad : Bool) (w : World) (hI : InV w p v xs bad) :
    Calls Tryz.prog 40 #[.pointer (some ⟨p, 0, none⟩)] w (TextPost w p xs bad) := by
  cases bad with
  | true => exact text_bad p v xs w hI
  | false => exact text_good p v xs w hI

set_option maxHeartbeats 400000 in
theorem inDone (p : Nat) (v : Value) (xs : List UInt8) (bad : Bool) (w : World) (hI : InV w p v xs bad) :
    Calls Tryz.prog 16 #[.pointer (some ⟨p, 0, none⟩)] w fun e w' => e = .returned (.bool (!bad && xs.isEmpty)) ∧ w = w' := by
  obtain ⟨ao, cap, rfl, _⟩ := hI.sl.shape
  have hc1 := hI.cell1
  have hc0 := hI.cell0
  have HI := Lib.hid hI; clear hI
  cases bad with
  | true =>
    go_enter Tryz.func16, Tryz.ntmps16
    go_wp2_with fail
    refine (bad_any p true w hc1).mono ?_
    rintro e w' ⟨rfl, rfl⟩
    go_wp2
    go_ret
    exact ⟨rfl, rfl⟩
  | false =>
    go_enter Tryz.func16, Tryz.ntmps16
    go_wp2_with fail
    refine (bad_any p false w hc1).mono ?_
    rintro e w' ⟨rfl, rfl⟩
    go_wp2_with fail
    refine (left_any p ao xs.length cap w hc0).mono ?_
    rintro e w' ⟨rfl, rfl⟩
    go_wp2
    go_ret
    refine ⟨?_, rfl⟩
    cases xs <;> simp
    omega

end Go.Proofs.YtookbmpaoljelaaGreat

namespace Go.Proofs.YtookbmpaoljelaaGreat
open Go Go.RowKit Go.Lib
set_option linter.unusedVariables false
set_option linter.unusedSimpArgs false
set_option maxRecDepth 100000

theorem Tryz.infoU8 : (Tryz.prog.info? 5).map (fun i => (i.zero, i.size, i.bytes)) = some (some (.int .u8 0), 1, 1) := by kernel_rfl

theorem run_strC {w : World} {v : Value} {xs : List UInt8} (h : SlC w v xs) : (convert 22 9 v).run Tryz.prog w = .ok (.string ⟨xs.toArray⟩) w := by
  rcases h with ⟨rfl, rfl⟩ | ⟨a, cap, rfl, hc⟩
  · rw [run_convert_bytes_string w 22 9 5 none 0 0 Tryz.underlying22 Tryz.underlying5 Tryz.underlying9]
    kernel_rfl
  · refine run_convert_bytes_back w 22 9 5 a cap xs Tryz.underlying22 Tryz.underlying5 Tryz.underlying9 (fun j hj => ?_)
    rw [hc j hj]
    simp [hj]

/-- append onto a fresh empty slice: a copy in new memory. -/
theorem wp_fresh {ops : Array Oper} {rest : List Oper} {o : Oper} {a : Act} {Q : Exit → Act → World → Prop} (w : World) (v : Value) (xs : List UInt8) (hC : SlC w v xs) (hlen : xs.length ≤ 140737488355328)
    (hgd : o.guard = none) (s x : Operand) (ho : o.op = .call { callee := .builtin .append, args := #[s, x], argTypes := #[22, 22] })
    (hs : a.eval s = .slice (some ⟨w.heap.size, 0, none⟩) 0 0) (hx : a.eval x = v)
    (h : ∀ ao cap w', Hid (w'.ownsRow w.heap.size 5 1 (.slice ao xs.length cap) xs.length (u8s xs)) → Hid (Only (fun _ => False) w w') → wpList Tryz.prog ops Q rest (a.put o.dst (.slice ao xs.length cap)) w') :
    wpList Tryz.prog ops Q (o :: rest) a (w.alloc (.cells #[] 5)) := by
  obtain ⟨i0, hi, hz0, hz1, hz2⟩ := info_parts Tryz.infoU8
  have hmade := World.ownsRow_made (base := w.heap.size) (e := 5) (size := 1) w #[] 0 (Nat.le_refl _) (by decide) rfl
  rcases hC with ⟨rfl, rfl⟩ | ⟨ad, cap, rfl, hc⟩
  · refine wpList_append_own_none hgd s x 22 ho w.heap.size 5 i0 1 Tryz.underlying22 hi _ 0 [] hs hmade hx ?_
    exact h (some ⟨w.heap.size, 0, none⟩) 0 _ hmade ((Only.refl _ w).alloc _)
  · refine wpList_append_own _ hgd s x 22 ho w.heap.size 5 i0 (.int .u8 0) 1 1 Tryz.underlying22 hi hz0 hz1 hz2 rfl (by decide) _ 0 [] hs hmade ad xs.length cap (u8s xs) hx ?_ ?_ (u8s_oneCell xs) ?_ ?_ ?_ ?_
    · rw [u8s_length, Nat.mul_one]
    · intro j u hu
      obtain ⟨hj, rfl⟩ := u8s_get hu
      have h1 := hc j hj
      have hb : (ad.add j).block < w.heap.size := World.block_lt_of_cell? w _ h1
      exact (World.cell?_of_block (Below.heap_alloc w _ _ hb)).trans h1
    · unfold maxLen; omega
    · omega
    · simp
    · intro v' w1 hown hg _
      rw [Nat.zero_add, List.nil_append] at hown
      obtain ⟨ao, cap', rfl⟩ := own_shape hown
      exact h ao cap' w1 hown (((Only.refl _ w).alloc _).grown hg (fun k hk e => by simp [Value.ownBlock] at e; omega))

end Go.Proofs.YtookbmpaoljelaaGreat

namespace Go.Proofs.YtookbmpaoljelaaGreat
open Go Go.RowKit
set_option linter.unusedVariables false
set_option linter.unusedSimpArgs false
set_option maxRecDepth 100000

def PutPost (w : World) (p : Nat) (v : Value) (xs : List UInt8) (e : Ending) (w' : World) : Prop :=
  e = .returned (.tuple #[]) ∧ ∃ v', OutV w' p v' xs ∧ (v'.ownBlock = v.ownBlock ∨ ∃ g, v'.ownBlock = some g ∧ w.heap.size ≤ g) ∧ Only (OutS p v) w w'

set_option maxHeartbeats 400000 in
theorem number_nil (x n : Int) (w : World) :
    Calls Tryz.prog 84 #[.pointer none, .int .u64 x, .int .i64 n] w fun e w' => e = .returned (.tuple #[]) ∧ w = w' := by
  go_enter Tryz.func84, Tryz.ntmps84
  go_wp2
  exact bodyPost_ret (results_none rfl _ _ _) rfl ⟨rfl, rfl⟩

def NumInv (w : World) (p x n : Nat) (v : Value) (xs : List UInt8) (k : Nat) (wr : World) : Prop :=
  ∃ D v', D ++ beB k x = beB n x ∧ OutV wr p v' (xs ++ D) ∧ (v'.ownBlock = v.ownBlock ∨ ∃ g, v'.ownBlock = some g ∧ w.heap.size ≤ g) ∧ Only (OutS p v) w wr

theorem OutV.cell {w : World} {p : Nat} {v : Value} {xs : List UInt8} (h : OutV w p v xs) : w.cell? ⟨p, 0, none⟩ = some v := by simp [World.cell?, h.at']
theorem OutV.free {w : World} {p : Nat} {v : Value} {xs : List UInt8} (h : OutV w p v xs) : w.frozen? ⟨p, 0, none⟩ = false := by simp [World.frozen?, h.at']
theorem OutV.ne {w : World} {p : Nat} {v : Value} {xs : List UInt8} (h : OutV w p v xs) : v.ownBlock ≠ some p := by
  intro e
  have h1 := h.at'
  rcases h.own.2 with ⟨rfl, _⟩ | ⟨g, cap, cur, rfl, _, hg, _⟩
  · simp [Value.ownBlock] at e
  · simp [Value.ownBlock] at e
    subst e
    rw [hg] at h1
    simp at h1

/-- Behind the append of one byte, ahead of its store into the Out's field. -/
structure PutMid (wr : World) (p : Nat) (v : Value) (ys : List UInt8) (v1 : Value) (w1 : World) : Prop where
  at' : w1.heap[p]? = some (.cells #[v] 63 (0, 0))
  own : w1.ownsRow 0 5 1 v1 ys.length (u8s ys)
  row : v1.ownBlock = v.ownBlock ∨ ∃ g, v1.ownBlock = some g ∧ wr.heap.size ≤ g
  only : Only (OutS p v) wr w1

theorem PutMid.done {wr w1 : World} {p : Nat} {v v1 : Value} {ys : List UInt8} (h : PutMid wr p v ys v1 w1) : OutV (w1.setCell ⟨p, 0, none⟩ v1) p v1 ys := by
  have hne : v1.ownBlock ≠ some p := by
    intro e
    have h1 := h.at'
    rcases h.own.2 with ⟨rfl, _⟩ | ⟨g, cap, cur, rfl, _, hg, _⟩
    · simp [Value.ownBlock] at e
    · simp [Value.ownBlock] at e
      subst e
      rw [hg] at h1
      simp at h1
  exact ⟨one_setCell h.at', ownsRow_setCell_other h.own hne _⟩

/-- The append itself, in whatever world the new bytes lie. -/
theorem PutMid.mk' {wr w0 w1 : World} {p : Nat} {v : Value} {xs ys : List UInt8} (hV : OutV wr p v xs) (h0 : Only (fun _ => False) wr w0) {g cap n : Nat}
    (hown : w1.ownsRow 0 5 1 (.slice (some ⟨g, 0, none⟩) n cap) n (u8s ys)) (hn : n = ys.length) (hg : w0.grownBy w1 v.ownBlock) (hat : v.ownBlock = some g ∨ wr.heap.size ≤ g) :
    PutMid wr p v ys (.slice (some ⟨g, 0, none⟩) n cap) w1 := by
  have hp := h0.keep hV.at' (fun h => h)
  subst hn
  refine ⟨(hg.block p (lt_of_some hp) (fun e => hV.ne e.symm)).trans hp, hown, ?_, ?_⟩
  · rcases hat with h | h
    · exact .inl h.symm
    · exact .inr ⟨g, rfl, h⟩
  · exact (h0.mono (T := OutS p v) (fun _ _ h => h.elim)).grown hg (fun k _ e => .inr e)

theorem step_put {ops : Array Oper} {o : Oper} {a : Act} {K : Act → World → Prop} {Q : Exit → Act → World → Prop} {E : Prop} (wr : World) (p : Nat) (v : Value) (xs : List UInt8) (z : Int) (b : UInt8)
    (hV : OutV wr p v xs) (hz : z = (b.toNat : Int)) (hlen : xs.length + 1 ≤ 140737488355328) (hgd : o.guard = none) (s x : Operand)
    (ho : o.op = .call { callee := .builtin .append, args := #[s, x], argTypes := #[22, 22] })
    (hs : a.eval s = v) (hx : a.eval x = .slice (some ⟨wr.heap.size, 0, none⟩) 1 1)
    (h : ∀ g cap w1, w1.cell? ⟨p, 0, none⟩ = some v → w1.frozen? ⟨p, 0, none⟩ = false → Hid (PutMid wr p v (xs ++ [b]) (.slice (some ⟨g, 0, none⟩) (xs.length + 1) cap) w1) →
      K (a.put o.dst (.slice (some ⟨g, 0, none⟩) (xs.length + 1) cap)) w1) :
    if Region.wanted o (yielded ops a.tmps) = true then Oper.wp Tryz.prog o a (wr.alloc (.cells #[.int .u8 z] 5)).drew K Q else E := by
  obtain ⟨i0, hi, hz0, hz1, hz2⟩ := info_parts Tryz.infoU8
  subst hz
  refine step_append_lies (P := Tryz.prog) (wr.alloc (.cells #[.int .u8 (b.toNat : Int)] 5)).drew hgd s x 22 ho 0 5 i0 (.int .u8 0) 1 1 Tryz.underlying22 hi hz0 hz1 hz2 rfl (by decide) v xs.length (u8s xs) hs
    ((hV.own.alloc _).drew) ⟨wr.heap.size, 0, none⟩ 1 1 (u8s [b]) hx rfl (World.news_of_block (B := wr.heap.size) (heap_alloc_new wr _)) (u8s_oneCell _) Nat.zero_lt_one (by unfold maxLen; omega) (by omega) (Nat.zero_le _) (wr.heap.size + 1) (by simp) ?_
  intro g cap w1 hown hgrow hat hlt
  rw [← u8s_append] at hown
  have hm := PutMid.mk' (ys := xs ++ [b]) hV (((Only.refl _ wr).alloc (.cells #[.int .u8 (b.toNat : Int)] 5)).drew) hown (by simp) hgrow (hat.imp id (fun e => by omega))
  exact h g cap w1 (cell_of_one hm.at') (free_of_one hm.at') hm

theorem NumInv.step {w wr w1 : World} {p x n m q : Nat} {v v' v1 : Value} {xs ys D : List UInt8} (hys : ys = xs ++ D) (hD : D ++ beB (m + 1) x = beB n x)
    (hb : v'.ownBlock = v.ownBlock ∨ ∃ g, v'.ownBlock = some g ∧ w.heap.size ≤ g) (ho : Only (OutS p v) w wr) (hq : q = x / 256 ^ m) (hm : PutMid wr p v' (ys ++ [UInt8.ofNat q]) v1 w1) :
    NumInv w p x n v xs m (w1.setCell ⟨p, 0, none⟩ v1) := by
  subst hys hq
  refine ⟨D ++ [UInt8.ofNat (x / 256 ^ m)], v1, by rw [← hD]; simp [beB], by simpa using hm.done, row_trans ho.size hb hm.row, ?_⟩
  exact (ho.trans (hm.only.trans (Only.cell w1 p 0 v1) (fun k _ e => .inl e)) (fun k hk h => OutS.sub hb k hk h))

set_option maxHeartbeats 400000 in
theorem putNumber (p x n : Nat) (v : Value) (xs : List UInt8) (w : World) (hO : OutV w p v xs) (hn8 : n ≤ 8) (hx : x < 18446744073709551616) (hlen : xs.length + n ≤ 140737488355328) :
    Calls Tryz.prog 84 #[.pointer (some ⟨p, 0, none⟩), .int .u64 x, .int .i64 n] w (PutPost w p v (xs ++ beB n x)) := by
  have HX := Lib.hid hx
  clear hx
  have HO := Lib.hid hO
  clear hO
  obtain ⟨i0, hi, hz0, hz1, hz2⟩ := info_parts Tryz.infoU8
  go_enter Tryz.func84, Tryz.ntmps84
  go_wp2
  go_loopw [6] (fun i wr => ∃ k : Nat, k ≤ n ∧ i = .int .i64 ((k : Int) - 1) ∧ NumInv w p x n v xs k wr) (fun i _ => (intOf i + 1).toNat)
  case atStart => exact ⟨n, Nat.le_refl _, rfl, [], v, rfl, by rw [List.append_nil]; exact HO.out, .inl rfl, Only.refl _ _⟩
  case round =>
    obtain ⟨k, hk, rfl, hinv⟩ := hrel
    have HI := Lib.hid hinv; clear hinv
    match k, hk, HI with
    | 0, hk, HI =>
      go_wp2
      obtain ⟨D, v', hD, hV, hb, ho⟩ := HI.out
      exact bodyPost_end (results_none rfl _ _ _) rfl ⟨rfl, v', by rw [← hD]; simpa [beB] using hV, hb, ho⟩
    | m + 1, hk, HI =>
      obtain ⟨D, v', hD, hV, hb, ho⟩ := HI.out
      rw [show (((m + 1 : Nat) : Int) - 1) = (m : Int) from by omega]
      obtain ⟨ys, hys⟩ : ∃ ys, ys = xs ++ D := ⟨_, rfl⟩
      rw [← hys] at hV
      have hc0 := hV.cell
      have hf := hV.free
      obtain ⟨q, hq⟩ : ∃ q, q = x / 256 ^ m := ⟨_, rfl⟩
      have hsh := shift_at x m (by omega)
      rw [← hq] at hsh
      have hlen2 : ys.length + 1 ≤ 140737488355328 := by
        have h1 := congrArg List.length hD
        rw [hys]
        simp only [List.length_append, beB_length] at h1 ⊢
        omega
      have hz : IntKind.u8.wrap (q : Int) = ((UInt8.ofNat q).toNat : Int) := by rw [IntKind.wrap_u8']; simp
      have hc0' : (wr.alloc (.cells #[.int .u8 (IntKind.u8.wrap (q : Int))] 5)).cell? ⟨p, 0, none⟩ = some v' := cell_of_one ((Below.heap_alloc wr _ p (lt_of_some hV.at')).trans hV.at')
      have HV := Lib.hid hV; clear hV
      have HD := Lib.hid hD; clear hD
      have HB := Lib.hid hb; clear hb
      have HW := Lib.hid ho; clear ho
      have HQ := Lib.hid hq; clear hq
      have HYS := Lib.hid hys; clear hys
      have HZ := Lib.hid hz; clear hz
      clear HI HO
      go_wp2
      go_region_law ((refine step_put wr p v' ys (IntKind.u8.wrap (q : Int)) (UInt8.ofNat q) HV.out HZ.out hlen2 rfl (.tmp 19) (.tmp 25) rfl ?_ ?_ ?_; (go_must (simp [Act.eval])); (go_must (simp [Act.eval])); (go_must (intro g cap w1 c1 f1 HM))))
      all_goals
        have HN := Lib.hid (NumInv.step HYS.out HD.out HB.out HW.out HQ.out HM.out)
        clear HM HYS HD HB HW HQ HV HZ hc0 hf hsh hlen2 hc0' c1 f1
        go_wp2
        go_roundw
        case rel => exact ⟨m, by omega, by go_num, HN.out⟩
        case measure => (simp [intOf] <;> omega)

end Go.Proofs.YtookbmpaoljelaaGreat

namespace Go.Proofs.YtookbmpaoljelaaGreat
open Go Go.RowKit Go.Lib
set_option linter.unusedVariables false
set_option linter.unusedSimpArgs false
set_option maxRecDepth 100000

theorem put_chain {w w1 w2 : World} {p : Nat} {v v1 : Value} (ho : Only (OutS p v) w w1) (hb : v1.ownBlock = v.ownBlock ∨ ∃ g, v1.ownBlock = some g ∧ w.heap.size ≤ g) (ho2 : Only (OutS p v1) w1 w2) : Only (OutS p v) w w2 :=
  ho.trans ho2 (fun k hk h => OutS.sub hb k hk h)

set_option maxHeartbeats 400000 in
theorem outU64 (p x : Nat) (v : Value) (xs : List UInt8) (w : World) (hO : OutV w p v xs) (hx : x < 18446744073709551616) (hlen : xs.length + 8 ≤ 140737488355328) :
    Calls Tryz.prog 58 #[.pointer (some ⟨p, 0, none⟩), .int .u64 x] w (PutPost w p v (xs ++ beB 8 x)) := by
  have HX := Lib.hid hx; clear hx
  have HL := Lib.hid hlen; clear hlen
  have HO := Lib.hid hO; clear hO
  have HE : Hid (IntKind.u64.wrap (x : Int) = (x : Int)) := by have := HX.out; show _ = _; rw [IntKind.wrap_u64]; omega
  go_enter Tryz.func58, Tryz.ntmps58
  go_wp2_with fail
  try rw [HE.out]
  refine (putNumber p x 8 v xs w HO.out (by omega) (by have := HX.out; omega) HL.out).mono ?_
  rintro e w1 ⟨rfl, hp⟩
  have HP := Lib.hid hp; clear hp
  go_wp2
  exact bodyPost_end (results_none rfl _ _ _) rfl ⟨rfl, HP.out⟩


set_option maxHeartbeats 400000 in
theorem outU16 (p x : Nat) (v : Value) (xs : List UInt8) (w : World) (hO : OutV w p v xs) (hx : x < 65536) (hlen : xs.length + 2 ≤ 140737488355328) :
    Calls Tryz.prog 82 #[.pointer (some ⟨p, 0, none⟩), .int .u16 x] w (PutPost w p v (xs ++ beB 2 x)) := by
  have HX := Lib.hid hx; clear hx
  have HL := Lib.hid hlen; clear hlen
  have HO := Lib.hid hO; clear hO
  have HE : Hid (IntKind.u64.wrap (x : Int) = (x : Int)) := by have := HX.out; show _ = _; rw [IntKind.wrap_u64]; omega
  go_enter Tryz.func82, Tryz.ntmps82
  go_wp2_with fail
  try rw [HE.out]
  refine (putNumber p x 2 v xs w HO.out (by omega) (by have := HX.out; omega) HL.out).mono ?_
  rintro e w1 ⟨rfl, hp⟩
  have HP := Lib.hid hp; clear hp
  go_wp2
  exact bodyPost_end (results_none rfl _ _ _) rfl ⟨rfl, HP.out⟩

set_option maxHeartbeats 400000 in
theorem outU8 (p x : Nat) (v : Value) (xs : List UInt8) (w : World) (hO : OutV w p v xs) (hx : x < 256) (hlen : xs.length + 1 ≤ 140737488355328) :
    Calls Tryz.prog 81 #[.pointer (some ⟨p, 0, none⟩), .int .u8 x] w (PutPost w p v (xs ++ beB 1 x)) := by
  have HX := Lib.hid hx; clear hx
  have HL := Lib.hid hlen; clear hlen
  have HO := Lib.hid hO; clear hO
  have HE : Hid (IntKind.u64.wrap (x : Int) = (x : Int)) := by have := HX.out; show _ = _; rw [IntKind.wrap_u64]; omega
  go_enter Tryz.func81, Tryz.ntmps81
  go_wp2_with fail
  try rw [HE.out]
  refine (putNumber p x 1 v xs w HO.out (by omega) (by have := HX.out; omega) HL.out).mono ?_
  rintro e w1 ⟨rfl, hp⟩
  have HP := Lib.hid hp; clear hp
  go_wp2
  exact bodyPost_end (results_none rfl _ _ _) rfl ⟨rfl, HP.out⟩

/-- What Flag puts. -/
def flagB : Bool → List UInt8
  | true => [1]
  | false => [0]

set_option maxHeartbeats 400000 in
theorem outFlag (p : Nat) (b : Bool) (v : Value) (xs : List UInt8) (w : World) (hO : OutV w p v xs) (hlen : xs.length + 1 ≤ 140737488355328) :
    Calls Tryz.prog 53 #[.pointer (some ⟨p, 0, none⟩), .bool b] w (PutPost w p v (xs ++ flagB b)) := by
  have HL := Lib.hid hlen; clear hlen
  have HO := Lib.hid hO; clear hO
  cases b with
  | true =>
    go_enter Tryz.func53, Tryz.ntmps53
    go_wp2_with fail
    refine (outU8 p 1 v xs w HO.out (by omega) HL.out).mono ?_
    rintro e w1 ⟨rfl, hp⟩
    have HP := Lib.hid hp; clear hp
    go_wp2
    exact bodyPost_end (results_none rfl _ _ _) rfl ⟨rfl, HP.out⟩
  | false =>
    go_enter Tryz.func53, Tryz.ntmps53
    go_wp2_with fail
    refine (outU8 p 0 v xs w HO.out (by omega) HL.out).mono ?_
    rintro e w1 ⟨rfl, hp⟩
    have HP := Lib.hid hp; clear hp
    go_wp2
    exact bodyPost_end (results_none rfl _ _ _) rfl ⟨rfl, HP.out⟩

set_option maxHeartbeats 400000 in
theorem outU8_nil (x : Nat) (w : World) (hx : x < 256) :
    Calls Tryz.prog 81 #[.pointer none, .int .u8 x] w fun e w' => e = .returned (.tuple #[]) ∧ w = w' := by
  go_enter Tryz.func81, Tryz.ntmps81
  go_wp2_with fail
  refine (number_nil _ _ w).mono ?_
  rintro e w' ⟨rfl, rfl⟩
  go_wp2
  exact bodyPost_end (results_none rfl _ _ _) rfl ⟨rfl, rfl⟩

set_option maxHeartbeats 400000 in
theorem outText_nil (s : ByteArray) (w : World) :
    Calls Tryz.prog 83 #[.pointer none, .string s] w fun e w' => e = .returned (.bool false) ∧ w = w' := by
  go_enter Tryz.func83, Tryz.ntmps83
  go_wp2
  go_ret
  exact ⟨rfl, rfl⟩

set_option maxHeartbeats 400000 in
theorem outText_long (p : Nat) (s : ByteArray) (w : World) (hs : 65535 < s.size) :
    Calls Tryz.prog 83 #[.pointer (some ⟨p, 0, none⟩), .string s] w fun e w' => e = .returned (.bool false) ∧ w = w' := by
  have hs' : (65535 : Int) < (s.size : Int) := by omega
  go_enter Tryz.func83, Tryz.ntmps83
  go_wp2
  go_ret
  exact ⟨rfl, rfl⟩

/-- append of a string's bytes, and where the new row lies. -/
theorem run_str_at (w : World) (v : Value) (n : Nat) (xs : List Value) (hown : w.ownsRow 0 5 1 v n xs) (s : ByteArray) (hlen : n + s.size ≤ 140737488355328) :
    ∃ v' w', (Builtin.append_ #[22, 9] 22 #[v, .string s]).run Tryz.prog w = .ok v' w' ∧ w'.ownsRow 0 5 1 v' (n + s.size) (xs ++ strCells s) ∧ w.grownBy w' v.ownBlock ∧
      (v'.ownBlock = v.ownBlock ∨ ∃ g, v'.ownBlock = some g ∧ w.heap.size ≤ g) := by
  obtain ⟨i0, hi, hz0, hz1, hz2⟩ := info_parts Tryz.infoU8
  have h63 : n + s.size ≤ maxLen := by unfold maxLen; omega
  obtain ⟨v', w', hr, h2, h3, h4⟩ := run_append_own_string (P := Tryz.prog) w 0 22 9 22 5 i0 Tryz.underlying22 Tryz.underlying9 hi hz0 hz1 hz2 v n xs hown s h63 hlen (Nat.zero_le _)
  refine ⟨v', w', hr, h2, h3, ?_⟩
  rcases hown.2 with ⟨rfl, rfl⟩ | ⟨g, cap, cur, rfl, hbg, hg, hnc, hcm, hcs, htake⟩
  · have hx : xs = [] := List.eq_nil_of_length_eq_zero (by simpa using hown.1)
    subst hx
    obtain ⟨v2, w2, hr2, k2, _, _⟩ := run_append_own_string (P := Tryz.prog) w w.heap.size 22 9 22 5 i0 Tryz.underlying22 Tryz.underlying9 hi hz0 hz1 hz2 (.slice none 0 0) 0 [] (World.ownsRow_nil _ _ _ _) s h63 hlen (Nat.le_refl _)
    rw [hr] at hr2
    simp only [Result.ok.injEq] at hr2
    obtain ⟨rfl, rfl⟩ := hr2
    rcases k2.2 with ⟨rfl, _⟩ | ⟨g, cap, cur, rfl, hb, _⟩
    · exact .inl rfl
    · exact .inr ⟨g, rfl, hb⟩
  · by_cases hroom : n + s.size ≤ cap
    · have hr2 := run_append_room_string (P := Tryz.prog) w 22 9 22 5 i0 Tryz.underlying22 Tryz.underlying9 hi hz1 g n cap cur hg s hroom (by omega)
      rw [hr] at hr2
      simp only [Result.ok.injEq] at hr2
      exact .inl (by rw [hr2.1]; rfl)
    · have hr2 := run_append_grow_string (P := Tryz.prog) w 22 9 22 5 i0 (.int .u8 0) Tryz.underlying22 Tryz.underlying9 hi hz0 ⟨g, 0, none⟩ n cap xs (by rw [hz1]; exact hown.1) (hown.cells (g := g) rfl) s (by omega)
        (by unfold maxLen at h63; omega) (by rw [hz2]; exact growslice_fits (by omega) (by omega))
      rw [hr] at hr2
      simp only [Result.ok.injEq] at hr2
      exact .inr ⟨w.heap.size, by rw [hr2.1]; rfl, Nat.le_refl _⟩

theorem wp_text {ops : Array Oper} {rest : List Oper} {o : Oper} {a : Act} {Q : Exit → Act → World → Prop} (w : World) (p : Nat) (v : Value) (xs : List UInt8) (s : ByteArray) (hV : OutV w p v xs) (hlen : xs.length + s.size ≤ 140737488355328)
    (hgd : o.guard = none) (sl x : Operand) (ho : o.op = .call { callee := .builtin .append, args := #[sl, x], argTypes := #[22, 9] }) (hty : o.type = 22)
    (hs : a.eval sl = v) (hx : a.eval x = .string s)
    (h : ∀ ao cap w', w'.cell? ⟨p, 0, none⟩ = some v → w'.frozen? ⟨p, 0, none⟩ = false → Hid (PutMid w p v (xs ++ s.data.toList) (.slice ao (xs.length + s.size) cap) w') → wpList Tryz.prog ops Q rest (a.put o.dst (.slice ao (xs.length + s.size) cap)) w') :
    wpList Tryz.prog ops Q (o :: rest) a w := by
  refine wpList_plain hgd fun K hK => ?_
  obtain ⟨v', w', hr, h2, h3, h4⟩ := run_str_at w v xs.length (u8s xs) hV.own s hlen
  obtain ⟨ao, cap, rfl⟩ := own_shape h2
  have hm : PutMid w p v (xs ++ s.data.toList) (.slice ao (xs.length + s.size) cap) w' := by
    refine ⟨(h3.block p (lt_of_some hV.at') (fun e => hV.ne e.symm)).trans hV.at', ?_, h4, (Only.refl _ w).grown h3 (fun k _ e => .inr e)⟩
    rw [u8s_append, List.length_append, Array.length_toList]
    exact h2
  unfold Oper.wp execOp
  simp only [ho, hty, resolve, invoke, builtin, Sem.run_bind, Sem.run_pure, Result.andThen_ok, List.map_toArray, List.map_cons, List.map_nil, hs, hx, hr]
  exact hK _ _ (h _ _ _ (cell_of_one hm.at') (free_of_one hm.at') hm)

end Go.Proofs.YtookbmpaoljelaaGreat

namespace Go.Proofs.YtookbmpaoljelaaGreat
open Go Go.RowKit Go.Lib
set_option linter.unusedVariables false
set_option linter.unusedSimpArgs false
set_option maxRecDepth 100000

def TextPutPost (w : World) (p : Nat) (v : Value) (xs : List UInt8) (e : Ending) (w' : World) : Prop :=
  e = .returned (.bool true) ∧ ∃ v', OutV w' p v' xs ∧ (v'.ownBlock = v.ownBlock ∨ ∃ g, v'.ownBlock = some g ∧ w.heap.size ≤ g) ∧ Only (OutS p v) w w'

/-- What Text puts of s. -/
def txtB (l : List UInt8) : List UInt8 := beB 2 l.length ++ l

set_option maxHeartbeats 400000 in
theorem outText (p : Nat) (s : ByteArray) (v : Value) (xs : List UInt8) (w : World) (hO : OutV w p v xs) (hs : s.size ≤ 65535) (hlen : xs.length + 2 + s.size ≤ 140737488355328) :
    Calls Tryz.prog 83 #[.pointer (some ⟨p, 0, none⟩), .string s] w (TextPutPost w p v (xs ++ txtB s.data.toList)) := by
  have HO := Lib.hid hO; clear hO
  have hs' : ¬ (65535 : Int) < (s.size : Int) := by omega
  have HE : Hid (IntKind.u16.wrap (s.size : Int) = (s.size : Int)) := by show _ = _; rw [IntKind.wrap_u16]; omega
  have hne : (p : Nat) = p := rfl
  clear hne
  go_enter Tryz.func83, Tryz.ntmps83
  go_wp2_with fail
  try rw [HE.out]
  refine (outU16 p s.size v xs w HO.out (by omega) (by omega)).mono ?_
  rintro e w1 ⟨rfl, v1, hV1, hb1, ho1⟩
  have hl2 : (xs ++ beB 2 s.size).length + s.size ≤ 140737488355328 := by simp [beB_length]; omega
  obtain ⟨ys, hys⟩ : ∃ ys, ys = xs ++ beB 2 s.size := ⟨_, rfl⟩
  rw [← hys] at hV1 hl2
  have hc0 := hV1.cell
  have hf := hV1.free
  have HV1 := Lib.hid hV1; clear hV1
  have HB1 := Lib.hid hb1; clear hb1
  have HO1 := Lib.hid ho1; clear ho1
  have HY := Lib.hid hys; clear hys
  go_wp2_with (at_builtin; refine wp_text w1 p v1 ys s HV1.out hl2 rfl (.tmp 21) (.tmp 22) rfl rfl rfl rfl ?_; intro ao cap w2 c2 f2 HM)
  go_ret
  refine ⟨rfl, .slice ao (ys.length + s.size) cap, ?_, row_trans HO1.out.size HB1.out HM.out.row, put_chain HO1.out HB1.out (HM.out.only.trans (Only.cell _ _ _ _) (fun k _ e => .inl e))⟩
  have := HM.out.done
  rw [show xs ++ txtB s.data.toList = ys ++ s.data.toList by rw [HY.out]; simp [txtB]]
  exact this

theorem SlB.toC {w : World} {v : Value} {xs : List UInt8} (h : SlB w v xs) : SlC w v xs := by
  rcases h with h | ⟨g, off, cap, cur, rfl, h1, h2, h3, h4⟩
  · exact .inl h
  · exact .inr ⟨_, cap, rfl, fun j hj => by rw [add_lit]; simp [World.cell?, h3, h4 j hj]⟩
theorem own_toB {w : World} {B : Nat} {v : Value} {xs : List UInt8} (h : w.ownsRow B 5 1 v xs.length (u8s xs)) : SlB w v xs := by
  rcases h.2 with ⟨rfl, h0⟩ | ⟨g, cap, cur, rfl, _, hg, hc, hm, hs, ht⟩
  · exact .inl ⟨rfl, List.eq_nil_of_length_eq_zero h0⟩
  · refine .inr ⟨g, 0, cap, cur, rfl, hc, hm, hg, fun j hj => ?_⟩
    have h1 := u8s_at hj
    rw [← ht, List.getElem?_take, if_pos (by omega)] at h1
    simpa using h1

/-- A fresh copy: in a new block (or nil), nothing that was there is changed. -/
def ClonePost (w : World) (xs : List UInt8) (e : Ending) (w' : World) : Prop :=
  ∃ r, e = .returned r ∧ w'.ownsRow w.heap.size 5 1 r xs.length (u8s xs) ∧ Only (fun _ => False) w w'

set_option maxHeartbeats 400000 in
theorem clone_any (v : Value) (xs : List UInt8) (w : World) (h : SlC w v xs) (hlen : xs.length ≤ 140737488355328) :
    Calls Tryz.prog 32 #[v] w (ClonePost w xs) := by
  obtain ⟨i0, hi, hz0, hz1, hz2⟩ := info_parts Tryz.infoU8
  rcases h with ⟨rfl, rfl⟩ | ⟨a, cap, rfl, hc⟩
  · have hnil := fun (w : World) => Lib.run_eql_slice_nil (P := Tryz.prog) w 22 5 none 0 0 0 0 Tryz.underlying22
    go_enter Tryz.func32, Tryz.ntmps32
    go_wp2
    go_ret
    exact ⟨_, rfl, World.ownsRow_nil _ _ _ _, Only.refl _ _⟩
  · have hn : ∀ j u, (u8s xs)[j]? = some u → w.cell? (a.add j) = some u := fun j u hu => by
      obtain ⟨hj, rfl⟩ := u8s_get hu
      exact hc j hj
    have HN : Hid (∀ j u, (u8s xs)[j]? = some u → (w.alloc (.cells #[] 5)).cell? (a.add j) = some u) := fun j u hu => by
      have h1 := hn j u hu
      have hb : (a.add j).block < w.heap.size := World.block_lt_of_cell? w _ h1
      exact (World.cell?_of_block (Below.heap_alloc w _ _ hb)).trans h1
    clear hn hc
    have HL := Lib.hid hlen; clear hlen
    obtain ⟨l, hl⟩ : ∃ l, l = xs.length := ⟨_, rfl⟩
    rw [← hl]
    have HE := Lib.hid hl; clear hl
    have hnil := fun (w : World) => Lib.run_eql_slice_nil (P := Tryz.prog) w 22 5 (some a) l cap 0 0 Tryz.underlying22
    go_enter Tryz.func32, Tryz.ntmps32
    go_wp2_with (at_builtin; refine wpList_append_own _ rfl _ _ 22 rfl w.heap.size 5 i0 (.int .u8 0) 1 1 Tryz.underlying22 hi hz0 hz1 hz2 rfl (by decide) _ _ _ rfl (World.ownsRow_made w #[] 0 (Nat.le_refl _) (by decide) rfl) a l cap (u8s xs) rfl ?c1 HN.out (u8s_oneCell xs) ?c3 ?c4 ?c5 ?_)
    case c1 => rw [HE.out, u8s_length, Nat.mul_one]
    case c3 => have := HL.out; rw [HE.out]; unfold maxLen; omega
    case c4 => have := HL.out; rw [HE.out]; omega
    case c5 => simp
    intro v' w1 hown hg _
    have HG := Lib.hid hg; clear hg
    have HW := Lib.hid hown; clear hown
    go_wp2
    go_ret
    refine ⟨_, rfl, ?_, ((Only.refl _ w).alloc _).grown HG.out (fun k hk e => ?_)⟩
    · rw [← HE.out]; exact HW.out
    · simp [Value.ownBlock] at e; omega

set_option maxHeartbeats 400000 in
theorem outBytes (p : Nat) (v : Value) (xs : List UInt8) (w : World) (hV : OutV w p v xs) (hlen : xs.length ≤ 140737488355328) :
    Calls Tryz.prog 29 #[.pointer (some ⟨p, 0, none⟩)] w (ClonePost w xs) := by
  have hc := hV.cell
  have HC := Lib.hid (own_toB hV.own).toC
  clear hV
  go_enter Tryz.func29, Tryz.ntmps29
  go_wp2_with fail
  refine (clone_any v xs w HC.out hlen).mono ?_
  rintro e w1 ⟨r, rfl, hr, ho⟩
  have HR := Lib.hid hr; clear hr
  have HO := Lib.hid ho; clear ho
  go_wp2
  go_ret
  exact ⟨_, rfl, HR.out, HO.out⟩

set_option maxHeartbeats 400000 in
theorem outBytes_nil (w : World) :
    Calls Tryz.prog 29 #[.pointer none] w fun e w' => e = .returned (.slice none 0 0) ∧ w = w' := by
  go_enter Tryz.func29, Tryz.ntmps29
  go_wp2
  go_ret
  exact ⟨rfl, rfl⟩

def ToPost (w : World) (xs : List UInt8) (e : Ending) (w' : World) : Prop :=
  ∃ p v, e = .returned (.pointer (some ⟨p, 0, none⟩)) ∧ InV w' p v xs false ∧ w.heap.size ≤ p ∧ Only (fun _ => False) w w'

theorem SlB.alloc {w : World} {v : Value} {xs : List UInt8} (h : SlB w v xs) (o : Obj) : SlB (w.alloc o) v xs :=
  h.keep ((Only.refl (fun _ => False) w).alloc o) (fun _ _ _ h => h)

set_option maxHeartbeats 400000 in
theorem to_any (v : Value) (xs : List UInt8) (w : World) (h : SlC w v xs) (hlen : xs.length ≤ 140737488355328) :
    Calls Tryz.prog 14 #[v] w (ToPost w xs) := by
  have HC := Lib.hid h
  clear h
  go_enter Tryz.func14, Tryz.ntmps14
  go_wp2_with fail
  refine (clone_any v xs w HC.out hlen).mono ?_
  rintro e w1 ⟨r, rfl, hr, ho⟩
  obtain ⟨ao, cap, rfl⟩ := own_shape hr
  have HR := Lib.hid hr; clear hr
  have HO := Lib.hid ho; clear ho
  go_wp2
  go_ret
  exact ⟨w1.heap.size, _, rfl, ⟨heap_alloc_new w1 _, (own_toB HR.out).alloc _⟩, HO.out.size, HO.out.alloc _⟩

end Go.Proofs.YtookbmpaoljelaaGreat

namespace Go.Proofs.YtookbmpaoljelaaGreat
open Go Go.RowKit Go.Lib
set_option linter.unusedVariables false
set_option linter.unusedSimpArgs false
set_option maxRecDepth 100000

theorem OutV.new (w : World) : OutV (w.alloc (.cells #[.slice none 0 0] 63)) w.heap.size (.slice none 0 0) [] :=
  ⟨heap_alloc_new w _, World.ownsRow_nil _ _ _ _⟩

theorem Only.none {a b c : World} {S : Nat → Prop} (h : Only (fun _ => False) a b) (k : Only S b c) (hS : ∀ k, S k → a.heap.size ≤ k) : Only (fun _ => False) a c :=
  h.trans k (fun i hi hs => by have := hS i hs; omega)
theorem OutS.ge {B p : Nat} {v : Value} (hp : B ≤ p) (hv : v.ownBlock = .none ∨ ∃ g, v.ownBlock = some g ∧ B ≤ g) : ∀ k, OutS p v k → B ≤ k := by
  intro k h
  rcases h with rfl | h
  · exact hp
  · rcases hv with hv | ⟨g, hg, hB⟩
    · rw [hv] at h; cases h
    · rw [hg] at h; simp at h; omega
theorem row_ge {B : Nat} {w : World} {v v' : Value} (hB : B ≤ w.heap.size) (hv : v.ownBlock = .none ∨ ∃ g, v.ownBlock = some g ∧ B ≤ g) (h : v'.ownBlock = v.ownBlock ∨ ∃ g, v'.ownBlock = some g ∧ w.heap.size ≤ g) :
    v'.ownBlock = .none ∨ ∃ g, v'.ownBlock = some g ∧ B ≤ g := by
  rcases h with h | ⟨g, hg, hge⟩
  · rw [h]; exact hv
  · exact .inr ⟨g, hg, by omega⟩

theorem OutV.keep {S : Nat → Prop} {w w' : World} {p : Nat} {v : Value} {xs : List UInt8} (h : OutV w p v xs) (ho : Only S w w') (hp : ¬ S p) (hv : ∀ g, v.ownBlock = some g → ¬ S g) : OutV w' p v xs := by
  refine ⟨ho.keep h.at' hp, h.own.1, ?_⟩
  rcases h.own.2 with h0 | ⟨g, cap, cur, rfl, hb, hg, rest⟩
  · exact .inl h0
  · exact .inr ⟨g, cap, cur, rfl, hb, ho.keep hg (hv g rfl), rest⟩
theorem InV.keep {S : Nat → Prop} {w w' : World} {p : Nat} {v : Value} {xs : List UInt8} {bad : Bool} (h : InV w p v xs bad) (ho : Only S w w') (hp : ¬ S p)
    (hS : ∀ k cur, w.heap[k]? = some (.cells cur 5 (0, 0)) → ¬ S k) : InV w' p v xs bad :=
  ⟨ho.keep h.at' hp, h.sl.keep ho hS⟩
theorem SlB.lit (w : World) (xs : List UInt8) (cur : Array Value) (hm : xs.length ≤ maxLen) (h : cur = (u8s xs).toArray) :
    SlB (w.alloc (.cells cur 5)) (.slice (some ⟨w.heap.size, 0, none⟩) xs.length xs.length) xs :=
  .inr ⟨w.heap.size, 0, xs.length, cur, rfl, Nat.le_refl _, hm, heap_alloc_new w _, fun j hj => by subst h; simpa using u8s_at hj⟩


end Go.Proofs.YtookbmpaoljelaaGreat
