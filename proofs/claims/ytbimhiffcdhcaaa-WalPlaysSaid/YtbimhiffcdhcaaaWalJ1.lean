/-
  Joined: Mem PackSt PackIn PackIn2 PackIn3 PackIn4 PackIn5 MemP PackOut PackOut2 PackOut3 PackLaw0 PackWide Open DiskArg DiskSt Disk1 Wide.
-/
import Derived.WalkKit
import Derived.WalkSpells
import Derived.WalkLawsBesides
import Derived.Deep.AppendLies
import Derived.Laws.Rows
import Derived.Lib.Hide
import Derived.Test.YtbimhiffcdhcaaaRows
import Derived.Deep.QuietTactic
import Derived.BigQuiet
import Derived.Laws.Bits64b
import Derived.Laws.BitsAllLaws
import Derived.Laws.IdiomStrings
import Derived.Laws.AppendOwnNone
import Derived.Deep.RegionLaw
import Derived.Lib.AppendStr
import Derived.Deep.DeepCutAuto
import Derived.ProofKit
import Derived.OpenShut
import Derived.SizedLaws
import Derived.Deep.Slices
import Derived.Deep.Fields
import Derived.Deep.MidRow
import Derived.Deep.WholeRow

namespace Go.Proofs.Ytbimhiffcdhcaaa
open Go Go.RowKit
set_option linter.unusedVariables false
set_option linter.unusedSimpArgs false
set_option maxRecDepth 100000

/-- Of the blocks that were there none has changed but those in S. -/
structure Only (S : Nat → Prop) (w w' : World) : Prop where
  os : w'.os = w.os
  tape : w'.tape = w.tape
  output : w'.output = w.output
  size : w.heap.size ≤ w'.heap.size
  block : ∀ k, k < w.heap.size → ¬ S k → w'.heap[k]? = w.heap[k]?

theorem Only.refl (S : Nat → Prop) (w : World) : Only S w w := ⟨rfl, rfl, rfl, Nat.le_refl _, fun _ _ _ => rfl⟩
theorem Only.trans {S T : Nat → Prop} {a b c : World} (h : Only S a b) (k : Only T b c) (hT : ∀ k, k < a.heap.size → T k → S k) : Only S a c :=
  ⟨k.os.trans h.os, k.tape.trans h.tape, k.output.trans h.output, Nat.le_trans h.size k.size,
    fun i hi hs => (k.block i (Nat.lt_of_lt_of_le hi h.size) (fun ht => hs (hT i hi ht))).trans (h.block i hi hs)⟩
theorem Only.mono {S T : Nat → Prop} {a b : World} (h : Only S a b) (hT : ∀ k, k < a.heap.size → S k → T k) : Only T a b :=
  ⟨h.os, h.tape, h.output, h.size, fun k hk ht => h.block k hk fun hs => ht (hT k hk hs)⟩
theorem Only.drew {S : Nat → Prop} {a b : World} (h : Only S a b) : Only S a b.drew := ⟨h.os, h.tape, h.output, h.size, h.block⟩
theorem Only.drewN {S : Nat → Prop} {a b : World} (h : Only S a b) (n : Nat) : Only S a (b.drewN n) := ⟨h.os, h.tape, h.output, h.size, h.block⟩
theorem Only.alloc {S : Nat → Prop} {a b : World} (h : Only S a b) (o : Obj) : Only S a (b.alloc o) :=
  h.trans (T := fun _ => False) ⟨rfl, rfl, rfl, by simp, fun k hk _ => Below.heap_alloc _ _ _ hk⟩ (fun _ _ h => h.elim)
theorem Only.setCell {S : Nat → Prop} {a b : World} (h : Only S a b) {p : Addr} (hp : p.block < a.heap.size → S p.block) (u : Value) : Only S a (b.setCell p u) :=
  h.trans (T := fun k => k = p.block) ⟨rfl, rfl, rfl, by simp [World.setCell], fun k _ hk => Below.heap_setCell _ _ _ _ hk⟩ (fun k hk e => by subst e; exact hp hk)
theorem Only.cell (w : World) (p o : Nat) (u : Value) : Only (fun k => k = p) w (w.setCell ⟨p, o, none⟩ u) :=
  ⟨rfl, rfl, rfl, by simp [World.setCell], fun k _ hk => Below.heap_setCell _ _ _ _ hk⟩
theorem heap_set {w : World} {p : Nat} {cs : Array Value} {t : TypeId} {fr : Nat × Nat} (h : w.heap[p]? = some (.cells cs t fr)) (o : Nat) (u : Value) :
    (w.setCell ⟨p, o, none⟩ u).heap[p]? = some (.cells (cs.setIfInBounds o u) t fr) := by
  simp only [World.setCell, Array.getElem?_modify, if_pos, h, Option.map_some]
  rfl
theorem Only.grown {S : Nat → Prop} {a b c : World} {row : Option Nat} (h : Only S a b) (hg : b.grownBy c row) (hr : ∀ k, k < a.heap.size → row = some k → S k) : Only S a c :=
  h.trans (T := fun k => row = some k) ⟨hg.os, hg.tape, hg.output, hg.size, fun k hk hn => hg.block k hk (fun e => hn e.symm)⟩ hr
theorem Only.below {S : Nat → Prop} {a b : World} (h : Only S a b) {B : Nat} (hB : B ≤ a.heap.size) (hS : ∀ k, S k → B ≤ k) : Below B a b :=
  ⟨h.os, h.tape, h.output, h.size, fun k hk => h.block k (by omega) (fun hs => by have := hS k hs; omega)⟩
theorem Only.lt {S : Nat → Prop} {a b : World} (h : Only S a b) {k : Nat} (hk : k < a.heap.size) : k < b.heap.size := Nat.lt_of_lt_of_le hk h.size

theorem lt_of_some {w : World} {b : Nat} {o : Obj} (h : w.heap[b]? = some o) : b < w.heap.size := (Array.getElem?_eq_some_iff.1 h).1
theorem Only.keep {S : Nat → Prop} {a b : World} (h : Only S a b) {k : Nat} {o : Obj} (hk : a.heap[k]? = some o) (hs : ¬ S k) : b.heap[k]? = some o :=
  (h.block k (lt_of_some hk) hs).trans hk

/-- Bytes as the model's cells. -/
def u8s (xs : List UInt8) : List Value := xs.map fun b => Value.int .u8 b.toNat
theorem u8s_length (xs : List UInt8) : (u8s xs).length = xs.length := by simp [u8s]
theorem u8s_append (xs ys : List UInt8) : u8s (xs ++ ys) = u8s xs ++ u8s ys := by simp [u8s]
theorem u8s_oneCell (xs : List UInt8) : ∀ u ∈ u8s xs, u.oneCell' = true := by
  intro u hu; simp [u8s] at hu; obtain ⟨b, _, rfl⟩ := hu; rfl

/-- A slice value whose cells read as these bytes, wherever they lie. -/
def SlC (w : World) (v : Value) (xs : List UInt8) : Prop :=
  (v = .slice none 0 0 ∧ xs = []) ∨ ∃ a cap, v = .slice (some a) xs.length cap ∧ ∀ j, j < xs.length → w.cell? (a.add j) = some (.int .u8 (xs.getD j 0).toNat)

theorem u8s_get {xs : List UInt8} {j : Nat} {u : Value} (h : (u8s xs)[j]? = some u) : j < xs.length ∧ u = .int .u8 (xs.getD j 0).toNat := by
  simp only [u8s, List.getElem?_map, Option.map_eq_some_iff] at h
  obtain ⟨b, hb, rfl⟩ := h
  obtain ⟨hj, rfl⟩ := List.getElem?_eq_some_iff.1 hb
  exact ⟨hj, by simp [hj]⟩
theorem u8s_at {xs : List UInt8} {j : Nat} (h : j < xs.length) : (u8s xs)[j]? = some (.int .u8 (xs.getD j 0).toNat) := by
  simp [u8s, h]

theorem add_lit (g off j : Nat) : (⟨g, off, none⟩ : Addr).add j = ⟨g, off + j, none⟩ := by unfold Addr.add; split <;> simp_all

/-- A slice of int that reads as these numbers. -/
def SlI (w : World) (ao : Option Addr) (ks : List Int) : Prop :=
  ∀ j, j < ks.length → ∃ g off, ao = some ⟨g, off, none⟩ ∧ w.cell? ⟨g, off + j, none⟩ = some (.int .i64 (ks.getD j 0))

theorem SlC.shape {w : World} {v : Value} {xs : List UInt8} (h : SlC w v xs) : ∃ ao cap, v = .slice ao xs.length cap := by
  rcases h with ⟨rfl, rfl⟩ | ⟨a, cap, rfl, _⟩
  · exact ⟨none, 0, rfl⟩
  · exact ⟨_, cap, rfl⟩

theorem Only.cellq {a b : World} (h : Only (fun _ => False) a b) {p : Addr} {v : Value} (hc : a.cell? p = some v) : b.cell? p = some v :=
  (World.cell?_of_block (h.block p.block (World.block_lt_of_cell? a p hc) (fun h => h))).trans hc
theorem SlC.keep {w w' : World} {v : Value} {xs : List UInt8} (h : SlC w v xs) (ho : Only (fun _ => False) w w') : SlC w' v xs := by
  rcases h with h | ⟨a, cap, rfl, hc⟩
  · exact .inl h
  · exact .inr ⟨a, cap, rfl, fun j hj => ho.cellq (hc j hj)⟩

theorem own_shape {w : World} {b : Nat} {e : TypeId} {v : Value} {n : Nat} {xs : List Value} (h : w.ownsRow b e 1 v n xs) : ∃ ao cap, v = .slice ao n cap := by
  rcases h.2 with ⟨rfl, rfl⟩ | ⟨g, cap, cur, rfl, _⟩
  · exact ⟨none, 0, rfl⟩
  · exact ⟨_, cap, rfl⟩

theorem own_keep {w w' : World} {B : Nat} {e : TypeId} {size : Nat} {v : Value} {n : Nat} {xs : List Value} (h : w.ownsRow B e size v n xs) (ho : Only (fun _ => False) w w') : w'.ownsRow B e size v n xs := by
  refine ⟨h.1, ?_⟩
  rcases h.2 with h0 | ⟨g, cap, cur, rfl, hb, hg, rest⟩
  · exact .inl h0
  · exact .inr ⟨g, cap, cur, rfl, hb, ho.keep hg (fun h => h), rest⟩

def Quiet (w : World) (w' : World) : Prop := Only (fun _ => False) w w'

theorem own_shapeN {w : World} {b : Nat} {e : TypeId} {size : Nat} {v : Value} {n : Nat} {xs : List Value} (h : w.ownsRow b e size v n xs) : ∃ ao cap, v = .slice ao n cap := by
  rcases h.2 with ⟨rfl, rfl⟩ | ⟨g, cap, cur, rfl, _⟩
  · exact ⟨none, 0, rfl⟩
  · exact ⟨_, cap, rfl⟩
theorem own_lt {w : World} {b : Nat} {e : TypeId} {size : Nat} {v : Value} {n : Nat} {xs : List Value} (h : w.ownsRow b e size v n xs) {k : Nat} (hk : v.ownBlock = some k) : k < w.heap.size := by
  rcases h.2 with ⟨rfl, rfl⟩ | ⟨g, cap, cur, rfl, _, hg, _⟩
  · simp [Value.ownBlock] at hk
  · simp [Value.ownBlock] at hk; subst hk; exact lt_of_some hg
theorem own_keepAt {w w' : World} {B : Nat} {e : TypeId} {size : Nat} {v : Value} {n : Nat} {xs : List Value} (h : w.ownsRow B e size v n xs) (hk : ∀ k, v.ownBlock = some k → w'.heap[k]? = w.heap[k]?) : w'.ownsRow B e size v n xs := by
  refine ⟨h.1, ?_⟩
  rcases h.2 with h0 | ⟨g, cap, cur, rfl, hb, hg, rest⟩
  · exact .inl h0
  · exact .inr ⟨g, cap, cur, rfl, hb, (hk g rfl).trans hg, rest⟩
theorem own_type {w : World} {b : Nat} {e : TypeId} {size : Nat} {v : Value} {n : Nat} {xs : List Value} (h : w.ownsRow b e size v n xs) {k : Nat} {cs : Array Value} {t : TypeId} {fr : Nat × Nat} (hb : w.heap[k]? = some (.cells cs t fr)) (ht : t ≠ e) : v.ownBlock ≠ some k := by
  intro hk
  rcases h.2 with ⟨rfl, rfl⟩ | ⟨g, cap, cur, rfl, _, hg, _⟩
  · simp [Value.ownBlock] at hk
  · simp [Value.ownBlock] at hk
    subst hk
    rw [hg] at hb
    simp at hb
    exact ht hb.2.1.symm

/-- A slice of bytes that reads as xs, and lies in none of the blocks F. -/
def SlO (w : World) (F : Nat → Prop) (v : Value) (xs : List UInt8) : Prop := SlC w v xs ∧ ∀ a n c, v = .slice (some a) n c → xs ≠ [] → ¬ F a.block
theorem add_block (a : Addr) (j : Nat) : (a.add j).block = a.block := by unfold Addr.add; split <;> rfl
theorem SlC.keepAt {w w' : World} {F : Nat → Prop} {v : Value} {xs : List UInt8} (h : SlO w F v xs) (hk : ∀ k, k < w.heap.size → ¬ F k → w'.heap[k]? = w.heap[k]?) : SlC w' v xs := by
  obtain ⟨h, hF⟩ := h
  rcases h with h | ⟨a, cap, rfl, hc⟩
  · exact .inl h
  · refine .inr ⟨a, cap, rfl, fun j hj => ?_⟩
    have h1 := hc j hj
    have hb : (a.add j).block < w.heap.size := World.block_lt_of_cell? w _ h1
    refine (World.cell?_of_block (hk _ hb ?_)).trans h1
    rw [add_block]
    exact hF a _ _ rfl (fun e => by subst e; simp at hj)
theorem SlO.keep {w w' : World} {F : Nat → Prop} {v : Value} {xs : List UInt8} (h : SlO w F v xs) (ho : Only F w w') : SlO w' F v xs :=
  ⟨SlC.keepAt h ho.block, h.2⟩
theorem SlO.quiet {w w' : World} {F : Nat → Prop} {v : Value} {xs : List UInt8} (h : SlO w F v xs) (ho : Only (fun _ => False) w w') : SlO w' F v xs :=
  ⟨h.1.keep ho, h.2⟩
/-- What was there when the statement began lies in no block that is newer. -/
theorem SlC.old {w0 w : World} {F : Nat → Prop} {v : Value} {xs : List UInt8} (h : SlC w0 v xs) (ho : Only (fun _ => False) w0 w) (hF : ∀ k, F k → w0.heap.size ≤ k) : SlO w F v xs := by
  refine ⟨h.keep ho, fun a n c e hx hk => ?_⟩
  rcases h with ⟨rfl, rfl⟩ | ⟨b, cap, rfl, hc⟩
  · exact hx rfl
  · simp at e
    obtain ⟨rfl, _, _⟩ := e
    have h0 : 0 < xs.length := List.length_pos_iff.2 hx
    have h1 := World.block_lt_of_cell? w0 _ (hc 0 h0)
    rw [add_block] at h1
    have := hF _ hk
    omega

/-! ### Parts of memory, side by side -/
/-- A part of memory: what holds of a world, and which blocks it takes. -/
abbrev Res := World → (Nat → Prop) → Prop
class Stab (I : Res) : Prop where
  lt : ∀ {w : World} {F : Nat → Prop}, I w F → ∀ k, F k → k < w.heap.size
  keep : ∀ {w w' : World} {F : Nat → Prop}, I w F → (∀ k, F k → w'.heap[k]? = w.heap[k]?) → I w' F
def Sep (I J : Res) : Res := fun w F => ∃ A B : Nat → Prop, I w A ∧ J w B ∧ (∀ k, A k → ¬ B k) ∧ ∀ k, F k ↔ A k ∨ B k
def Emp : Res := fun _ F => ∀ k, ¬ F k
def Blk (k : Nat) (o : Obj) : Res := fun w F => w.heap[k]? = some o ∧ ∀ i, F i ↔ i = k
def ExR {α : Type} (I : α → Res) : Res := fun w F => ∃ x, I x w F
def AndR (p : Prop) (I : Res) : Res := fun w F => p ∧ I w F
instance {I J : Res} [Stab I] [Stab J] : Stab (Sep I J) where
  lt := by
    rintro w F ⟨A, B, hA, hB, hd, hF⟩ k hk
    rcases (hF k).1 hk with h | h
    · exact Stab.lt hA k h
    · exact Stab.lt hB k h
  keep := by
    rintro w w' F ⟨A, B, hA, hB, hd, hF⟩ hk
    exact ⟨A, B, Stab.keep hA (fun k h => hk k ((hF k).2 (.inl h))), Stab.keep hB (fun k h => hk k ((hF k).2 (.inr h))), hd, hF⟩
instance : Stab Emp where
  lt := fun h k hk => (h k hk).elim
  keep := fun h _ => h
instance {k : Nat} {o : Obj} : Stab (Blk k o) where
  lt := fun h i hi => by rw [(h.2 i).1 hi]; exact lt_of_some h.1
  keep := fun h hk => ⟨(hk k ((h.2 k).2 rfl)).trans h.1, h.2⟩
instance {α : Type} {I : α → Res} [∀ x, Stab (I x)] : Stab (ExR I) where
  lt := fun ⟨_, h⟩ => Stab.lt h
  keep := fun ⟨x, h⟩ hk => ⟨x, Stab.keep h hk⟩
instance {p : Prop} {I : Res} [Stab I] : Stab (AndR p I) where
  lt := fun ⟨_, h⟩ => Stab.lt h
  keep := fun ⟨x, h⟩ hk => ⟨x, Stab.keep h hk⟩
theorem Sep.comm {I J : Res} {w : World} {F : Nat → Prop} (h : Sep I J w F) : Sep J I w F := by
  obtain ⟨A, B, hA, hB, hd, hF⟩ := h
  exact ⟨B, A, hB, hA, fun k h1 h2 => hd k h2 h1, fun k => (hF k).trans Or.comm⟩
theorem Sep.assoc {I J K : Res} {w : World} {F : Nat → Prop} (h : Sep (Sep I J) K w F) : Sep I (Sep J K) w F := by
  obtain ⟨AB, C, ⟨A, B, hA, hB, hd, hF⟩, hC, hd2, hF2⟩ := h
  refine ⟨A, fun k => B k ∨ C k, hA, ⟨B, C, hB, hC, fun k h1 h2 => hd2 k ((hF k).2 (.inr h1)) h2, fun k => Iff.rfl⟩, fun k h1 h2 => ?_, fun k => ?_⟩
  · rcases h2 with h2 | h2
    · exact hd k h1 h2
    · exact hd2 k ((hF k).2 (.inl h1)) h2
  · rw [hF2, hF, or_assoc]
theorem Sep.imp {I J I' J' : Res} {w : World} {F : Nat → Prop} (h : Sep I J w F) (hI : ∀ A, I w A → I' w A) (hJ : ∀ B, J w B → J' w B) : Sep I' J' w F := by
  obtain ⟨A, B, hA, hB, hd, hF⟩ := h
  exact ⟨A, B, hI A hA, hJ B hB, hd, hF⟩

/-- What a statement has made since it began in w0: parts of memory in blocks of its own; nothing that was there has changed. -/
def Own (w0 w : World) (I : Res) : Prop := ∃ F : Nat → Prop, I w F ∧ (∀ k, F k → w0.heap.size ≤ k) ∧ Only (fun _ => False) w0 w
theorem Own.only {w0 w : World} {I : Res} (h : Own w0 w I) : Only (fun _ => False) w0 w := h.choose_spec.2.2
theorem Own.start (w : World) : Own w w Emp := ⟨fun _ => False, fun _ h => h, fun _ h => h.elim, Only.refl _ _⟩
theorem Own.imp {w0 w : World} {I J : Res} (h : Own w0 w I) (hI : ∀ F, I w F → J w F) : Own w0 w J := by
  obtain ⟨F, h1, h2, h3⟩ := h
  exact ⟨F, hI F h1, h2, h3⟩
theorem Own.comm {w0 w : World} {I J : Res} (h : Own w0 w (Sep I J)) : Own w0 w (Sep J I) := h.imp fun _ => Sep.comm
theorem Own.assoc {w0 w : World} {I J K : Res} (h : Own w0 w (Sep (Sep I J) K)) : Own w0 w (Sep I (Sep J K)) := h.imp fun _ => Sep.assoc
theorem Own.assoc' {w0 w : World} {I J K : Res} (h : Own w0 w (Sep I (Sep J K))) : Own w0 w (Sep (Sep I J) K) :=
  h.imp fun _ h => (Sep.comm (Sep.assoc (Sep.comm (Sep.assoc (Sep.comm h)))))
theorem Own.fst {w0 w : World} {I J : Res} (h : Own w0 w (Sep I J)) : Own w0 w I := by
  obtain ⟨F, ⟨A, B, hA, hB, hd, hF⟩, h2, h3⟩ := h
  exact ⟨A, hA, fun k hk => h2 k ((hF k).2 (.inl hk)), h3⟩
theorem Own.snd {w0 w : World} {I J : Res} (h : Own w0 w (Sep I J)) : Own w0 w J := h.comm.fst
theorem Own.quiet {w0 w w' : World} {I : Res} [Stab I] (h : Own w0 w I) (ho : Only (fun _ => False) w w') : Own w0 w' I := by
  obtain ⟨F, h1, h2, h3⟩ := h
  exact ⟨F, Stab.keep h1 (fun k hk => ho.block k (Stab.lt h1 k hk) (fun h => h)), h2, h3.trans ho (fun _ _ h => h)⟩
theorem Own.drew {w0 w : World} {I : Res} [Stab I] (h : Own w0 w I) : Own w0 w.drew I := h.quiet ((Only.refl _ w).drew)
theorem Own.drewN {w0 w : World} {I : Res} [Stab I] (h : Own w0 w I) (n : Nat) : Own w0 (w.drewN n) I := h.quiet ((Only.refl _ w).drewN n)
/-- Something in new blocks. -/
theorem Own.fresh {w0 w w' : World} {I J : Res} [Stab I] (h : Own w0 w I) (ho : Only (fun _ => False) w w') {B : Nat → Prop} (hJ : J w' B) (hB : ∀ k, B k → w.heap.size ≤ k) : Own w0 w' (Sep J I) := by
  obtain ⟨F, h1, h2, h3⟩ := h
  exact ⟨fun k => B k ∨ F k, ⟨B, F, hJ, Stab.keep h1 (fun k hk => ho.block k (Stab.lt h1 k hk) (fun h => h)), fun k a b => by have := hB k a; have := Stab.lt h1 k b; omega, fun k => Iff.rfl⟩,
    fun k hk => hk.elim (fun a => by have := hB k a; have := h3.size; omega) (h2 k), h3.trans ho (fun _ _ h => h)⟩
theorem Own.alloc {w0 w : World} {I : Res} [Stab I] (h : Own w0 w I) (o : Obj) : Own w0 (w.alloc o) (Sep (Blk w.heap.size o) I) :=
  h.fresh ((Only.refl _ w).alloc o) (B := fun k => k = w.heap.size) ⟨heap_alloc_new w o, fun i => Iff.rfl⟩ (fun k e => by omega)

theorem Own.swap {w0 w : World} {I J K : Res} (h : Own w0 w (Sep I (Sep J K))) : Own w0 w (Sep J (Sep I K)) := (h.assoc'.imp fun _ h => h.imp (fun _ h => Sep.comm h) (fun _ h => h)).assoc
theorem Own.drop2 {w0 w : World} {I J K : Res} (h : Own w0 w (Sep I (Sep J K))) : Own w0 w (Sep I K) := h.swap.snd
/-- A new block beside the first part. -/
theorem Own.lend {w0 w : World} {I J : Res} [Stab I] [Stab J] (h : Own w0 w (Sep I J)) (o : Obj) : Own w0 (w.alloc o) (Sep I (Sep (Blk w.heap.size o) J)) := (h.alloc o).swap
/-- Bytes in a block of their own. -/
def Row (g : Nat) (t : TypeId) (xs : List UInt8) (fr : Nat × Nat := (0, 0)) : Res := Blk g (.cells (u8s xs).toArray t fr)
instance {g : Nat} {t : TypeId} {xs : List UInt8} {fr : Nat × Nat} : Stab (Row g t xs fr) := inferInstanceAs (Stab (Blk g _))
theorem row_bytes {w : World} {g : Nat} {xs : List UInt8} {t : TypeId} {fr : Nat × Nat} {n cap : Nat} (h : w.heap[g]? = some (.cells (u8s xs).toArray t fr)) (hn : n ≤ xs.length) : SlC w (.slice (some ⟨g, 0, none⟩) n cap) (xs.take n) := by
  refine .inr ⟨⟨g, 0, none⟩, cap, by simp [Nat.min_eq_left hn], fun j hj => ?_⟩
  rw [add_lit, cell_of_row w g _ _ _ _ h]
  simp at hj
  simp only [Nat.zero_add, List.getElem?_toArray]
  rw [u8s_at (by omega)]
  congr 3
  simp [List.getD_eq_getElem?_getD, show j < n by omega]
theorem row_bytes' {w : World} {g : Nat} {xs : List UInt8} {t : TypeId} {fr : Nat × Nat} {n cap : Nat} (h : w.heap[g]? = some (.cells (u8s xs).toArray t fr)) (hn : n = xs.length) : SlC w (.slice (some ⟨g, 0, none⟩) n cap) xs := by
  have := row_bytes (n := n) (cap := cap) h (Nat.le_of_eq hn)
  rwa [List.take_of_length_le (Nat.le_of_eq hn.symm)] at this
/-- What lies in a row of its own lies in no block of another part. -/
theorem Row.apart {w : World} {g n c : Nat} {t : TypeId} {xs : List UInt8} {fr : Nat × Nat} {J : Res} {F B : Nat → Prop} (hJ : Sep (Row g t xs fr) J w B) (hd : ∀ k, F k → ¬ B k) (hn : n = xs.length) : SlO w F (.slice (some ⟨g, 0, none⟩) n c) xs := by
  obtain ⟨A, C, hA, hC, hac, hB⟩ := hJ
  refine ⟨row_bytes' hA.1 hn, fun a m c e hx hk => ?_⟩
  simp at e
  obtain ⟨rfl, _, _⟩ := e
  exact hd _ hk ((hB _).2 (.inl ((hA.2 _).2 rfl)))
theorem Own.row {w0 w : World} {g : Nat} {t : TypeId} {xs : List UInt8} {fr : Nat × Nat} (h : Own w0 w (Row g t xs fr)) : w.heap[g]? = some (.cells (u8s xs).toArray t fr) := by
  obtain ⟨F, h1, _⟩ := h
  exact h1.1

/-- What a call leaves of a part of memory: it answers 'val x', the part is then 'Q x'; of what was there only the part's blocks have changed, and what it has taken besides is new. -/
def Post {α : Type} (w : World) (F : Nat → Prop) (val : α → Value) (Q : α → Res) (e : Ending) (w' : World) : Prop :=
  ∃ (x : α) (F' : Nat → Prop), e = .returned (val x) ∧ Q x w' F' ∧ (∀ k, F' k → F k ∨ w.heap.size ≤ k) ∧ Only F w w'
theorem Own.call {α : Type} {w0 w : World} {val : α → Value} {Q : α → Res} {I J : Res} [Stab J] {P : Program} {f : FuncId} {args : Array Value} (h : Own w0 w (Sep I J))
    (c : ∀ F B : Nat → Prop, I w F → J w B → (∀ k, F k → ¬ B k) → (∀ k, F k → w0.heap.size ≤ k) → Calls P f args w (Post w F val Q)) :
    Calls P f args w fun e w' => ∃ x, e = .returned (val x) ∧ Own w0 w' (Sep (Q x) J) := by
  obtain ⟨F, ⟨A, B, hA, hB, hd, hF⟩, h2, h3⟩ := h
  refine (c A B hA hB hd (fun k hk => h2 k ((hF k).2 (.inl hk)))).mono ?_
  rintro e w' ⟨x, F', rfl, hQ, hsub, ho⟩
  refine ⟨x, rfl, fun k => F' k ∨ B k, ⟨F', B, hQ, Stab.keep hB (fun k hk => ho.block k (Stab.lt hB k hk) (fun h => hd k h hk)), fun k a b => ?_, fun k => Iff.rfl⟩, fun k hk => ?_, h3.trans ho (fun k hk a => ?_)⟩
  · rcases hsub k a with h | h
    · exact hd k h b
    · have := Stab.lt hB k b; omega
  · rcases hk with hk | hk
    · rcases hsub k hk with h | h
      · exact h2 k ((hF k).2 (.inl h))
      · have := h3.size; omega
    · exact h2 k ((hF k).2 (.inr hk))
  · have := h2 k ((hF k).2 (.inl a)); omega
theorem Own.call1 {α : Type} {w0 w : World} {val : α → Value} {Q : α → Res} {I : Res} {P : Program} {f : FuncId} {args : Array Value} (h : Own w0 w I)
    (c : ∀ F : Nat → Prop, I w F → (∀ k, F k → w0.heap.size ≤ k) → Calls P f args w (Post w F val Q)) :
    Calls P f args w fun e w' => ∃ x, e = .returned (val x) ∧ Own w0 w' (Q x) := by
  have h' : Own w0 w (Sep I Emp) := h.imp fun F hF => ⟨F, fun _ => False, hF, fun _ h => h, fun _ _ h => h, fun k => by simp⟩
  refine (h'.call (fun F B hI _ _ hF => c F hI hF)).mono ?_
  rintro e w' ⟨x, rfl, hq⟩
  exact ⟨x, rfl, hq.fst⟩
theorem Post.of {α : Type} {w : World} {F : Nat → Prop} {val : α → Value} {Q : α → Res} {e : Ending} {w' : World} (x : α) (F' : Nat → Prop) (he : e = .returned (val x)) (hQ : Q x w' F') (hs : ∀ k, F' k → F k ∨ w.heap.size ≤ k) (ho : Only F w w') : Post w F val Q e w' :=
  ⟨x, F', he, hQ, hs, ho⟩

end Go.Proofs.Ytbimhiffcdhcaaa

namespace Go.Proofs.Ytbimhiffcdhcaaa
open Go Go.RowKit
set_option linter.unusedVariables false
set_option linter.unusedSimpArgs false
set_option maxRecDepth 100000

/-- A slice value that reads as these bytes, in a block of bytes. -/
def SlB (w : World) (v : Value) (xs : List UInt8) : Prop :=
  (v = .slice none 0 0 ∧ xs = []) ∨
  ∃ g off cap cur, v = .slice (some ⟨g, off, none⟩) xs.length cap ∧ xs.length ≤ cap ∧ cap ≤ maxLen ∧ w.heap[g]? = some (.cells cur 5 (0, 0)) ∧
    ∀ j, j < xs.length → cur[off + j]? = some (.int .u8 (xs.getD j 0).toNat)

/-- The Out in block p: the slice value in its field, its bytes, the block of its row. -/
structure OutV (w : World) (p : Nat) (v : Value) (xs : List UInt8) : Prop where
  at' : w.heap[p]? = some (.cells #[v] 112 (0, 0))
  own : w.ownsRow 0 5 1 v xs.length (u8s xs)

/-- The In in block p: the slice value in its field, the bytes that are left, whether it is bad. -/
structure InV (w : World) (p : Nat) (v : Value) (xs : List UInt8) (bad : Bool) : Prop where
  at' : w.heap[p]? = some (.cells #[v, .bool bad] 124 (0, 0))
  sl : SlB w v xs

theorem SlB.keep {S : Nat → Prop} {w w' : World} {v : Value} {xs : List UInt8} (h : SlB w v xs) (ho : Only S w w')
    (hS : ∀ k cur, w.heap[k]? = some (.cells cur 5 (0, 0)) → ¬ S k) : SlB w' v xs := by
  rcases h with h | ⟨g, off, cap, cur, rfl, h1, h2, h3, h4⟩
  · exact .inl h
  · exact .inr ⟨g, off, cap, cur, rfl, h1, h2, ho.keep h3 (hS g cur h3), h4⟩

theorem InV.cell0 {w : World} {p : Nat} {v : Value} {xs : List UInt8} {bad : Bool} (h : InV w p v xs bad) : w.cell? ⟨p, 0, none⟩ = some v := by simp [World.cell?, h.at']
theorem InV.cell1 {w : World} {p : Nat} {v : Value} {xs : List UInt8} {bad : Bool} (h : InV w p v xs bad) : w.cell? ⟨p, 1, none⟩ = some (.bool bad) := by simp [World.cell?, h.at']
theorem InV.free {w : World} {p : Nat} {v : Value} {xs : List UInt8} {bad : Bool} (h : InV w p v xs bad) (o : Nat) : w.frozen? ⟨p, o, none⟩ = false := by simp [World.frozen?, h.at']
theorem InV.lt {w : World} {p : Nat} {v : Value} {xs : List UInt8} {bad : Bool} (h : InV w p v xs bad) : p < w.heap.size := lt_of_some h.at'

theorem SlB.shape {w : World} {v : Value} {xs : List UInt8} (h : SlB w v xs) :
    ∃ ao cap, v = .slice ao xs.length cap ∧ xs.length ≤ cap ∧ cap ≤ maxLen := by
  rcases h with ⟨rfl, rfl⟩ | ⟨g, off, cap, cur, rfl, h1, h2, _⟩
  · exact ⟨none, 0, rfl, Nat.le_refl _, by unfold maxLen; omega⟩
  · exact ⟨_, cap, rfl, h1, h2⟩

end Go.Proofs.Ytbimhiffcdhcaaa

namespace Go.Proofs.Ytbimhiffcdhcaaa
open Go Go.RowKit

set_option maxHeartbeats 400000 in
theorem bad_any (p : Nat) (b : Bool) (w : World) (hc : w.cell? ⟨p, 1, none⟩ = some (.bool b)) :
    Calls Try.prog 66 #[.pointer (some ⟨p, 0, none⟩)] w fun e w' => e = .returned (.bool b) ∧ w = w' := by
  go_enter Try.func66, Try.ntmps66
  go_wp2
  go_ret
  exact ⟨rfl, rfl⟩

set_option maxHeartbeats 400000 in
theorem bad_nil (w : World) :
    Calls Try.prog 66 #[.pointer none] w fun e w' => e = .returned (.bool true) ∧ w = w' := by
  go_enter Try.func66, Try.ntmps66
  go_wp2
  go_ret
  exact ⟨rfl, rfl⟩

set_option maxHeartbeats 400000 in
theorem left_any (p : Nat) (ao : Option Addr) (n c : Nat) (w : World) (hc : w.cell? ⟨p, 0, none⟩ = some (.slice ao n c)) :
    Calls Try.prog 67 #[.pointer (some ⟨p, 0, none⟩)] w fun e w' => e = .returned (.int .i64 n) ∧ w = w' := by
  go_enter Try.func67, Try.ntmps67
  go_wp2
  go_ret
  exact ⟨rfl, rfl⟩

set_option maxHeartbeats 400000 in
theorem left_nil (w : World) :
    Calls Try.prog 67 #[.pointer none] w fun e w' => e = .returned (.int .i64 0) ∧ w = w' := by
  go_enter Try.func67, Try.ntmps67
  go_wp2
  go_ret
  exact ⟨rfl, rfl⟩

end Go.Proofs.Ytbimhiffcdhcaaa

namespace Go.Proofs.Ytbimhiffcdhcaaa
open Go Go.RowKit
set_option linter.unusedVariables false
set_option linter.unusedSimpArgs false
set_option maxRecDepth 100000

set_option maxHeartbeats 400000 in
theorem next_nil (n : Int) (w : World) :
    Calls Try.prog 70 #[.pointer none, .int .i64 n] w fun e w' => e = .returned (.slice none 0 0) ∧ w = w' := by
  go_enter Try.func70, Try.ntmps70
  go_wp2_with (go_at_call 66; refine (bad_nil _).mono ?_; rintro e w' ⟨rfl, rfl⟩)
  go_ret
  exact ⟨rfl, rfl⟩

set_option maxHeartbeats 400000 in
theorem next_bad (p : Nat) (n : Int) (w : World) (hc : w.cell? ⟨p, 1, none⟩ = some (.bool true)) :
    Calls Try.prog 70 #[.pointer (some ⟨p, 0, none⟩), .int .i64 n] w fun e w' => e = .returned (.slice none 0 0) ∧ w = w' := by
  go_enter Try.func70, Try.ntmps70
  go_wp2_with (go_at_call 66; refine (bad_any _ _ _ hc).mono ?_; rintro e w' ⟨rfl, rfl⟩)
  go_ret
  exact ⟨rfl, rfl⟩

set_option maxHeartbeats 400000 in
theorem next_short (p : Nat) (ao : Option Addr) (l c n : Nat) (w : World) (hc : w.cell? ⟨p, 1, none⟩ = some (.bool false)) (hc0 : w.cell? ⟨p, 0, none⟩ = some (.slice ao l c))
    (hf : w.frozen? ⟨p, 1, none⟩ = false) (hn : l < n) :
    Calls Try.prog 70 #[.pointer (some ⟨p, 0, none⟩), .int .i64 n] w fun e w' => e = .returned (.slice none 0 0) ∧ w.setCell ⟨p, 1, none⟩ (.bool true) = w' := by
  go_enter Try.func70, Try.ntmps70
  go_wp2_with (go_at_call 66; refine (bad_any _ _ _ hc).mono ?_; rintro e w' ⟨rfl, rfl⟩)
  go_ret
  exact ⟨rfl, rfl⟩

set_option maxHeartbeats 400000 in
theorem next_ok (p g off l c n : Nat) (w : World) (hc : w.cell? ⟨p, 1, none⟩ = some (.bool false)) (hc0 : w.cell? ⟨p, 0, none⟩ = some (.slice (some ⟨g, off, none⟩) l c))
    (hf : w.frozen? ⟨p, 0, none⟩ = false) (hn : n ≤ l) (hlc : l ≤ c) (hm : c ≤ 9223372036854775807) :
    Calls Try.prog 70 #[.pointer (some ⟨p, 0, none⟩), .int .i64 n] w fun e w' => e = .returned (.slice (some ⟨g, off, none⟩) n c) ∧
      w.setCell ⟨p, 0, none⟩ (.slice (some (if n < c then ⟨g, off + n, none⟩ else ⟨g, off, none⟩)) (l - n) (c - n)) = w' := by
  have hn' : ¬ l < n := by omega
  go_enter Try.func70, Try.ntmps70
  go_wp2_with (go_at_call 66; refine (bad_any _ _ _ hc).mono ?_; rintro e w' ⟨rfl, rfl⟩)
  all_goals (go_ret; exact ⟨rfl, rfl⟩)

set_option maxHeartbeats 400000 in
theorem next_ok0 (p : Nat) (w : World) (hc : w.cell? ⟨p, 1, none⟩ = some (.bool false)) (hc0 : w.cell? ⟨p, 0, none⟩ = some (.slice none 0 0))
    (hf : w.frozen? ⟨p, 0, none⟩ = false) :
    Calls Try.prog 70 #[.pointer (some ⟨p, 0, none⟩), .int .i64 0] w fun e w' => e = .returned (.slice none 0 0) ∧
      w.setCell ⟨p, 0, none⟩ (.slice none 0 0) = w' := by
  go_enter Try.func70, Try.ntmps70
  go_wp2_with (go_at_call 66; refine (bad_any _ _ _ hc).mono ?_; rintro e w' ⟨rfl, rfl⟩)
  go_ret
  exact ⟨rfl, rfl⟩

/-- May n bytes be taken? -/
def can (n : Nat) (xs : List UInt8) (bad : Bool) : Bool := !bad && decide (n ≤ xs.length)
def nextR (n : Nat) (xs : List UInt8) (bad : Bool) : List UInt8 := if can n xs bad then xs.take n else []
def nextL (n : Nat) (xs : List UInt8) (bad : Bool) : List UInt8 := if can n xs bad then xs.drop n else xs

def NextPost (w : World) (p n : Nat) (xs : List UInt8) (bad : Bool) (e : Ending) (w' : World) : Prop :=
  ∃ r v', e = .returned r ∧ SlB w' r (nextR n xs bad) ∧ InV w' p v' (nextL n xs bad) (!can n xs bad) ∧ Only (fun k => k = p) w w'

theorem SlB.setCell {w : World} {v : Value} {xs : List UInt8} (h : SlB w v xs) {p : Nat} {cs : Array Value} {t : TypeId} (hp : w.heap[p]? = some (.cells cs t (0, 0))) (ht : t ≠ 5) (o : Nat) (u : Value) :
    SlB (w.setCell ⟨p, o, none⟩ u) v xs :=
  h.keep (S := fun k => k = p) (Only.cell w p o u) (fun k cur hk e => by subst e; rw [hk] at hp; simp at hp; exact ht hp.2.symm)

theorem InV.set0 {w : World} {p : Nat} {v u : Value} {xs ys : List UInt8} {bad : Bool} (h : InV w p v xs bad) (hu : SlB w u ys) : InV (w.setCell ⟨p, 0, none⟩ u) p u ys bad :=
  ⟨by rw [heap_set h.at']; rfl, hu.setCell h.at' (by decide) 0 u⟩
theorem InV.set1 {w : World} {p : Nat} {v : Value} {xs : List UInt8} {bad : Bool} (h : InV w p v xs bad) (b : Bool) : InV (w.setCell ⟨p, 1, none⟩ (.bool b)) p v xs b :=
  ⟨by rw [heap_set h.at']; rfl, h.sl.setCell h.at' (by decide) 1 _⟩

theorem SlB.take {w : World} {g off cap : Nat} {cur : Array Value} {xs : List UInt8} (hc : xs.length ≤ cap) (hm : cap ≤ maxLen) (hg : w.heap[g]? = some (.cells cur 5 (0, 0)))
    (hx : ∀ j, j < xs.length → cur[off + j]? = some (.int .u8 (xs.getD j 0).toNat)) {n : Nat} (hn : n ≤ xs.length) : SlB w (.slice (some ⟨g, off, none⟩) n cap) (xs.take n) := by
  refine .inr ⟨g, off, cap, cur, by simp [Nat.min_eq_left hn], by simp; omega, hm, hg, fun j hj => ?_⟩
  simp at hj
  rw [hx j (by omega)]
  rw [List.getD_eq_getElem?_getD, List.getD_eq_getElem?_getD, List.getElem?_take, if_pos (by omega)]

theorem SlB.drop {w : World} {g off cap : Nat} {cur : Array Value} {xs : List UInt8} (hc : xs.length ≤ cap) (hm : cap ≤ maxLen) (hg : w.heap[g]? = some (.cells cur 5 (0, 0)))
    (hx : ∀ j, j < xs.length → cur[off + j]? = some (.int .u8 (xs.getD j 0).toNat)) {n : Nat} (hn : n ≤ xs.length) :
    SlB w (.slice (some (if n < cap then ⟨g, off + n, none⟩ else ⟨g, off, none⟩)) (xs.length - n) (cap - n)) (xs.drop n) := by
  by_cases h : n < cap
  · refine .inr ⟨g, off + n, cap - n, cur, by simp [h], by simp; omega, by omega, hg, fun j hj => ?_⟩
    simp at hj
    rw [Nat.add_assoc, hx (n + j) (by omega)]
    simp [List.getD_eq_getElem?_getD]
  · refine .inr ⟨g, off, cap - n, cur, by simp [h], by simp; omega, by omega, hg, fun j hj => ?_⟩
    simp at hj
    omega

theorem next_any (p n : Nat) (v : Value) (xs : List UInt8) (bad : Bool) (w : World) (hI : InV w p v xs bad) :
    Calls Try.prog 70 #[.pointer (some ⟨p, 0, none⟩), .int .i64 n] w (NextPost w p n xs bad) := by
  cases bad with
  | true =>
    refine (next_bad p n w hI.cell1).mono ?_
    rintro e w' ⟨rfl, rfl⟩
    refine ⟨_, v, rfl, .inl ⟨rfl, by simp [nextR, can]⟩, by simpa [nextL, can] using hI, Only.refl _ _⟩
  | false =>
    by_cases hn : n ≤ xs.length
    · have hcan : can n xs false = true := by simp [can, hn]
      rcases hI.sl with ⟨rfl, rfl⟩ | ⟨g, off, cap, cur, rfl, h1, h2, h3, h4⟩
      · obtain rfl : n = 0 := by simpa using hn
        refine (next_ok0 p w hI.cell1 hI.cell0 (hI.free 0)).mono ?_
        rintro e w' ⟨rfl, rfl⟩
        refine ⟨_, .slice none 0 0, rfl, .inl ⟨rfl, by simp [nextR]⟩, ?_, Only.cell w p _ _⟩
        rw [hcan]
        simpa [nextL] using hI.set0 (u := .slice none 0 0) (ys := []) (.inl ⟨rfl, rfl⟩)
      · refine (next_ok p g off xs.length cap n w hI.cell1 hI.cell0 (hI.free 0) hn h1 (by unfold maxLen at h2; omega)).mono ?_
        rintro e w' ⟨rfl, rfl⟩
        have ht := (SlB.take h1 h2 h3 h4 hn).setCell hI.at' (by decide) 0 (.slice (some (if n < cap then ⟨g, off + n, none⟩ else ⟨g, off, none⟩)) (xs.length - n) (cap - n))
        have hd := hI.set0 (SlB.drop h1 h2 h3 h4 hn)
        refine ⟨_, _, rfl, by simpa [nextR, hcan] using ht, by simpa [nextL, hcan] using hd, Only.cell w p _ _⟩
    · have hcan : can n xs false = false := by simp [can]; omega
      obtain ⟨ao, cap, rfl, _⟩ := hI.sl.shape
      refine (next_short p ao xs.length cap n w hI.cell1 hI.cell0 (hI.free 1) (by omega)).mono ?_
      rintro e w' ⟨rfl, rfl⟩
      refine ⟨_, _, rfl, .inl ⟨rfl, by simp [nextR, hcan]⟩, by simpa [nextL, hcan] using hI.set1 true, Only.cell w p _ _⟩

end Go.Proofs.Ytbimhiffcdhcaaa

namespace Go.Proofs.Ytbimhiffcdhcaaa
open Go Go.RowKit
set_option linter.unusedVariables false
set_option linter.unusedSimpArgs false
set_option maxRecDepth 100000

/-- The number in these bytes, the highest first. -/
def numB (l : List UInt8) : Nat := l.foldl (fun x b => x * 256 + b.toNat) 0
theorem numB_snoc (l : List UInt8) (b : UInt8) : numB (l ++ [b]) = numB l * 256 + b.toNat := by simp [numB]
theorem numB_lt (k : Nat) : ∀ l : List UInt8, l.length = k → numB l < 256 ^ k := by
  induction k with
  | zero => intro l hl; obtain rfl : l = [] := List.length_eq_zero_iff.1 hl; simp [numB]
  | succ k ih =>
    intro l hl
    have hne : l ≠ [] := by intro h; subst h; simp at hl
    rw [← List.dropLast_concat_getLast hne, numB_snoc, Nat.pow_succ]
    have := ih l.dropLast (by simp [hl])
    have := (l.getLast hne).toNat_lt
    omega
theorem SlB.cells {w : World} {ao : Option Addr} {n cap : Nat} {ys : List UInt8} (h : SlB w (.slice ao n cap) ys) {k : Nat} (hk : k < ys.length) :
    ∃ g off, ao = some ⟨g, off, none⟩ ∧ w.cell? ⟨g, off + k, none⟩ = some (.int .u8 (ys.getD k 0).toNat) := by
  rcases h with ⟨_, rfl⟩ | ⟨g, off, cap', cur, hv, _, _, hg, hx⟩
  · simp at hk
  · simp only [Value.slice.injEq] at hv
    exact ⟨g, off, hv.1, by simp [World.cell?, hg, hx k hk]⟩
theorem take_snoc8 (l : List UInt8) (k : Nat) (h : k < l.length) : l.take (k + 1) = l.take k ++ [l.getD k 0] := by
  rw [List.take_succ_eq_append_getElem h]; simp [h]

theorem or_step (x b : Nat) (hx : x < 72057594037927936) (hb : b < 256) : bits .or .u64 ((x : Int) * 256) (IntKind.u64.wrap (b : Int)) = ((x * 256 + b : Nat) : Int) := by
  have e1 : IntKind.u64.wrap (b : Int) = (b : Int) := by rw [IntKind.wrap_u64]; omega
  have e2 : (x : Int) * 256 = ((x * 256 : Nat) : Int) := by omega
  rw [e1, e2, bits_or_u64_nat _ _ (by omega) (by omega)]
  congr 1
  have := Nat.two_pow_add_eq_or_of_lt (i := 8) (b := b) (by omega) x
  rw [Nat.mul_comm x 256]
  exact this.symm
theorem numB_take_lt (ys : List UInt8) (k : Nat) (hk : k < ys.length) (h8 : ys.length ≤ 8) : numB (ys.take k) < 72057594037927936 := by
  have h1 := numB_lt k (ys.take k) (by simp; omega)
  have h2 : 256 ^ k ≤ 256 ^ 7 := Nat.pow_le_pow_right (by omega) (by omega)
  omega

def NumPost (w : World) (p n : Nat) (xs : List UInt8) (bad : Bool) (e : Ending) (w' : World) : Prop :=
  ∃ v', e = .returned (.int .u64 (numB (nextR n xs bad))) ∧ InV w' p v' (nextL n xs bad) (!can n xs bad) ∧ Only (fun k => k = p) w w'

set_option maxHeartbeats 400000 in
theorem number_any (p n : Nat) (v : Value) (xs : List UInt8) (bad : Bool) (w : World) (hI : InV w p v xs bad) (hn8 : n ≤ 8) :
    Calls Try.prog 69 #[.pointer (some ⟨p, 0, none⟩), .int .i64 n] w (NumPost w p n xs bad) := by
  go_enter Try.func69, Try.ntmps69
  go_wp2_with fail
  refine (next_any p n v xs bad w hI).mono ?_
  rintro e w1 ⟨r, v', rfl, hr, hI', ho⟩
  obtain ⟨ys, hys⟩ : ∃ ys, ys = nextR n xs bad := ⟨_, rfl⟩
  rw [← hys] at hr
  have hl8 : ys.length ≤ 8 := by rw [hys]; unfold nextR; split <;> simp; omega
  obtain ⟨ao, cap, hre, hlc, hcm⟩ := hr.shape
  have HR := Lib.hid hr; clear hr
  have HY := Lib.hid hys; clear hys
  have HI' := Lib.hid hI'; clear hI'
  have HO := Lib.hid ho; clear ho
  have HI := Lib.hid hI; clear hI
  subst hre
  go_wp2_with fail
  go_loop [5, 12] (fun x i => ∃ k : Nat, k ≤ ys.length ∧ i = .int .i64 k ∧ x = .int .u64 (numB (ys.take k))) (fun _ i => ys.length - (intOf i).toNat)
  case atStart => exact ⟨0, Nat.zero_le _, rfl, rfl⟩
  case round =>
    obtain ⟨k, hk, rfl, rfl⟩ := hrel
    by_cases hlt : k < ys.length
    · obtain ⟨g, off, hao, hcell⟩ := HR.out.cells hlt
      have hbd : (ys.getD k 0).toNat < 256 := (ys.getD k 0).toNat_lt
      have hnb := Lib.hid (numB_take_lt ys k hlt hl8)
      have hnb' := hnb.out
      have hbd' := Lib.hid hbd
      have HT := Lib.hid (take_snoc8 ys k hlt)
      have HG : Hid (ys.getD k 0 = ys[k]) := by simp [Hid, hlt]
      subst hao
      go_wp2
      go_round
      case rel =>
        refine ⟨k + 1, by omega, by go_num, ?_⟩
        rw [← HG.out, or_step _ _ hnb.out hbd'.out, HT.out, numB_snoc]
      case measure => simp [intOf]; omega
    · have hke : k = ys.length := by omega
      go_wp2
      go_ret
      refine ⟨v', ?_, HI'.out, HO.out⟩
      rw [← HY.out]
      rfl

end Go.Proofs.Ytbimhiffcdhcaaa

namespace Go.Proofs.Ytbimhiffcdhcaaa
open Go Go.RowKit
set_option linter.unusedVariables false
set_option linter.unusedSimpArgs false
set_option maxRecDepth 100000

theorem nextR_le (n : Nat) (xs : List UInt8) (bad : Bool) : (nextR n xs bad).length ≤ n := by
  unfold nextR; split
  · simp; omega
  · simp
theorem numB_le (n : Nat) (l : List UInt8) (h : l.length ≤ n) : numB l < 256 ^ n := by
  have h1 := numB_lt l.length l rfl
  have h2 : 256 ^ l.length ≤ 256 ^ n := Nat.pow_le_pow_right (by omega) h
  omega
theorem numN_lt (n : Nat) (xs : List UInt8) (bad : Bool) : numB (nextR n xs bad) < 256 ^ n := numB_le n _ (nextR_le n xs bad)

/-- A take of a number of n bytes, answered in an integer kind. -/
def UPost (k : IntKind) (w : World) (p n : Nat) (xs : List UInt8) (bad : Bool) (e : Ending) (w' : World) : Prop :=
  ∃ v', e = .returned (.int k (numB (nextR n xs bad))) ∧ InV w' p v' (nextL n xs bad) (!can n xs bad) ∧ Only (fun k => k = p) w w'

set_option maxHeartbeats 400000 in
theorem inU64 (p : Nat) (v : Value) (xs : List UInt8) (bad : Bool) (w : World) (hI : InV w p v xs bad) :
    Calls Try.prog 62 #[.pointer (some ⟨p, 0, none⟩)] w (UPost .u64 w p 8 xs bad) := by
  go_enter Try.func62, Try.ntmps62
  go_wp2_with fail
  refine (number_any p 8 v xs bad w hI (by omega)).mono ?_
  rintro e w1 ⟨v', rfl, hI', ho⟩
  have HI' := Lib.hid hI'; clear hI'
  have HO := Lib.hid ho; clear ho
  go_wp2
  go_ret
  exact ⟨v', rfl, HI'.out, HO.out⟩

set_option maxHeartbeats 400000 in
theorem inU32 (p : Nat) (v : Value) (xs : List UInt8) (bad : Bool) (w : World) (hI : InV w p v xs bad) :
    Calls Try.prog 63 #[.pointer (some ⟨p, 0, none⟩)] w (UPost .u32 w p 4 xs bad) := by
  go_enter Try.func63, Try.ntmps63
  go_wp2_with fail
  refine (number_any p 4 v xs bad w hI (by omega)).mono ?_
  rintro e w1 ⟨v', rfl, hI', ho⟩
  have HI' := Lib.hid hI'; clear hI'
  have HO := Lib.hid ho; clear ho
  have HN := Lib.hid (numN_lt 4 xs bad)
  go_wp2
  go_ret
  refine ⟨v', ?_, HI'.out, HO.out⟩
  have := HN.out
  simp
  omega


set_option maxHeartbeats 400000 in
theorem inU8 (p : Nat) (v : Value) (xs : List UInt8) (bad : Bool) (w : World) (hI : InV w p v xs bad) :
    Calls Try.prog 64 #[.pointer (some ⟨p, 0, none⟩)] w (UPost .u8 w p 1 xs bad) := by
  go_enter Try.func64, Try.ntmps64
  go_wp2_with fail
  refine (number_any p 1 v xs bad w hI (by omega)).mono ?_
  rintro e w1 ⟨v', rfl, hI', ho⟩
  have HI' := Lib.hid hI'; clear hI'
  have HO := Lib.hid ho; clear ho
  have HN := Lib.hid (numN_lt 1 xs bad)
  go_wp2
  go_ret
  refine ⟨v', ?_, HI'.out, HO.out⟩
  have := HN.out
  simp
  omega


/-- What a flag's take answers and leaves. -/
def flagOk (xs : List UInt8) (bad : Bool) : Bool := can 1 xs bad && decide ((xs.headD 0).toNat ≤ 1)
def flagR (xs : List UInt8) (bad : Bool) : Bool := flagOk xs bad && decide ((xs.headD 0).toNat = 1)
def flagL (xs : List UInt8) (bad : Bool) : List UInt8 := if flagOk xs bad then xs.drop 1 else xs
def FlagPost (w : World) (p : Nat) (xs : List UInt8) (bad : Bool) (e : Ending) (w' : World) : Prop :=
  ∃ v', e = .returned (.bool (flagR xs bad)) ∧ InV w' p v' (flagL xs bad) (!flagOk xs bad) ∧ Only (fun k => k = p) w w'





end Go.Proofs.Ytbimhiffcdhcaaa

namespace Go.Proofs.Ytbimhiffcdhcaaa
open Go Go.RowKit
set_option linter.unusedVariables false
set_option linter.unusedSimpArgs false
set_option maxRecDepth 100000

theorem run_str {w : World} {v : Value} {xs : List UInt8} (h : SlB w v xs) : (convert 48 9 v).run Try.prog w = .ok (.string ⟨xs.toArray⟩) w := by
  rcases h with ⟨rfl, rfl⟩ | ⟨g, off, cap, cur, rfl, h1, h2, h3, h4⟩
  · rw [run_convert_bytes_string w 48 9 5 none 0 0 Try.underlying48 Try.underlying5 Try.underlying9]
    kernel_rfl
  · refine run_convert_bytes_back w 48 9 5 ⟨g, off, none⟩ cap xs Try.underlying48 Try.underlying5 Try.underlying9 (fun j hj => ?_)
    have hadd : (⟨g, off, none⟩ : Addr).add j = ⟨g, off + j, none⟩ := by unfold Addr.add; split <;> simp_all
    rw [hadd]
    simp only [World.cell?, h3]
    rw [if_neg (by simp), h4 j hj]
    simp [hj]

/-- What a text's take answers and leaves. -/
def txtN (xs : List UInt8) : Nat := numB (xs.take 2)
def txtOk (xs : List UInt8) (bad : Bool) : Bool := can 2 xs bad && can (txtN xs) (xs.drop 2) bad
def txtR (xs : List UInt8) (bad : Bool) : List UInt8 := if txtOk xs bad then (xs.drop 2).take (txtN xs) else []
def txtL (xs : List UInt8) (bad : Bool) : List UInt8 := if txtOk xs bad then (xs.drop 2).drop (txtN xs) else xs
def TextPost (w : World) (p : Nat) (xs : List UInt8) (bad : Bool) (e : Ending) (w' : World) : Prop :=
  ∃ v', e = .returned (.string ⟨(txtR xs bad).toArray⟩) ∧ InV w' p v' (txtL xs bad) (!txtOk xs bad) ∧ Only (fun k => k = p) w w'


/-- The same block again, whatever lies in it: what may be read stays. -/
theorem InV.back {w w' : World} {p : Nat} {v v' : Value} {xs xs' : List UInt8} {bad bad' : Bool} (h : InV w p v xs bad) (h' : InV w' p v' xs' bad') (ho : Only (fun k => k = p) w w') :
    InV (w'.setCell ⟨p, 0, none⟩ v) p v xs bad' :=
  h'.set0 (h.sl.keep ho (fun k cur hk e => by subst e; have := h.at'; rw [hk] at this; simp at this))

theorem text_ok (xs : List UInt8) (b2 : Bool) (h : b2 = !can (numB (nextR 2 xs false)) (nextL 2 xs false) (!can 2 xs false)) : txtOk xs false = !b2 := by
  subst h
  cases hc : can 2 xs false <;> simp [txtOk, hc, nextR, nextL, txtN]
  simp [can]
theorem text_res (xs : List UInt8) (h : txtOk xs false = true) : txtR xs false = nextR (numB (nextR 2 xs false)) (nextL 2 xs false) (!can 2 xs false) ∧
    txtL xs false = nextL (numB (nextR 2 xs false)) (nextL 2 xs false) (!can 2 xs false) := by
  have h1 : can 2 xs false = true := by simp [txtOk] at h; exact h.1
  have h2 : can (numB (List.take 2 xs)) (List.drop 2 xs) false = true := by simp [txtOk, txtN] at h; exact h.2
  simp [txtR, txtL, h, nextR, nextL, h1, h2, txtN]



set_option maxHeartbeats 400000 in
theorem inDone (p : Nat) (v : Value) (xs : List UInt8) (bad : Bool) (w : World) (hI : InV w p v xs bad) :
    Calls Try.prog 68 #[.pointer (some ⟨p, 0, none⟩)] w fun e w' => e = .returned (.bool (!bad && xs.isEmpty)) ∧ w = w' := by
  obtain ⟨ao, cap, rfl, _⟩ := hI.sl.shape
  have hc1 := hI.cell1
  have hc0 := hI.cell0
  have HI := Lib.hid hI; clear hI
  cases bad with
  | true =>
    go_enter Try.func68, Try.ntmps68
    go_wp2_with fail
    refine (bad_any p true w hc1).mono ?_
    rintro e w' ⟨rfl, rfl⟩
    go_wp2
    go_ret
    exact ⟨rfl, rfl⟩
  | false =>
    go_enter Try.func68, Try.ntmps68
    go_wp2_with fail
    refine (bad_any p false w hc1).mono ?_
    rintro e w' ⟨rfl, rfl⟩
    go_wp2_with fail
    refine (left_any p ao xs.length cap w hc0).mono ?_
    rintro e w' ⟨rfl, rfl⟩
    go_wp2
    go_ret
    refine ⟨?_, rfl⟩
    cases xs <;> simp
    omega

end Go.Proofs.Ytbimhiffcdhcaaa

namespace Go.Proofs.Ytbimhiffcdhcaaa
open Go Go.RowKit Go.Lib
set_option linter.unusedVariables false
set_option linter.unusedSimpArgs false
set_option maxRecDepth 100000

theorem Try.infoU8 : (Try.prog.info? 5).map (fun i => (i.zero, i.size, i.bytes)) = some (some (.int .u8 0), 1, 1) := by kernel_rfl

theorem run_strC {w : World} {v : Value} {xs : List UInt8} (h : SlC w v xs) : (convert 48 9 v).run Try.prog w = .ok (.string ⟨xs.toArray⟩) w := by
  rcases h with ⟨rfl, rfl⟩ | ⟨a, cap, rfl, hc⟩
  · rw [run_convert_bytes_string w 48 9 5 none 0 0 Try.underlying48 Try.underlying5 Try.underlying9]
    kernel_rfl
  · refine run_convert_bytes_back w 48 9 5 a cap xs Try.underlying48 Try.underlying5 Try.underlying9 (fun j hj => ?_)
    rw [hc j hj]
    simp [hj]

/-- append onto a fresh empty slice: a copy in new memory. -/
theorem wp_fresh {ops : Array Oper} {rest : List Oper} {o : Oper} {a : Act} {Q : Exit → Act → World → Prop} (w : World) (v : Value) (xs : List UInt8) (hC : SlC w v xs) (hlen : xs.length ≤ 140737488355328)
    (hgd : o.guard = none) (s x : Operand) (ho : o.op = .call { callee := .builtin .append, args := #[s, x], argTypes := #[48, 48] })
    (hs : a.eval s = .slice (some ⟨w.heap.size, 0, none⟩) 0 0) (hx : a.eval x = v)
    (h : ∀ ao cap w', Hid (w'.ownsRow w.heap.size 5 1 (.slice ao xs.length cap) xs.length (u8s xs)) → Hid (Only (fun _ => False) w w') → wpList Try.prog ops Q rest (a.put o.dst (.slice ao xs.length cap)) w') :
    wpList Try.prog ops Q (o :: rest) a (w.alloc (.cells #[] 5)) := by
  obtain ⟨i0, hi, hz0, hz1, hz2⟩ := info_parts Try.infoU8
  have hmade := World.ownsRow_made (base := w.heap.size) (e := 5) (size := 1) w #[] 0 (Nat.le_refl _) (by decide) rfl
  rcases hC with ⟨rfl, rfl⟩ | ⟨ad, cap, rfl, hc⟩
  · refine wpList_append_own_none hgd s x 48 ho w.heap.size 5 i0 1 Try.underlying48 hi _ 0 [] hs hmade hx ?_
    exact h (some ⟨w.heap.size, 0, none⟩) 0 _ hmade ((Only.refl _ w).alloc _)
  · refine wpList_append_own _ hgd s x 48 ho w.heap.size 5 i0 (.int .u8 0) 1 1 Try.underlying48 hi hz0 hz1 hz2 rfl (by decide) _ 0 [] hs hmade ad xs.length cap (u8s xs) hx ?_ ?_ (u8s_oneCell xs) ?_ ?_ ?_ ?_
    · rw [u8s_length, Nat.mul_one]
    · intro j u hu
      obtain ⟨hj, rfl⟩ := u8s_get hu
      have h1 := hc j hj
      have hb : (ad.add j).block < w.heap.size := World.block_lt_of_cell? w _ h1
      exact (World.cell?_of_block (Below.heap_alloc w _ _ hb)).trans h1
    · unfold maxLen; omega
    · omega
    · simp
    · intro v' w1 hown hg _
      rw [Nat.zero_add, List.nil_append] at hown
      obtain ⟨ao, cap', rfl⟩ := own_shape hown
      exact h ao cap' w1 hown (((Only.refl _ w).alloc _).grown hg (fun k hk e => by simp [Value.ownBlock] at e; omega))

end Go.Proofs.Ytbimhiffcdhcaaa

namespace Go.Proofs.Ytbimhiffcdhcaaa
open Go Go.RowKit
set_option linter.unusedVariables false
set_option linter.unusedSimpArgs false
set_option maxRecDepth 100000

/-- The lowest k bytes of x, the highest first. -/
def beB : Nat → Nat → List UInt8
  | 0, _ => []
  | k + 1, x => UInt8.ofNat (x / 256 ^ k) :: beB k x
theorem beB_length (k x : Nat) : (beB k x).length = k := by induction k with
  | zero => rfl
  | succ k ih => simp [beB, ih]

/-- Blocks that a put into the Out at p may change. -/
def OutS (p : Nat) (v : Value) (k : Nat) : Prop := k = p ∨ v.ownBlock = some k

def PutPost (w : World) (p : Nat) (v : Value) (xs : List UInt8) (e : Ending) (w' : World) : Prop :=
  e = .returned (.tuple #[]) ∧ ∃ v', OutV w' p v' xs ∧ (v'.ownBlock = v.ownBlock ∨ ∃ g, v'.ownBlock = some g ∧ w.heap.size ≤ g) ∧ Only (OutS p v) w w'

set_option maxHeartbeats 400000 in
theorem number_nil (x n : Int) (w : World) :
    Calls Try.prog 59 #[.pointer none, .int .u64 x, .int .i64 n] w fun e w' => e = .returned (.tuple #[]) ∧ w = w' := by
  go_enter Try.func59, Try.ntmps59
  go_wp2
  exact bodyPost_ret (results_none rfl _ _ _) rfl ⟨rfl, rfl⟩

def NumInv (w : World) (p x n : Nat) (v : Value) (xs : List UInt8) (k : Nat) (wr : World) : Prop :=
  ∃ D v', D ++ beB k x = beB n x ∧ OutV wr p v' (xs ++ D) ∧ (v'.ownBlock = v.ownBlock ∨ ∃ g, v'.ownBlock = some g ∧ w.heap.size ≤ g) ∧ Only (OutS p v) w wr

theorem OutV.cell {w : World} {p : Nat} {v : Value} {xs : List UInt8} (h : OutV w p v xs) : w.cell? ⟨p, 0, none⟩ = some v := by simp [World.cell?, h.at']
theorem OutV.free {w : World} {p : Nat} {v : Value} {xs : List UInt8} (h : OutV w p v xs) : w.frozen? ⟨p, 0, none⟩ = false := by simp [World.frozen?, h.at']
theorem OutV.ne {w : World} {p : Nat} {v : Value} {xs : List UInt8} (h : OutV w p v xs) : v.ownBlock ≠ some p := by
  intro e
  have h1 := h.at'
  rcases h.own.2 with ⟨rfl, _⟩ | ⟨g, cap, cur, rfl, _, hg, _⟩
  · simp [Value.ownBlock] at e
  · simp [Value.ownBlock] at e
    subst e
    rw [hg] at h1
    simp at h1

/-- Behind the append of one byte, ahead of its store into the Out's field. -/
structure PutMid (wr : World) (p : Nat) (v : Value) (ys : List UInt8) (v1 : Value) (w1 : World) : Prop where
  at' : w1.heap[p]? = some (.cells #[v] 112 (0, 0))
  own : w1.ownsRow 0 5 1 v1 ys.length (u8s ys)
  row : v1.ownBlock = v.ownBlock ∨ ∃ g, v1.ownBlock = some g ∧ wr.heap.size ≤ g
  only : Only (OutS p v) wr w1

theorem PutMid.done {wr w1 : World} {p : Nat} {v v1 : Value} {ys : List UInt8} (h : PutMid wr p v ys v1 w1) : OutV (w1.setCell ⟨p, 0, none⟩ v1) p v1 ys := by
  have hne : v1.ownBlock ≠ some p := by
    intro e
    have h1 := h.at'
    rcases h.own.2 with ⟨rfl, _⟩ | ⟨g, cap, cur, rfl, _, hg, _⟩
    · simp [Value.ownBlock] at e
    · simp [Value.ownBlock] at e
      subst e
      rw [hg] at h1
      simp at h1
  exact ⟨one_setCell h.at', ownsRow_setCell_other h.own hne _⟩

/-- The append itself, in whatever world the new bytes lie. -/
theorem PutMid.mk' {wr w0 w1 : World} {p : Nat} {v : Value} {xs ys : List UInt8} (hV : OutV wr p v xs) (h0 : Only (fun _ => False) wr w0) {g cap n : Nat}
    (hown : w1.ownsRow 0 5 1 (.slice (some ⟨g, 0, none⟩) n cap) n (u8s ys)) (hn : n = ys.length) (hg : w0.grownBy w1 v.ownBlock) (hat : v.ownBlock = some g ∨ wr.heap.size ≤ g) :
    PutMid wr p v ys (.slice (some ⟨g, 0, none⟩) n cap) w1 := by
  have hp := h0.keep hV.at' (fun h => h)
  subst hn
  refine ⟨(hg.block p (lt_of_some hp) (fun e => hV.ne e.symm)).trans hp, hown, ?_, ?_⟩
  · rcases hat with h | h
    · exact .inl h.symm
    · exact .inr ⟨g, rfl, h⟩
  · exact (h0.mono (T := OutS p v) (fun _ _ h => h.elim)).grown hg (fun k _ e => .inr e)

theorem step_put {ops : Array Oper} {o : Oper} {a : Act} {K : Act → World → Prop} {Q : Exit → Act → World → Prop} {E : Prop} (wr : World) (p : Nat) (v : Value) (xs : List UInt8) (z : Int) (b : UInt8)
    (hV : OutV wr p v xs) (hz : z = (b.toNat : Int)) (hlen : xs.length + 1 ≤ 140737488355328) (hgd : o.guard = none) (s x : Operand)
    (ho : o.op = .call { callee := .builtin .append, args := #[s, x], argTypes := #[48, 48] })
    (hs : a.eval s = v) (hx : a.eval x = .slice (some ⟨wr.heap.size, 0, none⟩) 1 1)
    (h : ∀ g cap w1, w1.cell? ⟨p, 0, none⟩ = some v → w1.frozen? ⟨p, 0, none⟩ = false → Hid (PutMid wr p v (xs ++ [b]) (.slice (some ⟨g, 0, none⟩) (xs.length + 1) cap) w1) →
      K (a.put o.dst (.slice (some ⟨g, 0, none⟩) (xs.length + 1) cap)) w1) :
    if Region.wanted o (yielded ops a.tmps) = true then Oper.wp Try.prog o a (wr.alloc (.cells #[.int .u8 z] 5)).drew K Q else E := by
  obtain ⟨i0, hi, hz0, hz1, hz2⟩ := info_parts Try.infoU8
  subst hz
  refine step_append_lies (P := Try.prog) (wr.alloc (.cells #[.int .u8 (b.toNat : Int)] 5)).drew hgd s x 48 ho 0 5 i0 (.int .u8 0) 1 1 Try.underlying48 hi hz0 hz1 hz2 rfl (by decide) v xs.length (u8s xs) hs
    ((hV.own.alloc _).drew) ⟨wr.heap.size, 0, none⟩ 1 1 (u8s [b]) hx rfl (World.news_of_block (B := wr.heap.size) (heap_alloc_new wr _)) (u8s_oneCell _) Nat.zero_lt_one (by unfold maxLen; omega) (by omega) (Nat.zero_le _) (wr.heap.size + 1) (by simp) ?_
  intro g cap w1 hown hgrow hat hlt
  rw [← u8s_append] at hown
  have hm := PutMid.mk' (ys := xs ++ [b]) hV (((Only.refl _ wr).alloc (.cells #[.int .u8 (b.toNat : Int)] 5)).drew) hown (by simp) hgrow (hat.imp id (fun e => by omega))
  exact h g cap w1 (cell_of_one hm.at') (free_of_one hm.at') hm

theorem shift_at (x m : Nat) (hm : m ≤ 7) : Op.shift .shr .u64 (x : Int) .i64 (IntKind.i64.wrap (8 * (m : Int))) = pure (.int .u64 ((x / 256 ^ m : Nat) : Int)) := by
  have e : IntKind.i64.wrap (8 * (m : Int)) = ((8 * m : Nat) : Int) := by
    rw [IntWalk.i64_in _ (by omega)]; omega
  rw [e, shift_shr .u64 .i64 _ _ (by omega) (by simp [IntKind.bits]; omega)]
  congr 2
  have h2 : (256 : Nat) ^ m = 2 ^ (8 * m) := by rw [Nat.pow_mul]
  rw [h2]
  have h3 : ((8 * m : Nat) : Int).toNat = 8 * m := by omega
  rw [h3]
  norm_cast

theorem OutS.sub {w : World} {p : Nat} {v v' : Value} (hb : v'.ownBlock = v.ownBlock ∨ ∃ g, v'.ownBlock = some g ∧ w.heap.size ≤ g) : ∀ k, k < w.heap.size → OutS p v' k → OutS p v k := by
  intro k hk h
  rcases h with rfl | h
  · exact .inl rfl
  · rcases hb with hb | ⟨g, hg, hge⟩
    · exact .inr (hb ▸ h)
    · rw [hg] at h; simp at h; omega
theorem row_trans {w wr : World} {v v1 v2 : Value} (h : w.heap.size ≤ wr.heap.size) (h1 : v1.ownBlock = v.ownBlock ∨ ∃ g, v1.ownBlock = some g ∧ w.heap.size ≤ g)
    (h2 : v2.ownBlock = v1.ownBlock ∨ ∃ g, v2.ownBlock = some g ∧ wr.heap.size ≤ g) : v2.ownBlock = v.ownBlock ∨ ∃ g, v2.ownBlock = some g ∧ w.heap.size ≤ g := by
  rcases h2 with h2 | ⟨g, hg, hge⟩
  · rw [h2]; exact h1
  · exact .inr ⟨g, hg, by omega⟩
theorem NumInv.step {w wr w1 : World} {p x n m q : Nat} {v v' v1 : Value} {xs ys D : List UInt8} (hys : ys = xs ++ D) (hD : D ++ beB (m + 1) x = beB n x)
    (hb : v'.ownBlock = v.ownBlock ∨ ∃ g, v'.ownBlock = some g ∧ w.heap.size ≤ g) (ho : Only (OutS p v) w wr) (hq : q = x / 256 ^ m) (hm : PutMid wr p v' (ys ++ [UInt8.ofNat q]) v1 w1) :
    NumInv w p x n v xs m (w1.setCell ⟨p, 0, none⟩ v1) := by
  subst hys hq
  refine ⟨D ++ [UInt8.ofNat (x / 256 ^ m)], v1, by rw [← hD]; simp [beB], by simpa using hm.done, row_trans ho.size hb hm.row, ?_⟩
  exact (ho.trans (hm.only.trans (Only.cell w1 p 0 v1) (fun k _ e => .inl e)) (fun k hk h => OutS.sub hb k hk h))

set_option maxHeartbeats 400000 in
theorem putNumber (p x n : Nat) (v : Value) (xs : List UInt8) (w : World) (hO : OutV w p v xs) (hn8 : n ≤ 8) (hx : x < 18446744073709551616) (hlen : xs.length + n ≤ 140737488355328) :
    Calls Try.prog 59 #[.pointer (some ⟨p, 0, none⟩), .int .u64 x, .int .i64 n] w (PutPost w p v (xs ++ beB n x)) := by
  have HX := Lib.hid hx
  clear hx
  have HO := Lib.hid hO
  clear hO
  obtain ⟨i0, hi, hz0, hz1, hz2⟩ := info_parts Try.infoU8
  go_enter Try.func59, Try.ntmps59
  go_wp2
  go_loopw [6] (fun i wr => ∃ k : Nat, k ≤ n ∧ i = .int .i64 ((k : Int) - 1) ∧ NumInv w p x n v xs k wr) (fun i _ => (intOf i + 1).toNat)
  case atStart => exact ⟨n, Nat.le_refl _, rfl, [], v, rfl, by rw [List.append_nil]; exact HO.out, .inl rfl, Only.refl _ _⟩
  case round =>
    obtain ⟨k, hk, rfl, hinv⟩ := hrel
    have HI := Lib.hid hinv; clear hinv
    match k, hk, HI with
    | 0, hk, HI =>
      go_wp2
      obtain ⟨D, v', hD, hV, hb, ho⟩ := HI.out
      exact bodyPost_end (results_none rfl _ _ _) rfl ⟨rfl, v', by rw [← hD]; simpa [beB] using hV, hb, ho⟩
    | m + 1, hk, HI =>
      obtain ⟨D, v', hD, hV, hb, ho⟩ := HI.out
      rw [show (((m + 1 : Nat) : Int) - 1) = (m : Int) from by omega]
      obtain ⟨ys, hys⟩ : ∃ ys, ys = xs ++ D := ⟨_, rfl⟩
      rw [← hys] at hV
      have hc0 := hV.cell
      have hf := hV.free
      obtain ⟨q, hq⟩ : ∃ q, q = x / 256 ^ m := ⟨_, rfl⟩
      have hsh := shift_at x m (by omega)
      rw [← hq] at hsh
      have hlen2 : ys.length + 1 ≤ 140737488355328 := by
        have h1 := congrArg List.length hD
        rw [hys]
        simp only [List.length_append, beB_length] at h1 ⊢
        omega
      have hz : IntKind.u8.wrap (q : Int) = ((UInt8.ofNat q).toNat : Int) := by rw [IntKind.wrap_u8']; simp
      have hc0' : (wr.alloc (.cells #[.int .u8 (IntKind.u8.wrap (q : Int))] 5)).cell? ⟨p, 0, none⟩ = some v' := cell_of_one ((Below.heap_alloc wr _ p (lt_of_some hV.at')).trans hV.at')
      have HV := Lib.hid hV; clear hV
      have HD := Lib.hid hD; clear hD
      have HB := Lib.hid hb; clear hb
      have HW := Lib.hid ho; clear ho
      have HQ := Lib.hid hq; clear hq
      have HYS := Lib.hid hys; clear hys
      have HZ := Lib.hid hz; clear hz
      clear HI HO
      go_wp2
      go_region_law ((refine step_put wr p v' ys (IntKind.u8.wrap (q : Int)) (UInt8.ofNat q) HV.out HZ.out hlen2 rfl (.tmp 19) (.tmp 25) rfl ?_ ?_ ?_; (go_must (simp [Act.eval])); (go_must (simp [Act.eval])); (go_must (intro g cap w1 c1 f1 HM))))
      all_goals
        have HN := Lib.hid (NumInv.step HYS.out HD.out HB.out HW.out HQ.out HM.out)
        clear HM HYS HD HB HW HQ HV HZ hc0 hf hsh hlen2 hc0' c1 f1
        go_wp2
        go_roundw
        case rel => exact ⟨m, by omega, by go_num, HN.out⟩
        case measure => (simp [intOf] <;> omega)

end Go.Proofs.Ytbimhiffcdhcaaa

namespace Go.Proofs.Ytbimhiffcdhcaaa
open Go Go.RowKit Go.Lib
set_option linter.unusedVariables false
set_option linter.unusedSimpArgs false
set_option maxRecDepth 100000

theorem put_chain {w w1 w2 : World} {p : Nat} {v v1 : Value} (ho : Only (OutS p v) w w1) (hb : v1.ownBlock = v.ownBlock ∨ ∃ g, v1.ownBlock = some g ∧ w.heap.size ≤ g) (ho2 : Only (OutS p v1) w1 w2) : Only (OutS p v) w w2 :=
  ho.trans ho2 (fun k hk h => OutS.sub hb k hk h)

set_option maxHeartbeats 400000 in
theorem outU64 (p x : Nat) (v : Value) (xs : List UInt8) (w : World) (hO : OutV w p v xs) (hx : x < 18446744073709551616) (hlen : xs.length + 8 ≤ 140737488355328) :
    Calls Try.prog 53 #[.pointer (some ⟨p, 0, none⟩), .int .u64 x] w (PutPost w p v (xs ++ beB 8 x)) := by
  have HX := Lib.hid hx; clear hx
  have HL := Lib.hid hlen; clear hlen
  have HO := Lib.hid hO; clear hO
  have HE : Hid (IntKind.u64.wrap (x : Int) = (x : Int)) := by have := HX.out; show _ = _; rw [IntKind.wrap_u64]; omega
  go_enter Try.func53, Try.ntmps53
  go_wp2_with fail
  try rw [HE.out]
  refine (putNumber p x 8 v xs w HO.out (by omega) (by have := HX.out; omega) HL.out).mono ?_
  rintro e w1 ⟨rfl, hp⟩
  have HP := Lib.hid hp; clear hp
  go_wp2
  exact bodyPost_end (results_none rfl _ _ _) rfl ⟨rfl, HP.out⟩

set_option maxHeartbeats 400000 in
theorem outU32 (p x : Nat) (v : Value) (xs : List UInt8) (w : World) (hO : OutV w p v xs) (hx : x < 4294967296) (hlen : xs.length + 4 ≤ 140737488355328) :
    Calls Try.prog 54 #[.pointer (some ⟨p, 0, none⟩), .int .u32 x] w (PutPost w p v (xs ++ beB 4 x)) := by
  have HX := Lib.hid hx; clear hx
  have HL := Lib.hid hlen; clear hlen
  have HO := Lib.hid hO; clear hO
  have HE : Hid (IntKind.u64.wrap (x : Int) = (x : Int)) := by have := HX.out; show _ = _; rw [IntKind.wrap_u64]; omega
  go_enter Try.func54, Try.ntmps54
  go_wp2_with fail
  try rw [HE.out]
  refine (putNumber p x 4 v xs w HO.out (by omega) (by have := HX.out; omega) HL.out).mono ?_
  rintro e w1 ⟨rfl, hp⟩
  have HP := Lib.hid hp; clear hp
  go_wp2
  exact bodyPost_end (results_none rfl _ _ _) rfl ⟨rfl, HP.out⟩


set_option maxHeartbeats 400000 in
theorem outU8 (p x : Nat) (v : Value) (xs : List UInt8) (w : World) (hO : OutV w p v xs) (hx : x < 256) (hlen : xs.length + 1 ≤ 140737488355328) :
    Calls Try.prog 55 #[.pointer (some ⟨p, 0, none⟩), .int .u8 x] w (PutPost w p v (xs ++ beB 1 x)) := by
  have HX := Lib.hid hx; clear hx
  have HL := Lib.hid hlen; clear hlen
  have HO := Lib.hid hO; clear hO
  have HE : Hid (IntKind.u64.wrap (x : Int) = (x : Int)) := by have := HX.out; show _ = _; rw [IntKind.wrap_u64]; omega
  go_enter Try.func55, Try.ntmps55
  go_wp2_with fail
  try rw [HE.out]
  refine (putNumber p x 1 v xs w HO.out (by omega) (by have := HX.out; omega) HL.out).mono ?_
  rintro e w1 ⟨rfl, hp⟩
  have HP := Lib.hid hp; clear hp
  go_wp2
  exact bodyPost_end (results_none rfl _ _ _) rfl ⟨rfl, HP.out⟩

/-- What Flag puts. -/
def flagB : Bool → List UInt8
  | true => [1]
  | false => [0]


set_option maxHeartbeats 400000 in
theorem outU8_nil (x : Nat) (w : World) (hx : x < 256) :
    Calls Try.prog 55 #[.pointer none, .int .u8 x] w fun e w' => e = .returned (.tuple #[]) ∧ w = w' := by
  go_enter Try.func55, Try.ntmps55
  go_wp2_with fail
  refine (number_nil _ _ w).mono ?_
  rintro e w' ⟨rfl, rfl⟩
  go_wp2
  exact bodyPost_end (results_none rfl _ _ _) rfl ⟨rfl, rfl⟩



/-- append of a string's bytes, and where the new row lies. -/
theorem run_str_at (w : World) (v : Value) (n : Nat) (xs : List Value) (hown : w.ownsRow 0 5 1 v n xs) (s : ByteArray) (hlen : n + s.size ≤ 140737488355328) :
    ∃ v' w', (Builtin.append_ #[48, 9] 48 #[v, .string s]).run Try.prog w = .ok v' w' ∧ w'.ownsRow 0 5 1 v' (n + s.size) (xs ++ strCells s) ∧ w.grownBy w' v.ownBlock ∧
      (v'.ownBlock = v.ownBlock ∨ ∃ g, v'.ownBlock = some g ∧ w.heap.size ≤ g) := by
  obtain ⟨i0, hi, hz0, hz1, hz2⟩ := info_parts Try.infoU8
  have h63 : n + s.size ≤ maxLen := by unfold maxLen; omega
  obtain ⟨v', w', hr, h2, h3, h4⟩ := run_append_own_string (P := Try.prog) w 0 48 9 48 5 i0 Try.underlying48 Try.underlying9 hi hz0 hz1 hz2 v n xs hown s h63 hlen (Nat.zero_le _)
  refine ⟨v', w', hr, h2, h3, ?_⟩
  rcases hown.2 with ⟨rfl, rfl⟩ | ⟨g, cap, cur, rfl, hbg, hg, hnc, hcm, hcs, htake⟩
  · have hx : xs = [] := List.eq_nil_of_length_eq_zero (by simpa using hown.1)
    subst hx
    obtain ⟨v2, w2, hr2, k2, _, _⟩ := run_append_own_string (P := Try.prog) w w.heap.size 48 9 48 5 i0 Try.underlying48 Try.underlying9 hi hz0 hz1 hz2 (.slice none 0 0) 0 [] (World.ownsRow_nil _ _ _ _) s h63 hlen (Nat.le_refl _)
    rw [hr] at hr2
    simp only [Result.ok.injEq] at hr2
    obtain ⟨rfl, rfl⟩ := hr2
    rcases k2.2 with ⟨rfl, _⟩ | ⟨g, cap, cur, rfl, hb, _⟩
    · exact .inl rfl
    · exact .inr ⟨g, rfl, hb⟩
  · by_cases hroom : n + s.size ≤ cap
    · have hr2 := run_append_room_string (P := Try.prog) w 48 9 48 5 i0 Try.underlying48 Try.underlying9 hi hz1 g n cap cur hg s hroom (by omega)
      rw [hr] at hr2
      simp only [Result.ok.injEq] at hr2
      exact .inl (by rw [hr2.1]; rfl)
    · have hr2 := run_append_grow_string (P := Try.prog) w 48 9 48 5 i0 (.int .u8 0) Try.underlying48 Try.underlying9 hi hz0 ⟨g, 0, none⟩ n cap xs (by rw [hz1]; exact hown.1) (hown.cells (g := g) rfl) s (by omega)
        (by unfold maxLen at h63; omega) (by rw [hz2]; exact growslice_fits (by omega) (by omega))
      rw [hr] at hr2
      simp only [Result.ok.injEq] at hr2
      exact .inr ⟨w.heap.size, by rw [hr2.1]; rfl, Nat.le_refl _⟩

theorem wp_text {ops : Array Oper} {rest : List Oper} {o : Oper} {a : Act} {Q : Exit → Act → World → Prop} (w : World) (p : Nat) (v : Value) (xs : List UInt8) (s : ByteArray) (hV : OutV w p v xs) (hlen : xs.length + s.size ≤ 140737488355328)
    (hgd : o.guard = none) (sl x : Operand) (ho : o.op = .call { callee := .builtin .append, args := #[sl, x], argTypes := #[48, 9] }) (hty : o.type = 48)
    (hs : a.eval sl = v) (hx : a.eval x = .string s)
    (h : ∀ ao cap w', w'.cell? ⟨p, 0, none⟩ = some v → w'.frozen? ⟨p, 0, none⟩ = false → Hid (PutMid w p v (xs ++ s.data.toList) (.slice ao (xs.length + s.size) cap) w') → wpList Try.prog ops Q rest (a.put o.dst (.slice ao (xs.length + s.size) cap)) w') :
    wpList Try.prog ops Q (o :: rest) a w := by
  refine wpList_plain hgd fun K hK => ?_
  obtain ⟨v', w', hr, h2, h3, h4⟩ := run_str_at w v xs.length (u8s xs) hV.own s hlen
  obtain ⟨ao, cap, rfl⟩ := own_shape h2
  have hm : PutMid w p v (xs ++ s.data.toList) (.slice ao (xs.length + s.size) cap) w' := by
    refine ⟨(h3.block p (lt_of_some hV.at') (fun e => hV.ne e.symm)).trans hV.at', ?_, h4, (Only.refl _ w).grown h3 (fun k _ e => .inr e)⟩
    rw [u8s_append, List.length_append, Array.length_toList]
    exact h2
  unfold Oper.wp execOp
  simp only [ho, hty, resolve, invoke, builtin, Sem.run_bind, Sem.run_pure, Result.andThen_ok, List.map_toArray, List.map_cons, List.map_nil, hs, hx, hr]
  exact hK _ _ (h _ _ _ (cell_of_one hm.at') (free_of_one hm.at') hm)

end Go.Proofs.Ytbimhiffcdhcaaa

namespace Go.Proofs.Ytbimhiffcdhcaaa
open Go Go.RowKit Go.Lib
set_option linter.unusedVariables false
set_option linter.unusedSimpArgs false
set_option maxRecDepth 100000

def TextPutPost (w : World) (p : Nat) (v : Value) (xs : List UInt8) (e : Ending) (w' : World) : Prop :=
  e = .returned (.bool true) ∧ ∃ v', OutV w' p v' xs ∧ (v'.ownBlock = v.ownBlock ∨ ∃ g, v'.ownBlock = some g ∧ w.heap.size ≤ g) ∧ Only (OutS p v) w w'

/-- What Text puts of s. -/
def txtB (l : List UInt8) : List UInt8 := beB 2 l.length ++ l


theorem SlB.toC {w : World} {v : Value} {xs : List UInt8} (h : SlB w v xs) : SlC w v xs := by
  rcases h with h | ⟨g, off, cap, cur, rfl, h1, h2, h3, h4⟩
  · exact .inl h
  · exact .inr ⟨_, cap, rfl, fun j hj => by rw [add_lit]; simp [World.cell?, h3, h4 j hj]⟩
theorem own_toB {w : World} {B : Nat} {v : Value} {xs : List UInt8} (h : w.ownsRow B 5 1 v xs.length (u8s xs)) : SlB w v xs := by
  rcases h.2 with ⟨rfl, h0⟩ | ⟨g, cap, cur, rfl, _, hg, hc, hm, hs, ht⟩
  · exact .inl ⟨rfl, List.eq_nil_of_length_eq_zero h0⟩
  · refine .inr ⟨g, 0, cap, cur, rfl, hc, hm, hg, fun j hj => ?_⟩
    have h1 := u8s_at hj
    rw [← ht, List.getElem?_take, if_pos (by omega)] at h1
    simpa using h1

/-- A fresh copy: in a new block (or nil), nothing that was there is changed. -/
def ClonePost (w : World) (xs : List UInt8) (e : Ending) (w' : World) : Prop :=
  ∃ r, e = .returned r ∧ w'.ownsRow w.heap.size 5 1 r xs.length (u8s xs) ∧ Only (fun _ => False) w w'

set_option maxHeartbeats 400000 in
theorem clone_any (v : Value) (xs : List UInt8) (w : World) (h : SlC w v xs) (hlen : xs.length ≤ 140737488355328) :
    Calls Try.prog 60 #[v] w (ClonePost w xs) := by
  obtain ⟨i0, hi, hz0, hz1, hz2⟩ := info_parts Try.infoU8
  rcases h with ⟨rfl, rfl⟩ | ⟨a, cap, rfl, hc⟩
  · have hnil := fun (w : World) => Lib.run_eql_slice_nil (P := Try.prog) w 48 5 none 0 0 0 0 Try.underlying48
    go_enter Try.func60, Try.ntmps60
    go_wp2
    go_ret
    exact ⟨_, rfl, World.ownsRow_nil _ _ _ _, Only.refl _ _⟩
  · have hn : ∀ j u, (u8s xs)[j]? = some u → w.cell? (a.add j) = some u := fun j u hu => by
      obtain ⟨hj, rfl⟩ := u8s_get hu
      exact hc j hj
    have HN : Hid (∀ j u, (u8s xs)[j]? = some u → (w.alloc (.cells #[] 5)).cell? (a.add j) = some u) := fun j u hu => by
      have h1 := hn j u hu
      have hb : (a.add j).block < w.heap.size := World.block_lt_of_cell? w _ h1
      exact (World.cell?_of_block (Below.heap_alloc w _ _ hb)).trans h1
    clear hn hc
    have HL := Lib.hid hlen; clear hlen
    obtain ⟨l, hl⟩ : ∃ l, l = xs.length := ⟨_, rfl⟩
    rw [← hl]
    have HE := Lib.hid hl; clear hl
    have hnil := fun (w : World) => Lib.run_eql_slice_nil (P := Try.prog) w 48 5 (some a) l cap 0 0 Try.underlying48
    go_enter Try.func60, Try.ntmps60
    go_wp2_with (at_builtin; refine wpList_append_own _ rfl _ _ 48 rfl w.heap.size 5 i0 (.int .u8 0) 1 1 Try.underlying48 hi hz0 hz1 hz2 rfl (by decide) _ _ _ rfl (World.ownsRow_made w #[] 0 (Nat.le_refl _) (by decide) rfl) a l cap (u8s xs) rfl ?c1 HN.out (u8s_oneCell xs) ?c3 ?c4 ?c5 ?_)
    case c1 => rw [HE.out, u8s_length, Nat.mul_one]
    case c3 => have := HL.out; rw [HE.out]; unfold maxLen; omega
    case c4 => have := HL.out; rw [HE.out]; omega
    case c5 => simp
    intro v' w1 hown hg _
    have HG := Lib.hid hg; clear hg
    have HW := Lib.hid hown; clear hown
    go_wp2
    go_ret
    refine ⟨_, rfl, ?_, ((Only.refl _ w).alloc _).grown HG.out (fun k hk e => ?_)⟩
    · rw [← HE.out]; exact HW.out
    · simp [Value.ownBlock] at e; omega

set_option maxHeartbeats 400000 in
theorem outBytes (p : Nat) (v : Value) (xs : List UInt8) (w : World) (hV : OutV w p v xs) (hlen : xs.length ≤ 140737488355328) :
    Calls Try.prog 56 #[.pointer (some ⟨p, 0, none⟩)] w (ClonePost w xs) := by
  have hc := hV.cell
  have HC := Lib.hid (own_toB hV.own).toC
  clear hV
  go_enter Try.func56, Try.ntmps56
  go_wp2_with fail
  refine (clone_any v xs w HC.out hlen).mono ?_
  rintro e w1 ⟨r, rfl, hr, ho⟩
  have HR := Lib.hid hr; clear hr
  have HO := Lib.hid ho; clear ho
  go_wp2
  go_ret
  exact ⟨_, rfl, HR.out, HO.out⟩

set_option maxHeartbeats 400000 in
theorem outBytes_nil (w : World) :
    Calls Try.prog 56 #[.pointer none] w fun e w' => e = .returned (.slice none 0 0) ∧ w = w' := by
  go_enter Try.func56, Try.ntmps56
  go_wp2
  go_ret
  exact ⟨rfl, rfl⟩

def ToPost (w : World) (xs : List UInt8) (e : Ending) (w' : World) : Prop :=
  ∃ p v, e = .returned (.pointer (some ⟨p, 0, none⟩)) ∧ InV w' p v xs false ∧ w.heap.size ≤ p ∧ Only (fun _ => False) w w'

theorem SlB.alloc {w : World} {v : Value} {xs : List UInt8} (h : SlB w v xs) (o : Obj) : SlB (w.alloc o) v xs :=
  h.keep ((Only.refl (fun _ => False) w).alloc o) (fun _ _ _ h => h)

set_option maxHeartbeats 400000 in
theorem to_any (v : Value) (xs : List UInt8) (w : World) (h : SlC w v xs) (hlen : xs.length ≤ 140737488355328) :
    Calls Try.prog 61 #[v] w (ToPost w xs) := by
  have HC := Lib.hid h
  clear h
  go_enter Try.func61, Try.ntmps61
  go_wp2_with fail
  refine (clone_any v xs w HC.out hlen).mono ?_
  rintro e w1 ⟨r, rfl, hr, ho⟩
  obtain ⟨ao, cap, rfl⟩ := own_shape hr
  have HR := Lib.hid hr; clear hr
  have HO := Lib.hid ho; clear ho
  go_wp2
  go_ret
  exact ⟨w1.heap.size, _, rfl, ⟨heap_alloc_new w1 _, (own_toB HR.out).alloc _⟩, HO.out.size, HO.out.alloc _⟩

end Go.Proofs.Ytbimhiffcdhcaaa

namespace Go.Proofs.Ytbimhiffcdhcaaa
open Go Go.RowKit Go.Lib
set_option linter.unusedVariables false
set_option linter.unusedSimpArgs false
set_option maxRecDepth 100000

theorem OutV.new (w : World) : OutV (w.alloc (.cells #[.slice none 0 0] 112)) w.heap.size (.slice none 0 0) [] :=
  ⟨heap_alloc_new w _, World.ownsRow_nil _ _ _ _⟩

theorem Only.none {a b c : World} {S : Nat → Prop} (h : Only (fun _ => False) a b) (k : Only S b c) (hS : ∀ k, S k → a.heap.size ≤ k) : Only (fun _ => False) a c :=
  h.trans k (fun i hi hs => by have := hS i hs; omega)
theorem OutS.ge {B p : Nat} {v : Value} (hp : B ≤ p) (hv : v.ownBlock = .none ∨ ∃ g, v.ownBlock = some g ∧ B ≤ g) : ∀ k, OutS p v k → B ≤ k := by
  intro k h
  rcases h with rfl | h
  · exact hp
  · rcases hv with hv | ⟨g, hg, hB⟩
    · rw [hv] at h; cases h
    · rw [hg] at h; simp at h; omega
theorem row_ge {B : Nat} {w : World} {v v' : Value} (hB : B ≤ w.heap.size) (hv : v.ownBlock = .none ∨ ∃ g, v.ownBlock = some g ∧ B ≤ g) (h : v'.ownBlock = v.ownBlock ∨ ∃ g, v'.ownBlock = some g ∧ w.heap.size ≤ g) :
    v'.ownBlock = .none ∨ ∃ g, v'.ownBlock = some g ∧ B ≤ g := by
  rcases h with h | ⟨g, hg, hge⟩
  · rw [h]; exact hv
  · exact .inr ⟨g, hg, by omega⟩

theorem OutV.keep {S : Nat → Prop} {w w' : World} {p : Nat} {v : Value} {xs : List UInt8} (h : OutV w p v xs) (ho : Only S w w') (hp : ¬ S p) (hv : ∀ g, v.ownBlock = some g → ¬ S g) : OutV w' p v xs := by
  refine ⟨ho.keep h.at' hp, h.own.1, ?_⟩
  rcases h.own.2 with h0 | ⟨g, cap, cur, rfl, hb, hg, rest⟩
  · exact .inl h0
  · exact .inr ⟨g, cap, cur, rfl, hb, ho.keep hg (hv g rfl), rest⟩
theorem InV.keep {S : Nat → Prop} {w w' : World} {p : Nat} {v : Value} {xs : List UInt8} {bad : Bool} (h : InV w p v xs bad) (ho : Only S w w') (hp : ¬ S p)
    (hS : ∀ k cur, w.heap[k]? = some (.cells cur 5 (0, 0)) → ¬ S k) : InV w' p v xs bad :=
  ⟨ho.keep h.at' hp, h.sl.keep ho hS⟩
theorem SlB.lit (w : World) (xs : List UInt8) (cur : Array Value) (hm : xs.length ≤ maxLen) (h : cur = (u8s xs).toArray) :
    SlB (w.alloc (.cells cur 5)) (.slice (some ⟨w.heap.size, 0, none⟩) xs.length xs.length) xs :=
  .inr ⟨w.heap.size, 0, xs.length, cur, rfl, Nat.le_refl _, hm, heap_alloc_new w _, fun j hj => by subst h; simpa using u8s_at hj⟩


end Go.Proofs.Ytbimhiffcdhcaaa

namespace Go.Proofs.Ytbimhiffcdhcaaa
open Go Go.RowKit Go.Lib
set_option linter.unusedVariables false
set_option linter.unusedSimpArgs false
set_option maxRecDepth 100000

theorem OutV.rowne {w : World} {p b : Nat} {v : Value} {xs : List UInt8} (h : OutV w p v xs) {cs : Array Value} {t : TypeId} {fr : Nat × Nat} (hb : w.heap[b]? = some (.cells cs t fr)) (ht : t ≠ 5) : v.ownBlock ≠ some b := by
  intro e
  rcases h.own.2 with ⟨rfl, _⟩ | ⟨g, cap, cur, rfl, _, hg, _⟩
  · simp [Value.ownBlock] at e
  · simp [Value.ownBlock] at e
    subst e
    rw [hg] at hb
    simp at hb
    exact ht hb.2.1.symm
theorem OutV.rowlt {w : World} {p g : Nat} {v : Value} {xs : List UInt8} (h : OutV w p v xs) (hg : v.ownBlock = some g) : g < w.heap.size := (h.own.lt g hg).2

/-- Two Outs side by side, made since w0. -/
structure Two (w0 w : World) (a : Nat) (va : Value) (xs : List UInt8) (b : Nat) (vb : Value) (ys : List UInt8) : Prop where
  ha : OutV w a va xs
  hb : OutV w b vb ys
  ne : a ≠ b
  ga : w0.heap.size ≤ a
  gb : w0.heap.size ≤ b
  ra : ∀ g, va.ownBlock = some g → w0.heap.size ≤ g
  rb : ∀ g, vb.ownBlock = some g → w0.heap.size ≤ g
  rne : ∀ g, va.ownBlock = some g → vb.ownBlock ≠ some g
  only : Only (fun _ => False) w0 w

theorem Two.swap {w0 w : World} {a b : Nat} {va vb : Value} {xs ys : List UInt8} (h : Two w0 w a va xs b vb ys) : Two w0 w b vb ys a va xs :=
  ⟨h.hb, h.ha, h.ne.symm, h.gb, h.ga, h.rb, h.ra, fun g e1 e2 => h.rne g e2 e1, h.only⟩

theorem Two.quiet {w0 w w' : World} {a b : Nat} {va vb : Value} {xs ys : List UInt8} (h : Two w0 w a va xs b vb ys) (ho : Only (fun _ => False) w w') : Two w0 w' a va xs b vb ys :=
  ⟨h.ha.keep ho (fun h => h) (fun _ _ h => h), h.hb.keep ho (fun h => h) (fun _ _ h => h), h.ne, h.ga, h.gb, h.ra, h.rb, h.rne, h.only.trans ho (fun _ _ h => h)⟩

theorem Two.put {w0 w w' : World} {a b : Nat} {va vb v' : Value} {xs ys zs : List UInt8} (h : Two w0 w a va xs b vb ys) (hV : OutV w' a v' zs)
    (hr : v'.ownBlock = va.ownBlock ∨ ∃ g, v'.ownBlock = some g ∧ w.heap.size ≤ g) (ho : Only (OutS a va) w w') : Two w0 w' a v' zs b vb ys := by
  have hvb : ∀ g, vb.ownBlock = some g → ¬ OutS a va g := fun g hg hs => by
    rcases hs with rfl | hs
    · exact h.hb.rowne h.ha.at' (by decide) hg
    · exact h.rne g hs hg
  have hb' : OutV w' b vb ys := h.hb.keep ho (fun hs => by
    rcases hs with e | hs
    · exact h.ne e.symm
    · exact h.ha.rowne h.hb.at' (by decide) hs) hvb
  refine ⟨hV, hb', h.ne, h.ga, h.gb, fun g hg => ?_, h.rb, fun g hg e => ?_, h.only.trans ho (fun k hk hs => ?_)⟩
  · rcases hr with hr | ⟨g', hg', hge⟩
    · exact h.ra g (hr ▸ hg)
    · rw [hg'] at hg; simp at hg; have := h.only.size; omega
  · rcases hr with hr | ⟨g', hg', hge⟩
    · exact h.rne g (hr ▸ hg) e
    · rw [hg'] at hg; simp at hg; have := h.hb.rowlt e; omega
  · rcases hs with rfl | hs
    · have := h.ga; omega
    · have := h.ra k hs; omega

theorem Two.start (w : World) : Two w ((w.alloc (.cells #[.slice none 0 0] 112)).alloc (.cells #[.slice none 0 0] 112)) w.heap.size (.slice none 0 0) [] (w.heap.size + 1) (.slice none 0 0) [] := by
  have hb := OutV.new (w.alloc (.cells #[.slice none 0 0] 112))
  have hs : (w.alloc (.cells #[.slice none 0 0] 112)).heap.size = w.heap.size + 1 := by simp
  rw [hs] at hb
  refine ⟨(OutV.new w).keep ((Only.refl (fun _ => False) _).alloc _) (fun h => h) (fun _ _ h => h), hb, by omega, Nat.le_refl _, by omega, ?_, ?_, ?_, ((Only.refl (fun _ => False) w).alloc _).alloc _⟩
  all_goals (intro g hg; simp [Value.ownBlock] at hg)

theorem Two.drew {w0 w : World} {a b : Nat} {va vb : Value} {xs ys : List UInt8} (h : Two w0 w a va xs b vb ys) : Two w0 w.drew a va xs b vb ys := h.quiet ((Only.refl _ w).drew)

theorem bytes_two {w0 w : World} {a b : Nat} {va vb : Value} {xs ys : List UInt8} (h : Two w0 w a va xs b vb ys) (hl : xs.length = 9) :
    Calls Try.prog 56 #[.pointer (some ⟨a, 0, none⟩)] w fun e w' => ∃ ao cap, e = .returned (.slice ao 9 cap) ∧ Hid (SlB w' (.slice ao 9 cap) xs) ∧ Hid (Two w0 w' a va xs b vb ys) ∧ Hid (Only (fun _ => False) w w') := by
  refine (outBytes a va xs w h.ha (by omega)).mono ?_
  rintro e w' ⟨r, rfl, hr, ho⟩
  obtain ⟨ao, cap, rfl⟩ := own_shape hr
  have hs := own_toB hr
  rw [hl] at hs ⊢
  exact ⟨ao, cap, rfl, hs, h.quiet ho, ho⟩

theorem next_ok_eq {n : Nat} {xs : List UInt8} (h : n ≤ xs.length) : nextR n xs false = xs.take n ∧ nextL n xs false = xs.drop n ∧ (!can n xs false) = false := by
  simp [nextR, nextL, can, h]

theorem foldB (l : List UInt8) : ∀ a : Nat, l.foldl (fun x b => x * 256 + b.toNat) a = a * 256 ^ l.length + numB l := by
  induction l with
  | nil => intro a; simp [numB]
  | cons b l ih =>
    intro a
    simp only [List.foldl_cons, List.length_cons, numB, Nat.pow_succ]
    rw [ih, ih (0 * 256 + b.toNat)]
    simp only [Nat.zero_mul, Nat.zero_add, Nat.add_mul]
    rw [Nat.mul_assoc a 256, Nat.mul_comm 256, Nat.add_assoc]
theorem numB_append (l m : List UInt8) : numB (l ++ m) = numB l * 256 ^ m.length + numB m := by
  unfold numB
  rw [List.foldl_append]
  exact foldB m _
theorem numB_be (x : Nat) : ∀ k : Nat, numB (beB k x) = x % 256 ^ k := by
  intro k
  induction k with
  | zero => simp [beB, numB, Nat.mod_one]
  | succ k ih =>
    have h := numB_append [UInt8.ofNat (x / 256 ^ k)] (beB k x)
    simp only [List.singleton_append] at h
    rw [beB, h, ih, beB_length, Nat.pow_succ, Nat.mod_mul]
    simp [numB]
    rw [Nat.mul_comm]
    omega

theorem or_sum (a b c : Nat) (ha : a < 65536) (hb : b < 65536) (hc : c < 4294967296) :
    bits .or .u64 (bits .or .u64 ((a : Int) * 281474976710656) ((b : Int) * 4294967296)) (c : Int) = (((a * 65536 + b) * 4294967296 + c : Nat) : Int) := by
  have h1 : ((a : Int) * 281474976710656) = ((a * 281474976710656 : Nat) : Int) := by omega
  have h2 : ((b : Int) * 4294967296) = ((b * 4294967296 : Nat) : Int) := by omega
  rw [h1, h2, bits_or_u64_nat _ _ (by omega) (by omega)]
  have e1 : a * 281474976710656 ||| b * 4294967296 = (a * 65536 + b) * 4294967296 := by
    have := Nat.two_pow_add_eq_or_of_lt (i := 48) (b := b * 4294967296) (by omega) a
    rw [Nat.mul_comm a 281474976710656]
    refine this.symm.trans ?_
    omega
  have h3 := Nat.two_pow_add_eq_or_of_lt (i := 32) (b := c) (by omega) (a * 65536 + b)
  simp only [Nat.reducePow] at h3
  rw [Nat.mul_comm 4294967296 (a * 65536 + b)] at h3
  rw [e1, bits_or_u64_nat _ _ (by omega) (by omega), ← h3]

theorem wide_back (x : Nat) (f : Bool) (hx : x < 18446744073709551616) (zs : List UInt8) (hz : zs = [] ++ beB 8 x ++ flagB f) :
    (numB (zs.take 2) * 65536 + numB ((zs.drop 2).take 2)) * 4294967296 + numB (((zs.drop 2).drop 2).take 4) = x := by
  have h8 : numB (zs.take 8) = x := by
    have : zs.take 8 = beB 8 x := by
      rw [hz, List.nil_append, List.take_append_of_le_length (by rw [beB_length]; exact Nat.le_refl _)]
      exact List.take_of_length_le (by rw [beB_length]; exact Nat.le_refl _)
    rw [this, numB_be]
    omega
  have hl : zs.length = 9 := by rw [hz]; cases f <;> rfl
  have e : zs.take 8 = (zs.take 2 ++ (zs.drop 2).take 2) ++ ((zs.drop 2).drop 2).take 4 := by
    rw [List.drop_drop, ← List.take_add, ← List.take_add]
  rw [e, numB_append, numB_append] at h8
  simp only [List.length_take, List.length_drop, hl] at h8
  rw [show 256 ^ min 2 (9 - 2) = 65536 from by decide, show 256 ^ min 4 (9 - 2 - 2) = 4294967296 from by decide] at h8
  omega

/-- The bytes of the halves are the bytes of the whole. -/
theorem wide_bytes (x : Nat) (hx : x < 18446744073709551616) : (([] ++ beB 4 (x / 4294967296 % 4294967296)) ++ beB 2 (x / 65536 % 65536)) ++ beB 1 (x / 256 % 256) ++ beB 1 (x % 256) = [] ++ beB 8 x := by
  simp only [beB, List.nil_append, List.cons_append]
  have hb : ∀ (a b : Nat), a % 256 = b % 256 → UInt8.ofNat a = UInt8.ofNat b := fun a b h => by
    apply UInt8.toNat_inj.1
    simpa using h
  congr 1
  · apply hb; first | omega | (simp only [Nat.div_div_eq_div_mul]; done) | (simp only [Nat.div_div_eq_div_mul]; omega)
  congr 1
  · apply hb; first | omega | (simp only [Nat.div_div_eq_div_mul]; done) | (simp only [Nat.div_div_eq_div_mul]; omega)
  congr 1
  · apply hb; first | omega | (simp only [Nat.div_div_eq_div_mul]; done) | (simp only [Nat.div_div_eq_div_mul]; omega)
  congr 1
  · apply hb; first | omega | (simp only [Nat.div_div_eq_div_mul]; done) | (simp only [Nat.div_div_eq_div_mul]; omega)
  congr 1
  · apply hb; first | omega | (simp only [Nat.div_div_eq_div_mul]; done) | (simp only [Nat.div_div_eq_div_mul]; omega)
  congr 1
  · apply hb; first | omega | (simp only [Nat.div_div_eq_div_mul]; done) | (simp only [Nat.div_div_eq_div_mul]; omega)
  congr 1
  · apply hb; first | omega | (simp only [Nat.div_div_eq_div_mul]; done) | (simp only [Nat.div_div_eq_div_mul]; omega)
  congr 1
  · apply hb; first | omega | (simp only [Nat.div_div_eq_div_mul]; done) | (simp only [Nat.div_div_eq_div_mul]; omega)


end Go.Proofs.Ytbimhiffcdhcaaa

namespace Go.Proofs.Ytbimhiffcdhcaaa
open Go Go.ChangeShapes Go.WideShapes Go.ChangeAt Go.RowKit
set_option linter.unusedVariables false
set_option linter.unusedSimpArgs false
set_option maxRecDepth 100000

theorem Try.ownKnob0 : ownKnob Try.prog.godebug = none := by kernel_rfl
theorem Try.laidOut0 : laidOutB Try.prog = true := by kernel_rfl
theorem Try.cellsU8 : Try.prog.cellsOf 5 = 1 := by kernel_rfl
theorem Try.bytesU8 : Try.prog.bytesOf 5 = 1 := by kernel_rfl
theorem Try.cellsInt : Try.prog.cellsOf 3 = 1 := by kernel_rfl
theorem Try.bytesInt : Try.prog.bytesOf 3 = 8 := by kernel_rfl

theorem quiet_below {w w' : World} (h : Quiet w w') : Below w.heap.size w w' := Only.below h (Nat.le_refl _) (fun _ h => h.elim)

theorem addr_of_cell {w : World} {a : Addr} {v : Value} (h : w.cell? (a.add 0) = some v) : ∃ g off, a = ⟨g, off, none⟩ := by
  obtain ⟨b, off, spot⟩ := a
  have hspot : spot = none := by simpa [Addr.add] using World.cell?_spot h
  subst hspot
  exact ⟨b, off, rfl⟩

theorem open_bytesArg {H : Type} {enc : TypeId × Value → H} {W : World} {base : Nat} {v : Value} {d : DataW H} {ps : List MemPlace}
    (hok : Value.okWide Try.prog W .any base 48 v) (h : DataW.Trod enc Try.prog W 0 (fun _ => true) true 48 v d ps) :
    ∃ bs : List UInt8, SlC W v bs ∧ (bs = [] ∨ ∃ elems spare, d = .slice elems spare ∧ bs.length ≤ elems.length + spare.length) := by
  obtain ⟨a0, len, cap, rfl⟩ := okWide_slice Try.underlying48 hok
  obtain ⟨fuel, hf⟩ := h
  rcases open_ints Try.underlying48 Try.underlying5 Try.cellsU8 hf with ⟨hcs, hx⟩ | ⟨a, len', cap', zs, hcs, _, hl, hm, hz, hx, hcell, hwz⟩
  · simp [Value.cells] at hcs
    obtain ⟨rfl, rfl, rfl⟩ := hcs
    exact ⟨[], .inl ⟨rfl, rfl⟩, .inl rfl⟩
  · simp [Value.cells] at hcs
    obtain ⟨rfl, rfl, rfl⟩ := hcs
    simp only [Prod.mk.injEq] at hx
    obtain ⟨rfl, rfl⟩ := hx
    simp only [if_true] at hz
    have hbl : ((zs.take len).map fun z => UInt8.ofNat z.toNat).length = len := by simp; omega
    refine ⟨(zs.take len).map fun z => UInt8.ofNat z.toNat, .inr ⟨a, cap, by rw [hbl], fun j hj => ?_⟩, .inr ⟨_, _, rfl, ?_⟩⟩
    · rw [hbl] at hj
      rw [hcell j (by omega)]
      have hjz : j < zs.length := by omega
      have hw := hwz zs[j] (List.getElem_mem hjz)
      have hb : 0 ≤ zs[j] ∧ zs[j] ≤ 255 := by simpa [Lit.wf, IntKind.min, IntKind.max, IntKind.signed, IntKind.bits] using hw
      have e1 : zs.getD j 0 = zs[j] := by simp [hjz]
      have e2 : ((zs.take len).map fun z => UInt8.ofNat z.toNat).getD j 0 = UInt8.ofNat (zs[j]).toNat := by
        simp [List.getD_eq_getElem?_getD, hj, hjz]
      rw [e1, e2]
      congr 2
      simp
      omega
    · rw [hbl]; simp [lits]; omega

theorem open_intsArg {H : Type} {enc : TypeId × Value → H} {W : World} {base : Nat} {v : Value} {d : DataW H} {ps : List MemPlace}
    (hok : Value.okWide Try.prog W .any base 49 v) (h : DataW.Trod enc Try.prog W 0 (fun _ => true) true 49 v d ps) :
    ∃ (ks : List Int) (ao : Option Addr) (c : Nat), v = .slice ao ks.length c ∧ SlI W ao ks ∧ (ks = [] ∨ ∃ elems spare, d = .slice elems spare ∧ ks.length ≤ elems.length + spare.length) ∧ (∀ z ∈ ks, -9223372036854775808 ≤ z ∧ z ≤ 9223372036854775807) := by
  obtain ⟨a0, len, cap, rfl⟩ := okWide_slice Try.underlying49 hok
  obtain ⟨fuel, hf⟩ := h
  rcases open_ints Try.underlying49 Try.underlying3 Try.cellsInt hf with ⟨hcs, hx⟩ | ⟨a, len', cap', zs, hcs, _, hl, hm, hz, hx, hcell, hwz⟩
  · simp [Value.cells] at hcs
    obtain ⟨rfl, rfl, rfl⟩ := hcs
    exact ⟨[], none, 0, rfl, fun j hj => by simp at hj, .inl rfl, by simp⟩
  · simp [Value.cells] at hcs
    obtain ⟨rfl, rfl, rfl⟩ := hcs
    simp only [Prod.mk.injEq] at hx
    obtain ⟨rfl, rfl⟩ := hx
    simp only [if_true] at hz
    have hbl : (zs.take len).length = len := by simp; omega
    refine ⟨zs.take len, some a, cap, by rw [hbl], fun j hj => ?_, .inr ⟨_, _, rfl, ?_⟩, fun z hz => ?_⟩
    · rw [hbl] at hj
      obtain ⟨g, off, rfl⟩ := addr_of_cell (hcell 0 (by omega))
      refine ⟨g, off, rfl, ?_⟩
      rw [← add_lit, hcell j (by omega)]
      congr 2
      simp [List.getD_eq_getElem?_getD, hj]
    · rw [hbl]; simp [lits]; omega
    · have hw := hwz z (List.mem_of_mem_take hz)
      simpa [Lit.wf, IntKind.min, IntKind.max, IntKind.signed, IntKind.bits] using hw

end Go.Proofs.Ytbimhiffcdhcaaa

namespace Go.Proofs.Ytbimhiffcdhcaaa
open Go Go.ChangeShapes Go.WideShapes Go.ChangeAt Go.RowKit
set_option linter.unusedVariables false
set_option linter.unusedSimpArgs false
set_option maxRecDepth 100000

/-- One call: its kind, its number, its bytes, its list. -/
structure OpT where
  K : Int
  I : Int
  B : List UInt8
  L : List Int
instance : Inhabited OpT := ⟨⟨0, 0, [], []⟩⟩
def i64R (z : Int) : Prop := -9223372036854775808 ≤ z ∧ z ≤ 9223372036854775807

structure OpAt (w : World) (g o : Nat) (x : OpT) : Prop where
  k : w.cell? ⟨g, o, none⟩ = some (.int .i64 x.K)
  i : w.cell? ⟨g, o + 1, none⟩ = some (.int .i64 x.I)
  b : ∃ v, w.cell? ⟨g, o + 2, none⟩ = some v ∧ SlC w v x.B
  l : ∃ ao c, w.cell? ⟨g, o + 3, none⟩ = some (.slice ao x.L.length c) ∧ SlI w ao x.L
  rk : i64R x.K
  ri : i64R x.I
  rl : ∀ z ∈ x.L, i64R z
/-- A slice of calls, by its cells. -/
def SlOp (w : World) (ao : Option Addr) (os : List OpT) : Prop := ∀ j, j < os.length → ∃ g off, ao = some ⟨g, off, none⟩ ∧ OpAt w g (off + j * 4) (os.getD j default)

theorem SlI.keep {w w' : World} {ao : Option Addr} {ks : List Int} (h : SlI w ao ks) (ho : Only (fun _ => False) w w') : SlI w' ao ks := fun j hj => by
  obtain ⟨g, off, e, hc⟩ := h j hj
  exact ⟨g, off, e, ho.cellq hc⟩
theorem OpAt.keep {w w' : World} {g o : Nat} {x : OpT} (h : OpAt w g o x) (ho : Only (fun _ => False) w w') : OpAt w' g o x := by
  obtain ⟨v, hv, hb⟩ := h.b
  obtain ⟨ao, c, hl, hs⟩ := h.l
  exact ⟨ho.cellq h.k, ho.cellq h.i, ⟨v, ho.cellq hv, hb.keep ho⟩, ⟨ao, c, ho.cellq hl, hs.keep ho⟩, h.rk, h.ri, h.rl⟩
theorem SlOp.keep {w w' : World} {ao : Option Addr} {os : List OpT} (h : SlOp w ao os) (ho : Only (fun _ => False) w w') : SlOp w' ao os := fun j hj => by
  obtain ⟨g, off, e, hc⟩ := h j hj
  exact ⟨g, off, e, hc.keep ho⟩


theorem Try.cellsBs : Try.prog.cellsOf 48 = 1 := by kernel_rfl
theorem Try.cellsIs : Try.prog.cellsOf 49 = 1 := by kernel_rfl

theorem open_bytesCell {H : Type} {enc : TypeId × Value → H} {W : World} {fuel : Nat} {cs : List Value} {y : DataW H × List MemPlace} (h : DataW.trod enc Try.prog W 0 (fun _ => true) true fuel 48 cs = some y) :
    ∃ (v : Value) (bs : List UInt8), cs = [v] ∧ SlC W v bs := by
  rcases open_ints Try.underlying48 Try.underlying5 Try.cellsU8 h with ⟨hcs, hx⟩ | ⟨a, len', cap', zs, hcs, _, hl, hm, hz, hx, hcell, hwz⟩
  · exact ⟨_, [], hcs, .inl ⟨rfl, rfl⟩⟩
  · simp only [if_true] at hz
    have hbl : ((zs.take len').map fun z => UInt8.ofNat z.toNat).length = len' := by simp; omega
    refine ⟨_, (zs.take len').map fun z => UInt8.ofNat z.toNat, hcs, .inr ⟨a, cap', by rw [hbl], fun j hj => ?_⟩⟩
    rw [hbl] at hj
    rw [hcell j (by omega)]
    have hjz : j < zs.length := by omega
    have hw := hwz zs[j] (List.getElem_mem hjz)
    have hb : 0 ≤ zs[j] ∧ zs[j] ≤ 255 := by simpa [Lit.wf, IntKind.min, IntKind.max, IntKind.signed, IntKind.bits] using hw
    have e1 : zs.getD j 0 = zs[j] := by simp [hjz]
    have e2 : ((zs.take len').map fun z => UInt8.ofNat z.toNat).getD j 0 = UInt8.ofNat (zs[j]).toNat := by
      simp [List.getD_eq_getElem?_getD, hj, hjz]
    rw [e1, e2]
    congr 2
    simp
    omega
theorem open_intsCell {H : Type} {enc : TypeId × Value → H} {W : World} {fuel : Nat} {cs : List Value} {y : DataW H × List MemPlace} (h : DataW.trod enc Try.prog W 0 (fun _ => true) true fuel 49 cs = some y) :
    ∃ (ao : Option Addr) (c : Nat) (ks : List Int), cs = [.slice ao ks.length c] ∧ SlI W ao ks ∧ ∀ z ∈ ks, i64R z := by
  rcases open_ints Try.underlying49 Try.underlying3 Try.cellsInt h with ⟨hcs, hx⟩ | ⟨a, len', cap', zs, hcs, _, hl, hm, hz, hx, hcell, hwz⟩
  · exact ⟨none, 0, [], hcs, fun j hj => by simp at hj, by simp⟩
  · simp only [if_true] at hz
    have hbl : (zs.take len').length = len' := by simp; omega
    refine ⟨some a, cap', zs.take len', by rw [hbl]; exact hcs, fun j hj => ?_, fun z hz => ?_⟩
    · rw [hbl] at hj
      obtain ⟨g, off, rfl⟩ := addr_of_cell (hcell 0 (by omega))
      refine ⟨g, off, rfl, ?_⟩
      rw [← add_lit, hcell j (by omega)]
      congr 2
      simp [List.getD_eq_getElem?_getD, hj]
    · have hw := hwz z (List.mem_of_mem_take hz)
      simpa [i64R, Lit.wf, IntKind.min, IntKind.max, IntKind.signed, IntKind.bits] using hw


end Go.Proofs.Ytbimhiffcdhcaaa

namespace Go.Proofs.Ytbimhiffcdhcaaa
open Go Go.RowKit
set_option linter.unusedVariables false
set_option linter.unusedSimpArgs false
set_option maxRecDepth 100000

/-- A disk: n sectors, the bytes as they were written last, those that are kept, the writes that wait, the fuse, whether the power is gone, the two counts. -/
structure DS where
  n : Nat
  N : List UInt8
  K : List UInt8
  W : List (Nat × List UInt8)
  fuse : Int
  down : Bool
  wr : Nat
  sy : Nat

structure DS.Ok (D : DS) : Prop where
  n : D.n ≤ 4096
  N : D.N.length = D.n * 64
  K : D.K.length = D.n * 64
  W : ∀ x ∈ D.W, x.1 < D.n ∧ x.2.length = 64
  fuse : -9223372036854775808 ≤ D.fuse ∧ D.fuse ≤ 9223372036854775807

/-- Sector i of flat bytes; s laid over it; b with zeros behind it. -/
def sec (N : List UInt8) (i : Nat) : List UInt8 := (N.drop (i * 64)).take 64
def put (N : List UInt8) (i : Nat) (s : List UInt8) : List UInt8 := N.take (i * 64) ++ s ++ N.drop (i * 64 + 64)
def pad (b : List UInt8) : List UInt8 := b ++ List.replicate (64 - b.length) 0
def wcells (W : List (Nat × List UInt8)) : List Value := W.flatMap fun x => .int .i64 x.1 :: u8s x.2

theorem sec_length {N : List UInt8} {n i : Nat} (h : N.length = n * 64) (hi : i < n) : (sec N i).length = 64 := by
  simp [sec]; omega
theorem put_length {N : List UInt8} {n i : Nat} {s : List UInt8} (h : N.length = n * 64) (hi : i < n) (hs : s.length = 64) : (put N i s).length = n * 64 := by
  simp [put, hs]; omega
theorem pad_length {b : List UInt8} (h : b.length ≤ 64) : (pad b).length = 64 := by simp [pad]; omega
theorem sec_put_same {N : List UInt8} {n i : Nat} {s : List UInt8} (h : N.length = n * 64) (hi : i < n) (hs : s.length = 64) : sec (put N i s) i = s := by
  unfold sec put
  have h1 : (N.take (i * 64)).length = i * 64 := by simp; omega
  rw [List.append_assoc, List.drop_append_of_le_length (by omega), List.drop_of_length_le (by omega), List.nil_append, List.take_append_of_le_length (by omega), List.take_of_length_le (by omega)]
theorem sec_put_other {N : List UInt8} {n i k : Nat} {s : List UInt8} (h : N.length = n * 64) (hi : i < n) (hs : s.length = 64) (hk : k ≠ i) : sec (put N i s) k = sec N k := by
  apply List.ext_getElem?
  intro j
  unfold sec put
  by_cases hj : j < 64
  · rw [List.getElem?_take, if_pos hj, List.getElem?_take, if_pos hj, List.getElem?_drop, List.getElem?_drop, List.append_assoc]
    by_cases hlt : k < i
    · rw [List.getElem?_append_left (by simp; omega), List.getElem?_take, if_pos (by omega)]
    · have h1 : (N.take (i * 64)).length = i * 64 := by simp; omega
      rw [List.getElem?_append_right (by omega), h1, List.getElem?_append_right (by omega), hs, List.getElem?_drop]
      congr 1
      omega
  · rw [List.getElem?_take, if_neg hj, List.getElem?_take, if_neg hj]

theorem wcells_length {W : List (Nat × List UInt8)} (h : ∀ x ∈ W, x.2.length = 64) : (wcells W).length = W.length * 65 := by
  induction W with
  | nil => rfl
  | cons x W ih =>
    have h1 := h x (by simp)
    have h2 := ih (fun y hy => h y (by simp [hy]))
    simp [wcells] at h2 ⊢
    rw [h2, u8s_length, h1]
    omega
theorem wcells_snoc (W : List (Nat × List UInt8)) (i : Nat) (s : List UInt8) : wcells (W ++ [(i, s)]) = wcells W ++ (.int .i64 i :: u8s s) := by simp [wcells]
/-- The cells of the j-th write that waits. -/
theorem wcells_at {W : List (Nat × List UInt8)} (h : ∀ x ∈ W, x.2.length = 64) {j : Nat} (hj : j < W.length) (k : Nat) (hk : k < 65) : (wcells W)[j * 65 + k]? = (Value.int .i64 (W[j]).1 :: u8s (W[j]).2)[k]? := by
  induction W generalizing j with
  | nil => simp at hj
  | cons x W ih =>
    have h1 := h x (by simp)
    have e : wcells (x :: W) = (.int .i64 x.1 :: u8s x.2) ++ wcells W := by simp [wcells]
    have hl : (Value.int .i64 x.1 :: u8s x.2).length = 65 := by simp [u8s_length, h1]
    rw [e]
    cases j with
    | zero => rw [List.getElem?_append_left (by omega)]; simp
    | succ j =>
      rw [List.getElem?_append_right (by omega), hl, show (j + 1) * 65 + k - 65 = j * 65 + k by omega]
      exact ih (fun y hy => h y (by simp [hy])) (by simpa using hj)

/-- What the calls answer, and what they leave. -/
def DS.new (n : Nat) : DS := ⟨n, List.replicate (n * 64) 0, List.replicate (n * 64) 0, [], -1, false, 0, 0⟩
def DS.lastB (D : DS) : Bool := !D.down && !(D.fuse == 0)
def DS.last (D : DS) : DS := if D.down then D else if D.fuse == 0 then { D with down := true } else if 0 < D.fuse then { D with fuse := D.fuse - 1 } else D
def DS.has (D : DS) (i : Int) : Bool := decide (0 ≤ i ∧ i < D.n)
def DS.lay (D : DS) (i : Nat) (s : List UInt8) : DS := { D with N := put D.N i s, W := D.W ++ [(i, s)], wr := D.wr + 1 }
def DS.wrE (D : DS) (i : Int) (b : List UInt8) : Nat := if !D.has i || decide (64 < b.length) then 1 else if D.lastB then 0 else 4
def DS.write (D : DS) (i : Int) (b : List UInt8) : DS := if !D.has i || decide (64 < b.length) then D else if D.lastB then D.last.lay i.toNat (pad b) else D.last
def DS.fused (D : DS) (n : Int) : DS := if D.down then D else { D with fuse := n }
/-- Writes laid over bytes, in their order; those of them that a Crash keeps. -/
def lays (K : List UInt8) (W : List (Nat × List UInt8)) : List UInt8 := W.foldl (fun K x => put K x.1 x.2) K
def oddZ (z : Int) : Bool := z.tmod 2 != 0
def chosen (W : List (Nat × List UInt8)) (keep : List Int) : List (Nat × List UInt8) := (List.zip W keep).filterMap fun x => if oddZ x.2 then some x.1 else none
def syE (D : DS) : Nat := if D.down then 4 else 0
def DS.sync (D : DS) : DS := if D.down then D else { D with K := lays D.K D.W, W := [], sy := D.sy + 1 }
/-- Where a write waited the bytes are again as they are kept. -/
def backs (N K : List UInt8) (W : List (Nat × List UInt8)) : List UInt8 := W.foldl (fun N x => put N x.1 (sec K x.1)) N
def DS.crash (D : DS) (keep : List Int) : DS :=
  { D with N := backs D.N (lays D.K (chosen D.W keep)) D.W, K := lays D.K (chosen D.W keep), W := [], fuse := -1, down := false }

/-- The disk in memory: its struct in block p, its two rows of sectors, the row of what waits. -/
structure DiskAt (w : World) (p gn gk : Nat) (vw : Value) (D : DS) : Prop where
  ok : D.Ok
  at' : w.heap[p]? = some (.cells #[.slice (some ⟨gn, 0, none⟩) D.n D.n, .slice (some ⟨gk, 0, none⟩) D.n D.n, vw, .int .i64 D.fuse, .bool D.down, .int .i64 D.wr, .int .i64 D.sy] 79 (0, 0))
  now : w.heap[gn]? = some (.cells (u8s D.N).toArray 97 (0, 0))
  kept : w.heap[gk]? = some (.cells (u8s D.K).toArray 97 (0, 0))
  row : w.ownsRow 0 99 65 vw D.W.length (wcells D.W)
  ne : gn ≠ gk
def Foot (p gn gk : Nat) (vw : Value) (k : Nat) : Prop := k = p ∨ k = gn ∨ k = gk ∨ vw.ownBlock = some k
def DiskR (p : Nat) (D : DS) : Res := fun w F => ∃ gn gk vw, DiskAt w p gn gk vw D ∧ ∀ k, F k ↔ Foot p gn gk vw k

theorem DiskAt.keep {w w' : World} {p gn gk : Nat} {vw : Value} {D : DS} (h : DiskAt w p gn gk vw D) (hk : ∀ k, Foot p gn gk vw k → w'.heap[k]? = w.heap[k]?) : DiskAt w' p gn gk vw D :=
  ⟨h.ok, (hk p (.inl rfl)).trans h.at', (hk gn (.inr (.inl rfl))).trans h.now, (hk gk (.inr (.inr (.inl rfl)))).trans h.kept, own_keepAt h.row (fun k e => hk k (.inr (.inr (.inr e)))), h.ne⟩
instance {p : Nat} {D : DS} : Stab (DiskR p D) where
  lt := by
    rintro w F ⟨gn, gk, vw, h, hF⟩ k hk
    rcases (hF k).1 hk with rfl | rfl | rfl | hk
    · exact lt_of_some h.at'
    · exact lt_of_some h.now
    · exact lt_of_some h.kept
    · exact own_lt h.row hk
  keep := by
    rintro w w' F ⟨gn, gk, vw, h, hF⟩ hk
    exact ⟨gn, gk, vw, h.keep (fun k e => hk k ((hF k).2 e)), hF⟩

theorem DiskAt.cell {w : World} {p gn gk : Nat} {vw : Value} {D : DS} (h : DiskAt w p gn gk vw D) (j : Nat) :
    w.cell? ⟨p, j, none⟩ = (#[.slice (some ⟨gn, 0, none⟩) D.n D.n, .slice (some ⟨gk, 0, none⟩) D.n D.n, vw, .int .i64 D.fuse, .bool D.down, .int .i64 D.wr, .int .i64 D.sy] : Array Value)[j]? := by simp [World.cell?, h.at']
theorem DiskAt.free {w : World} {p gn gk : Nat} {vw : Value} {D : DS} (h : DiskAt w p gn gk vw D) (j : Nat) : w.frozen? ⟨p, j, none⟩ = false := by simp [World.frozen?, h.at']
theorem DiskAt.nw {w : World} {p gn gk : Nat} {vw : Value} {D : DS} (h : DiskAt w p gn gk vw D) : vw.ownBlock ≠ some gn ∧ vw.ownBlock ≠ some gk ∧ vw.ownBlock ≠ some p :=
  ⟨own_type h.row h.now (by decide), own_type h.row h.kept (by decide), own_type h.row h.at' (by decide)⟩
theorem DiskAt.np {w : World} {p gn gk : Nat} {vw : Value} {D : DS} (h : DiskAt w p gn gk vw D) : gn ≠ p ∧ gk ≠ p := by
  have a := h.at'
  refine ⟨fun e => ?_, fun e => ?_⟩
  · subst e; have b := h.now; rw [a] at b; simp at b
  · subst e; have b := h.kept; rw [a] at b; simp at b

end Go.Proofs.Ytbimhiffcdhcaaa

namespace Go.Proofs.Ytbimhiffcdhcaaa
open Go Go.RowKit
set_option linter.unusedVariables false
set_option linter.unusedSimpArgs false
set_option maxRecDepth 100000

set_option maxHeartbeats 400000 in
theorem disk_has {w : World} {p gn gk : Nat} {vw : Value} {D : DS} (h : DiskAt w p gn gk vw D) (i : Int) :
    Calls Try.prog 47 #[.pointer (some ⟨p, 0, none⟩), .int .i64 i] w fun e w' => e = .returned (.bool (D.has i)) ∧ w = w' := by
  have hc : w.cell? ⟨p, 0, none⟩ = some (.slice (some ⟨gn, 0, none⟩) D.n D.n) := h.cell 0
  have hn := h.ok.n
  unfold DS.has
  generalize D.n = n at *
  clear h
  by_cases h0 : 0 ≤ i
  · by_cases h1 : i < (n : Int)
    · rw [decide_eq_true (show 0 ≤ i ∧ i < (n : Int) from ⟨h0, h1⟩)]
      go_enter Try.func47, Try.ntmps47
      go_wp2
      go_ret
      exact ⟨rfl, rfl⟩
    · rw [decide_eq_false (show ¬ (0 ≤ i ∧ i < (n : Int)) from fun h => h1 h.2)]
      go_enter Try.func47, Try.ntmps47
      go_wp2
      go_ret
      exact ⟨rfl, rfl⟩
  · rw [decide_eq_false (show ¬ (0 ≤ i ∧ i < (n : Int)) from fun h => h0 h.1)]
    have h0' : i < 0 := by omega
    go_enter Try.func47, Try.ntmps47
    go_wp2
    go_ret
    exact ⟨rfl, rfl⟩

set_option maxHeartbeats 400000 in
theorem disk_size {w : World} {p gn gk : Nat} {vw : Value} {D : DS} (h : DiskAt w p gn gk vw D) :
    Calls Try.prog 39 #[.pointer (some ⟨p, 0, none⟩)] w fun e w' => e = .returned (.int .i64 D.n) ∧ w = w' := by
  have hc : w.cell? ⟨p, 0, none⟩ = some (.slice (some ⟨gn, 0, none⟩) D.n D.n) := h.cell 0
  clear h
  go_enter Try.func39, Try.ntmps39
  go_wp2
  go_ret
  exact ⟨rfl, rfl⟩
set_option maxHeartbeats 400000 in
theorem disk_size_nil (w : World) :
    Calls Try.prog 39 #[.pointer none] w fun e w' => e = .returned (.int .i64 0) ∧ w = w' := by
  go_enter Try.func39, Try.ntmps39
  go_wp2
  go_ret
  exact ⟨rfl, rfl⟩







set_option maxHeartbeats 400000 in
theorem disk_down {w : World} {p gn gk : Nat} {vw : Value} {D : DS} (h : DiskAt w p gn gk vw D) :
    Calls Try.prog 38 #[.pointer (some ⟨p, 0, none⟩)] w fun e w' => e = .returned (.bool D.down) ∧ w = w' := by
  have hc : w.cell? ⟨p, 4, none⟩ = some (.bool D.down) := h.cell 4
  clear h
  go_enter Try.func38, Try.ntmps38
  go_wp2
  go_ret
  exact ⟨rfl, rfl⟩
set_option maxHeartbeats 400000 in
theorem disk_down_nil (w : World) :
    Calls Try.prog 38 #[.pointer none] w fun e w' => e = .returned (.bool false) ∧ w = w' := by
  go_enter Try.func38, Try.ntmps38
  go_wp2
  go_ret
  exact ⟨rfl, rfl⟩

/-- A store into the disk's struct. -/
theorem DiskAt.set {w : World} {p gn gk : Nat} {vw : Value} {D D' : DS} (h : DiskAt w p gn gk vw D) (j : Nat) (u : Value) (ok : D'.Ok) (hN : D'.N = D.N) (hK : D'.K = D.K) (hW : D'.W = D.W)
    (hc : (#[.slice (some ⟨gn, 0, none⟩) D.n D.n, .slice (some ⟨gk, 0, none⟩) D.n D.n, vw, .int .i64 D.fuse, .bool D.down, .int .i64 D.wr, .int .i64 D.sy] : Array Value).setIfInBounds j u =
      #[.slice (some ⟨gn, 0, none⟩) D'.n D'.n, .slice (some ⟨gk, 0, none⟩) D'.n D'.n, vw, .int .i64 D'.fuse, .bool D'.down, .int .i64 D'.wr, .int .i64 D'.sy]) :
    DiskAt (w.setCell ⟨p, j, none⟩ u) p gn gk vw D' := by
  obtain ⟨n1, n2⟩ := h.np
  refine ⟨ok, by rw [heap_set h.at', hc], ?_, ?_, ?_, h.ne⟩
  · rw [Below.heap_setCell _ _ _ _ n1, hN]; exact h.now
  · rw [Below.heap_setCell _ _ _ _ n2, hK]; exact h.kept
  · rw [hW]; exact own_keepAt h.row (fun k e => Below.heap_setCell _ _ _ _ (fun e2 => h.nw.2.2 (by rw [e]; exact congrArg some e2)))

set_option maxHeartbeats 400000 in
theorem disk_fuse {w : World} {p gn gk : Nat} {vw : Value} {D : DS} (h : DiskAt w p gn gk vw D) (n : Int) (hn : -9223372036854775808 ≤ n ∧ n ≤ 9223372036854775807) :
    Calls Try.prog 28 #[.pointer (some ⟨p, 0, none⟩), .int .i64 n] w fun e w' => e = .returned (.tuple #[]) ∧ DiskAt w' p gn gk vw (D.fused n) ∧ Only (fun k => k = p) w w' := by
  have hc : w.cell? ⟨p, 4, none⟩ = some (.bool D.down) := h.cell 4
  have hc3 : w.cell? ⟨p, 3, none⟩ = some (.int .i64 D.fuse) := h.cell 3
  have hf := h.free 3
  by_cases hd : D.down = true
  · have H := Lib.hid h
    have HL : Hid (D.fused n = D) := Lib.hid (by simp [DS.fused, hd])
    rw [hd] at hc
    clear h hd
    go_enter Try.func28, Try.ntmps28
    go_wp2
    refine bodyPost_ret (results_none rfl _ _ _) rfl ⟨rfl, ?_, Only.refl _ _⟩
    rw [HL.out]
    exact H.out
  · have hd' : D.down = false := by simpa using hd
    have H := Lib.hid (h.set (D' := { D with fuse := n }) 3 (.int .i64 n) ⟨h.ok.n, h.ok.N, h.ok.K, h.ok.W, hn⟩ rfl rfl rfl rfl)
    have HL : Hid (D.fused n = { D with fuse := n }) := Lib.hid (by simp [DS.fused, hd'])
    rw [hd'] at hc
    clear h hd hd'
    go_enter Try.func28, Try.ntmps28
    go_wp2
    go_end0
    refine ⟨rfl, ?_, Only.cell _ _ _ _⟩
    rw [HL.out]
    exact H.out
set_option maxHeartbeats 400000 in
theorem disk_fuse_nil (w : World) (n : Int) :
    Calls Try.prog 28 #[.pointer none, .int .i64 n] w fun e w' => e = .returned (.tuple #[]) ∧ w = w' := by
  go_enter Try.func28, Try.ntmps28
  go_wp2
  exact bodyPost_ret (results_none rfl _ _ _) rfl ⟨rfl, rfl⟩

theorem DS.last_gone {D : DS} (h : D.down = true) : D.lastB = false ∧ D.last = D := by simp [DS.lastB, DS.last, h]
theorem DS.last_goes {D : DS} (h : D.down = false) (h0 : D.fuse = 0) : D.lastB = false ∧ D.last = { D with down := true } := by simp [DS.lastB, DS.last, h, h0]
theorem DS.last_burns {D : DS} (h : D.down = false) (h0 : 0 < D.fuse) : D.lastB = true ∧ D.last = { D with fuse := D.fuse - 1 } := by
  have h1 : D.fuse ≠ 0 := by omega
  simp [DS.lastB, DS.last, h, h0, h1]
theorem DS.last_free {D : DS} (h : D.down = false) (h0 : D.fuse < 0) : D.lastB = true ∧ D.last = D := by
  have h1 : D.fuse ≠ 0 := by omega
  have h2 : ¬ 0 < D.fuse := by omega
  simp [DS.lastB, DS.last, h, h1, h2]

set_option maxHeartbeats 400000 in
theorem disk_lasts {w : World} {p gn gk : Nat} {vw : Value} {D : DS} (h : DiskAt w p gn gk vw D) :
    Calls Try.prog 48 #[.pointer (some ⟨p, 0, none⟩)] w fun e w' => e = .returned (.bool D.lastB) ∧ DiskAt w' p gn gk vw D.last ∧ Only (fun k => k = p) w w' := by
  have hc : w.cell? ⟨p, 4, none⟩ = some (.bool D.down) := h.cell 4
  have hc3 : w.cell? ⟨p, 3, none⟩ = some (.int .i64 D.fuse) := h.cell 3
  have hf3 := h.free 3
  have hf4 := h.free 4
  have hr := h.ok.fuse
  by_cases hd : D.down = true
  · have H := Lib.hid h
    have HL := Lib.hid (DS.last_gone hd)
    rw [hd] at hc
    clear h hd
    go_enter Try.func48, Try.ntmps48
    go_wp2
    go_ret
    refine ⟨by rw [HL.out.1]; rfl, ?_, Only.refl _ _⟩
    rw [HL.out.2]
    exact H.out
  · have hd' : D.down = false := by simpa using hd
    clear hd
    rw [hd'] at hc
    by_cases h0 : D.fuse = 0
    · have H := Lib.hid (h.set (D' := { D with down := true }) 4 (.bool true) ⟨h.ok.n, h.ok.N, h.ok.K, h.ok.W, h.ok.fuse⟩ rfl rfl rfl rfl)
      have HL := Lib.hid (DS.last_goes hd' h0)
      rw [h0] at hc3
      clear h hd' h0 hr
      go_enter Try.func48, Try.ntmps48
      go_wp2
      go_ret
      refine ⟨by rw [HL.out.1]; rfl, ?_, Only.cell _ _ _ _⟩
      rw [HL.out.2]
      exact H.out
    · have he : (D.fuse == 0) = false := by simpa using h0
      by_cases hp : 0 < D.fuse
      · have H := Lib.hid (h.set (D' := { D with fuse := D.fuse - 1 }) 3 (.int .i64 (D.fuse - 1)) ⟨h.ok.n, h.ok.N, h.ok.K, h.ok.W, by show _ ≤ D.fuse - 1 ∧ D.fuse - 1 ≤ _; omega⟩ rfl rfl rfl rfl)
        have HL := Lib.hid (DS.last_burns hd' hp)
        clear h hd' h0
        go_enter Try.func48, Try.ntmps48
        go_wp2
        go_ret
        refine ⟨by rw [HL.out.1]; rfl, ?_, Only.cell _ _ _ _⟩
        rw [HL.out.2]
        exact H.out
      · have H := Lib.hid h
        have HL := Lib.hid (DS.last_free hd' (by omega))
        clear h hd' h0
        go_enter Try.func48, Try.ntmps48
        go_wp2
        go_ret
        refine ⟨by rw [HL.out.1]; rfl, ?_, Only.refl _ _⟩
        rw [HL.out.2]
        exact H.out

set_option maxHeartbeats 400000 in
theorem disk_odd (w : World) (z : Int) (hz : -9223372036854775808 ≤ z ∧ z ≤ 9223372036854775807) :
    Calls Try.prog 49 #[.int .i64 z] w fun e w' => e = .returned (.bool (oddZ z)) ∧ w = w' := by
  go_enter Try.func49, Try.ntmps49
  go_wp2
  go_ret
  exact ⟨rfl, rfl⟩

end Go.Proofs.Ytbimhiffcdhcaaa

namespace Go.Proofs.Ytbimhiffcdhcaaa
open Go Go.RowKit
set_option linter.unusedVariables false
set_option linter.unusedSimpArgs false
set_option maxRecDepth 100000

theorem run_alloc_new {P : Program} (w : World) (T : TypeId) (z : Value) (n : Nat) (hi : (P.info? T).map (fun i => (i.zero, i.size)) = some (some z, n)) :
    (Instr.alloc T true (.tuple #[])).run P w = .ok (.pointer (some ⟨w.heap.size, 0, none⟩)) (w.alloc (.cells z.cells T)) := by
  unfold Instr.alloc
  rw [Sem.run_bind, (zero_of_info hi).1 w]
  rfl

theorem wpList_alloc_agg {P : Program} {ops : Array Oper} {rest : List Oper} {o : Oper} {a : Act} {w : World} {Q : Exit → Act → World → Prop} (hg : o.guard = none) (T : TypeId) (ho : o.op = .alloc T)
    (z : Array Value) (n : Nat) (hi : (P.info? T).map (fun i => (i.zero, i.size)) = some (some (.agg z), n))
    (h : wpList P ops Q rest (a.put o.dst (.pointer (some ⟨w.heap.size, 0, none⟩))) (w.alloc (.cells z T))) : wpList P ops Q (o :: rest) a w :=
  wpList_plain hg fun K hK => by
    unfold Oper.wp execOp
    simp only [ho, Sem.run_bind, run_alloc_new w T (.agg z) n hi, Result.andThen_ok, Sem.run_pure]
    exact hK _ _ h

theorem wpList_store_agg {P : Program} {ops : Array Oper} {rest : List Oper} {o : Oper} {a : Act} {w : World} {Q : Exit → Act → World → Prop} (hg : o.guard = none) (T : TypeId) (x y : Operand) (ho : o.op = .store T x y)
    (z cells : Array Value) (hx : a.eval x = .pointer (some ⟨w.heap.size, 0, none⟩)) (hy : a.eval y = .agg cells) (hi : (P.info? T).map (·.size) = some cells.size) (hz : z.size = cells.size) (h1 : cells.all (·.oneCell') = true)
    (h : wpList P ops Q rest (a.put o.dst undef) (w.alloc (.cells cells T))) : wpList P ops Q (o :: rest) a (w.alloc (.cells z T)) :=
  wpList_plain hg fun K hK => by
    unfold Oper.wp execOp
    simp only [ho, hx, hy, Sem.run_bind, run_storeAt_new w T z cells hi hz h1, Result.andThen_ok, Sem.run_pure]
    exact hK _ _ h

/-- A new variable, filled at once. -/
theorem wpList_alloc_store {P : Program} {ops : Array Oper} {rest : List Oper} {o1 o2 : Oper} {a : Act} {w : World} {Q : Exit → Act → World → Prop} (hg1 : o1.guard = none) (hg2 : o2.guard = none) (T : TypeId) (x y : Operand)
    (ho1 : o1.op = .alloc T) (ho2 : o2.op = .store T x y) (z : Array Value) (n : Nat) (hi : (P.info? T).map (fun i => (i.zero, i.size)) = some (some (.agg z), n)) (hz : z.size = n) (cells : Array Value) (hn : cells.size = n) (h1 : cells.all (·.oneCell') = true)
    (hx : (a.put o1.dst (.pointer (some ⟨w.heap.size, 0, none⟩))).eval x = .pointer (some ⟨w.heap.size, 0, none⟩)) (hy : (a.put o1.dst (.pointer (some ⟨w.heap.size, 0, none⟩))).eval y = .agg cells)
    (h : wpList P ops Q rest ((a.put o1.dst (.pointer (some ⟨w.heap.size, 0, none⟩))).put o2.dst undef) (w.alloc (.cells cells T))) : wpList P ops Q (o1 :: o2 :: rest) a w :=
  wpList_alloc_agg hg1 T ho1 z n hi (wpList_store_agg hg2 T x y ho2 z cells hx hy (by rw [(zero_of_info hi).2, hn]) (by rw [hz, hn]) h1 h)

/-- A struct or array made out of one part, its cells named. -/
theorem wpList_build_one {P : Program} {ops : Array Oper} {rest : List Oper} {o : Oper} {a : Act} {w : World} {Q : Exit → Act → World → Prop} (hg : o.guard = none) (t : TypeId) (k : Nat) (x : Operand) (ho : o.op = .build t #[(k, x)])
    (v : Value) (hv : a.eval x = v) (cells : Array Value) (hb : P.built t [(k, v)] = some cells)
    (h : wpList P ops Q rest (a.put o.dst (.agg cells)) w) : wpList P ops Q (o :: rest) a w := by
  have hL : ((#[(k, x)] : Array (Nat × Operand)).map fun (i, x) => (i, a.eval x)).toList = [(k, v)] := by simp [hv]
  refine wpList_build hg t _ ho (by rw [hL, hb]; rfl) ?_
  rw [hL, hb]
  exact h

theorem u8s_take (xs : List UInt8) (n : Nat) : u8s (xs.take n) = (u8s xs).take n := by simp [u8s]
theorem u8s_drop (xs : List UInt8) (n : Nat) : u8s (xs.drop n) = (u8s xs).drop n := by simp [u8s]
/-- Part of a row of bytes. -/
theorem range_of_row {w : World} {g : Nat} {xs : List UInt8} {t : TypeId} {fr : Nat × Nat} (h : w.heap[g]? = some (.cells (u8s xs).toArray t fr)) (o n : Nat) : w.rangeAt g o (u8s ((xs.drop o).take n)) := fun j v hv => by
  rw [cell_of_row w g (o + j) _ t fr h]
  rw [u8s_take, u8s_drop, List.getElem?_take] at hv
  split at hv
  · rw [List.getElem?_drop] at hv
    simpa using hv
  · cases hv
theorem there_of_row {w : World} {g : Nat} {cs : Array Value} {t : TypeId} (h : w.heap[g]? = some (.cells cs t (0, 0))) {o n : Nat} (hn : o + n ≤ cs.size) : w.there g o n := fun j hj => by
  rw [cell_of_row w g (o + j) _ t _ h]
  exact ⟨by simp; omega, frozen_of_row w g _ _ t h⟩
theorem range_of_list {w : World} {g : Nat} {L : List Value} {t : TypeId} {fr : Nat × Nat} (h : w.heap[g]? = some (.cells L.toArray t fr)) (o n : Nat) : w.rangeAt g o ((L.drop o).take n) := fun j v hv => by
  rw [cell_of_row w g (o + j) _ t fr h]
  rw [List.getElem?_take] at hv
  split at hv
  · rw [List.getElem?_drop] at hv
    simpa using hv
  · cases hv

/-- Many cells stored: the block whole. -/
theorem heap_setCells (g : Nat) (t : TypeId) : ∀ (vs : List Value) (o : Nat) (w : World) (L : List Value), w.heap[g]? = some (.cells L.toArray t (0, 0)) → o + vs.length ≤ L.length →
    (w.setCells g o vs).heap[g]? = some (.cells (L.take o ++ vs ++ L.drop (o + vs.length)).toArray t (0, 0))
  | [], o, w, L, h, _ => by simpa [World.setCells] using h
  | v :: r, o, w, L, h, hl => by
    rw [World.setCells]
    have h1 : (w.setCell ⟨g, o, none⟩ v).heap[g]? = some (.cells (L.set o v).toArray t (0, 0)) := by rw [heap_set h]; simp
    rw [heap_setCells g t r (o + 1) _ (L.set o v) h1 (by simp at hl ⊢; omega)]
    simp at hl
    have e1 : (L.set o v).take (o + 1) = L.take o ++ [v] := by
      rw [List.take_succ_eq_append_getElem (by simp; omega), List.take_set_of_le (Nat.le_refl o)]
      simp
    have e2 : (L.set o v).drop (o + 1 + r.length) = L.drop (o + (v :: r).length) := by
      rw [List.drop_set_of_lt (by omega)]
      congr 1
      simp
      omega
    rw [e1, e2]
    simp
theorem heap_setCells_other (g : Nat) : ∀ (vs : List Value) (o : Nat) (w : World) (k : Nat), k ≠ g → (w.setCells g o vs).heap[k]? = w.heap[k]?
  | [], _, _, _, _ => rfl
  | v :: r, o, w, k, h => by rw [World.setCells, heap_setCells_other g r (o + 1) _ k h, Below.heap_setCell _ _ _ _ h]
theorem size_setCells (g : Nat) : ∀ (vs : List Value) (o : Nat) (w : World), (w.setCells g o vs).heap.size = w.heap.size
  | [], _, _ => rfl
  | v :: r, o, w => by rw [World.setCells, size_setCells g r]; simp [World.setCell]
theorem parts_setCells (g : Nat) : ∀ (vs : List Value) (o : Nat) (w : World), (w.setCells g o vs).os = w.os ∧ (w.setCells g o vs).tape = w.tape ∧ (w.setCells g o vs).output = w.output
  | [], _, _ => ⟨rfl, rfl, rfl⟩
  | v :: r, o, w => by rw [World.setCells]; exact parts_setCells g r (o + 1) _
theorem Only.setCells (w : World) (g o : Nat) (vs : List Value) : Only (fun k => k = g) w (w.setCells g o vs) :=
  ⟨(parts_setCells g vs o w).1, (parts_setCells g vs o w).2.1, (parts_setCells g vs o w).2.2, by rw [size_setCells]; exact Nat.le_refl _, fun k _ hk => heap_setCells_other g vs o w k hk⟩


theorem foldl_set (l : List Value) : ∀ (k : Nat) (A : Array Value), k + l.length ≤ A.size →
    ((l.zipIdx k).foldl (fun cs x => cs.setIfInBounds (0 + x.2) x.1) A).toList = A.toList.take k ++ l ++ A.toList.drop (k + l.length) := by
  induction l with
  | nil => intro k A h; simp
  | cons v l ih =>
    intro k A h
    simp at h
    rw [List.zipIdx_cons, List.foldl_cons, ih (k + 1) _ (by simp; omega)]
    have e1 : (A.setIfInBounds (0 + k) v).toList = A.toList.set k v := by simp
    have hk : k < A.toList.length := by simp; omega
    rw [e1]
    have e2 : (A.toList.set k v).take (k + 1) = A.toList.take k ++ [v] := by
      rw [List.take_succ_eq_append_getElem (by simpa using hk), List.take_set_of_le (Nat.le_refl k)]
      simp
    have e3 : (A.toList.set k v).drop (k + 1 + l.length) = A.toList.drop (k + (v :: l).length) := by
      rw [List.drop_set_of_lt (by omega)]
      congr 1
      simp
      omega
    rw [e2, e3]
    simp

/-- A slice of one struct or array, made out of its cells. -/
theorem run_buildSlice_one {P : Program} (w : World) (t e : TypeId) (z : Value) (n : Nat) (hu : P.underlying t = some (.slice e)) (hi : (P.info? e).map (fun i => (i.zero, i.size)) = some (some z, n)) (hz : z.cells.size = n) (h0 : 0 < n) (hn : n ≤ 16777216)
    (cells : Array Value) (hc : cells.size = n) : (Instr.buildSlice t 1 #[(0, .agg cells)]).run P w = .ok (.slice (some ⟨w.heap.size, 0, none⟩) 1 1) (w.alloc (.cells cells e)) := by
  obtain ⟨hzr, hsz⟩ := zero_of_info hi
  cases hq : P.info? e with
  | none => simp [hq] at hi
  | some i =>
    have hs : i.size = n := by simpa [hq] using hsz
    have hsize : (sizeOf e).run P w = .ok n w := by simp [sizeOf, typeInfo, hq, hs]
    have hz0 := hzr w
    have hfill : Instr.fill (fun i => some (i * n, n)) ((Array.range n).map (z.cells[· % n]!)) [(0, .agg cells)] = some cells := by
      have h1 : ((cells.zipIdx.foldl (fun cs x => cs.setIfInBounds (0 + x.2) x.1) ((Array.range n).map (z.cells[· % n]!)))) = cells := by
        apply Array.toList_inj.1
        rw [← Array.foldl_toList, Array.toList_zipIdx, foldl_set cells.toList 0 _ (by simp [hc])]
        rw [List.drop_of_length_le (by simp [hc])]
        simp
      simp only [Instr.fill, Value.cells, Nat.zero_mul]
      rw [if_neg (by simp [hc])]
      exact congrArg some h1
    have hgt : ¬ (n > 2 ^ 24) := by simp; omega
    have hne : ¬ (n = 0) := by omega
    subst hz
    simp [Instr.buildSlice, run_underlying hu, hsize, hz0, hgt, hne, hfill, newRow]


/-- The same as a step of a region that draws its order. -/
theorem step_buildSlice_one {P : Program} {ops : Array Oper} {o : Oper} {a : Act} {w : World} {K : Act → World → Prop} {Q : Exit → Act → World → Prop} {E : Prop} (hgd : o.guard = none) (t e : TypeId) (z : Value) (n : Nat) (hu : P.underlying t = some (.slice e)) (hi : (P.info? e).map (fun i => (i.zero, i.size)) = some (some z, n)) (hz : z.cells.size = n) (h0 : 0 < n) (hn : n ≤ 16777216)
    (x : Operand) (ho : o.op = .buildSlice t 1 #[(0, x)]) (cells : Array Value) (hx : a.eval x = .agg cells) (hc : cells.size = n)
    (h : K (a.put o.dst (.slice (some ⟨w.heap.size, 0, none⟩) 1 1)) (w.alloc (.cells cells e))) : if Region.wanted o (yielded ops a.tmps) = true then Oper.wp P o a w K Q else E := by
  have hw : Region.wanted o (yielded ops a.tmps) = true := by simp [Region.wanted, hgd]
  rw [if_pos hw]
  have hrun := run_buildSlice_one (P := P) w t e z n hu hi hz h0 hn cells hc
  have hp : ((#[(0, x)] : Array (Nat × Operand)).map fun (i, x) => (i, a.eval x)) = #[(0, .agg cells)] := by simp [hx]
  unfold Oper.wp execOp
  simp only [ho, hp, Sem.run_bind, hrun, Result.andThen_ok, Sem.run_pure]
  exact h

end Go.Proofs.Ytbimhiffcdhcaaa
