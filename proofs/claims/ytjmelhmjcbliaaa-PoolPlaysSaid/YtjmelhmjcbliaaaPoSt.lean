/-
  What a pool is, as values: its places, its hand, its back; what each call makes of it. Plain lists; nothing is walked here.
-/
import Derived.Test.YtjmelhmjcbliaaaPoMem
namespace Go.Proofs.Ytjmelhmjcbliaaa
open Go Go.RowKit
set_option linter.unusedVariables false
set_option linter.unusedSimpArgs false
set_option maxRecDepth 100000
set_option linter.unusedSimpArgs false

/-- A place. -/
structure Pl where
  id : Int
  b : List UInt8
  d : Bool
  p : Nat
  u : Bool
instance : Inhabited Pl := ⟨⟨0, [], false, 0, false⟩⟩
/-- A back. -/
structure Bk where
  ids : List Int
  bs : List (List UInt8)
  asked : List Int
  full : Int
def wu (x : Int) : Int := x % 18446744073709551616
/-- Where a number stands. -/
def ixOf (id : Int) : List Int → Option Nat
  | [] => none
  | x :: l => if x = id then some 0 else (ixOf id l).map (· + 1)
theorem ixOf_some {id : Int} {l : List Int} {i : Nat} (h : ixOf id l = some i) : i < l.length ∧ l[i]? = some id ∧ ∀ j, j < i → l[j]? ≠ some id := by
  induction l generalizing i with
  | nil => cases h
  | cons x l ih =>
    rw [ixOf] at h
    split at h
    · rename_i e
      simp only [Option.some.injEq] at h
      subst h e
      exact ⟨by simp, rfl, fun j hj => by omega⟩
    · rename_i e
      rw [Option.map_eq_some_iff] at h
      obtain ⟨k, hk, rfl⟩ := h
      obtain ⟨h1, h2, h3⟩ := ih hk
      refine ⟨by simp; omega, by simpa using h2, fun j hj => ?_⟩
      cases j with
      | zero => simpa using e
      | succ j => simpa using h3 j (by omega)
theorem ixOf_none {id : Int} {l : List Int} (h : ixOf id l = none) : id ∉ l := by
  induction l with
  | nil => simp
  | cons x l ih =>
    rw [ixOf] at h
    split at h
    · cases h
    · rename_i e
      rw [Option.map_eq_none_iff] at h
      simp only [List.mem_cons, not_or]
      exact ⟨fun e2 => e e2.symm, ih h⟩
theorem ixOf_mem {id : Int} {l : List Int} (h : id ∈ l) : ∃ i, ixOf id l = some i := by
  cases e : ixOf id l with
  | none => exact absurd h (ixOf_none e)
  | some i => exact ⟨i, rfl⟩
/-- In a list without twins. -/
theorem ixOf_nodup {id : Int} {l : List Int} (hn : l.Nodup) {i : Nat} (h : l[i]? = some id) : ixOf id l = some i := by
  obtain ⟨hi, he⟩ := List.getElem?_eq_some_iff.1 h
  obtain ⟨k, hk⟩ := ixOf_mem (id := id) (l := l) (by rw [← he]; exact List.getElem_mem hi)
  obtain ⟨h1, h2, h3⟩ := ixOf_some hk
  obtain ⟨hk2, he2⟩ := List.getElem?_eq_some_iff.1 h2
  have := (List.getElem_inj hn).1 (he2.trans he.symm)
  rw [hk, this]
def Bk.at (b : Bk) (id : Int) : Option Nat := ixOf id b.ids
def Bk.ask (b : Bk) (q : Int) : Bk := { b with asked := b.asked ++ [wu q] }
/-- Load: the back that has been asked, what it answers. -/
def Bk.load (b : Bk) (id : Int) : Bk × Option (List UInt8) := (b.ask (2 * id), (b.at id).map fun i => b.bs.getD i [])
/-- A Save that is taken. -/
def Bk.take (b : Bk) (id : Int) (x : List UInt8) : Bk := match b.at id with
  | none => { b with ids := b.ids ++ [id], bs := b.bs ++ [x] }
  | some i => { b with bs := b.bs.set i x }
def Bk.less (b : Bk) : Bk := if 0 < b.full then { b with full := b.full - 1 } else b
/-- Save: the back, and whether it has taken it. -/
def Bk.save (b : Bk) (id : Int) (x : List UInt8) : Bk × Bool :=
  if b.full = 0 then (b.ask (2 * id + 1), false) else (((b.ask (2 * id + 1)).less).take id x, true)

/-- From the hand on: the first place that may go; those that were used are passed. -/
def nextP : Nat → List Pl → Nat → List Pl × Option Nat
  | 0, L, _ => (L, none)
  | k + 1, L, i =>
    if 0 < (L.getD (i % L.length) default).p then nextP k L (i + 1)
    else if (L.getD (i % L.length) default).u then nextP k (L.set (i % L.length) { L.getD (i % L.length) default with u := false }) (i + 1)
    else (L, some (i % L.length))
/-- A pool. -/
structure Po where
  L : List Pl
  hand : Nat
  bk : Bk
  most : Nat
def Po.ids (p : Po) : List Int := p.L.map (·.id)
def Po.ix (p : Po) (id : Int) : Option Nat := ixOf id p.ids
def Po.pl (p : Po) (i : Nat) : Pl := p.L.getD i default
/-- A place is saved, if it is dirty. -/
def Po.save (p : Po) (i : Nat) : Po × Bool :=
  if (p.pl i).d then
    if (p.bk.save (p.pl i).id (p.pl i).b).2 then ({ p with bk := (p.bk.save (p.pl i).id (p.pl i).b).1, L := p.L.set i { p.pl i with d := false } }, true)
    else ({ p with bk := (p.bk.save (p.pl i).id (p.pl i).b).1 }, false)
  else (p, true)
def outH (n hand i : Nat) : Nat := if (if i < hand then hand - 1 else hand) = n - 1 then 0 else (if i < hand then hand - 1 else hand)
def Po.out (p : Po) (i : Nat) : Po := { p with L := p.L.eraseIdx i, hand := outH p.L.length p.hand i }
/-- One goes: its number, or an error's. -/
def Po.goes (p : Po) : Po × Int × Int :=
  match (nextP (2 * p.L.length) p.L p.hand).2 with
  | none => ({ p with L := (nextP (2 * p.L.length) p.L p.hand).1 }, 0, 9)
  | some i =>
    let q : Po := { p with L := (nextP (2 * p.L.length) p.L p.hand).1, hand := i }
    if (q.save i).2 then ((q.save i).1.out i, (q.pl i).id, 0) else ((q.save i).1, 0, 3)
/-- Room is made. -/
def roomP : Nat → Po → Po
  | 0, p => p
  | k + 1, p => if p.most < p.L.length then if p.goes.2.2 = 0 then roomP k p.goes.1 else p.goes.1 else p
def Po.room (p : Po) : Po := roomP p.L.length p
/-- The place of a thing, which comes if it has none. -/
def Po.find (p : Po) (id : Int) : Po × Option Nat :=
  match p.ix id with
  | some i => (p, some i)
  | none => match (p.bk.load id).2 with
    | none => ({ p with bk := (p.bk.load id).1 }, none)
    | some b => ({ p with bk := (p.bk.load id).1, L := p.L ++ [⟨id, b, false, 0, false⟩] }, some p.L.length)
def Po.turn (p : Po) (i : Nat) (x : Pl) : Po := { p with L := p.L.set i x }
def Po.get (p : Po) (id : Int) : Po × Option (List UInt8) :=
  match (p.find id).2 with
  | none => ((p.find id).1, none)
  | some i => (((p.find id).1.turn i { (p.find id).1.pl i with u := true }).room, some ((p.find id).1.pl i).b)
def Po.pin (p : Po) (id : Int) : Po × Bool :=
  match (p.find id).2 with
  | none => ((p.find id).1, false)
  | some i => (((p.find id).1.turn i { (p.find id).1.pl i with u := true, p := ((p.find id).1.pl i).p + 1 }).room, true)
def Po.put (p : Po) (id : Int) (b : List UInt8) : Po :=
  match p.ix id with
  | some i => (p.turn i { p.pl i with b := b, u := true, d := true }).room
  | none => ({ p with L := p.L ++ [⟨id, b, true, 0, true⟩] } : Po).room
def Po.unpin (p : Po) (id : Int) : Po × Bool :=
  match p.ix id with
  | none => (p, false)
  | some i => if (p.pl i).p = 0 then (p, false) else ((p.turn i { p.pl i with p := (p.pl i).p - 1 }).room, true)
def Po.evict (p : Po) : Po × Int × Int := if p.L = [] then (p, 0, 5) else p.goes
def Po.clean (p : Po) (id : Int) : Po × Int :=
  match p.ix id with
  | none => (p, 5)
  | some i => ((p.save i).1, if (p.save i).2 then 0 else 3)
def Po.drop (p : Po) (id : Int) : Po :=
  match p.ix id with
  | none => p
  | some i => p.out i
def Po.dirty (p : Po) : List Int := (p.L.filter (·.d)).map (·.id)

/-- A pool whose numbers have no twins, and whose hand stands at a place. -/
structure PoOk (p : Po) : Prop where
  nd : p.ids.Nodup
  r : ∀ x ∈ p.L, 0 ≤ x.id ∧ x.id < 18446744073709551616
  h : p.hand = 0 ∨ p.hand < p.L.length
theorem nextP_len : ∀ (k : Nat) (L : List Pl) (i : Nat), (nextP k L i).1.length = L.length
  | 0, L, i => rfl
  | k + 1, L, i => by
    rw [nextP]
    split
    · exact nextP_len k L _
    · split
      · rw [nextP_len k _ _, List.length_set]
      · rfl
theorem map_set_same {α β : Type} [Inhabited α] (f : α → β) (L : List α) (i : Nat) (x : α) (h : f x = f (L.getD i default)) : (L.set i x).map f = L.map f := by
  by_cases hi : i < L.length
  · apply List.ext_getElem?
    intro j
    simp only [List.getElem?_map, List.getElem?_set]
    split
    · rename_i e
      subst e
      rw [List.getElem?_eq_getElem hi]
      simp only [Option.map_some, h, List.getD_eq_getElem?_getD, List.getElem?_eq_getElem hi, Option.getD_some]
    · rfl
  · rw [List.set_eq_of_length_le (by omega)]
/-- What nextP leaves of each place. -/
theorem nextP_map {β : Type} (f : Pl → β) (hf : ∀ x : Pl, f { x with u := false } = f x) : ∀ (k : Nat) (L : List Pl) (i : Nat), (nextP k L i).1.map f = L.map f
  | 0, L, i => rfl
  | k + 1, L, i => by
    rw [nextP]
    split
    · exact nextP_map f hf k L _
    · split
      · rw [nextP_map f hf k _ _]
        exact map_set_same f L _ _ (hf _)
      · rfl
theorem nextP_some : ∀ (k : Nat) (L : List Pl) (i : Nat) (j : Nat), (nextP k L i).2 = some j → L.length ≠ 0 → j < L.length ∧ ((nextP k L i).1.getD j default).p = 0 ∧ ((nextP k L i).1.getD j default).u = false
  | 0, L, i, j, h, _ => by cases h
  | k + 1, L, i, j, h, h0 => by
    rw [nextP] at h ⊢
    split at h
    · rename_i e
      rw [if_pos e]
      exact nextP_some k L _ j h h0
    · rename_i e
      rw [if_neg e]
      split at h
      · rename_i e2
        rw [if_pos e2]
        have := nextP_some k _ _ j h (by rw [List.length_set]; exact h0)
        rw [List.length_set] at this
        exact this
      · rename_i e2
        rw [if_neg e2]
        simp only [Option.some.injEq] at h
        subst h
        exact ⟨Nat.mod_lt _ (by omega), by show (L.getD (i % L.length) default).p = 0; omega, by simpa using e2⟩

end Go.Proofs.Ytjmelhmjcbliaaa
