/-
  Nodes, which are right, their bytes, and how bytes are read: plain functions on lists and their laws (nothing is walked here).
-/
import Derived.Test.YtookbmpaoljelaaMsgSt
import Derived.Test.YtookbmpaoljelaaPackIn5
import Derived.Test.YtookbmpaoljelaaPackOut3
namespace Go.Proofs.Ytookbmpaoljelaa
open Go Go.RowKit
set_option linter.unusedVariables false
set_option linter.unusedSimpArgs false
set_option maxRecDepth 100000

/-- A node. -/
structure Nd where
  leaf : Bool
  es : List En
  ps : List ByteArray
  ks : List Int
  bs : List (List Ms)
instance : Inhabited En := ⟨⟨⟨#[]⟩, false, ⟨#[]⟩, 0, false, ⟨#[]⟩⟩⟩
instance : Inhabited ByteArray := ⟨⟨#[]⟩⟩

/-! ### Which are right -/
def blt (a b : ByteArray) : Bool := Op.bytesLess a.toList b.toList
def ble (a b : ByteArray) : Bool := Op.bytesLess a.toList b.toList || (a.toList == b.toList)
/-- The kid of a key. -/
def routeN (ps : List ByteArray) (k : ByteArray) : Nat := (ps.filter fun p => ble p k).length
/-- How many messages wait. -/
def waitN (bs : List (List Ms)) : Nat := (bs.map List.length).sum
/-- Of each two neighbours the first comes ahead of the second. -/
def riseB {α : Type} (lt : α → α → Bool) : List α → Bool
  | a :: b :: r => lt a b && riseB lt (b :: r)
  | _ => true
def entryB (e : En) : Bool := decide (e.k.size ≤ 256) && decide (e.v.size ≤ 512) && decide (e.nv.size ≤ 512) && (e.h || decide (e.v.size = 0)) && (!decide (e.x = 0) || !e.n) && (e.n || decide (e.nv.size = 0)) && !goneE e
def entryLt (a b : En) : Bool := blt a.k b.k
def leafB (n : Nd) : Bool := decide (n.ps.length = 0) && decide (n.ks.length = 0) && decide (n.bs.length = 0) && decide (n.es.length ≤ 255) && riseB entryLt n.es && n.es.all entryB
def msgLt (a b : Ms) : Bool := decide (a.sq < b.sq)
/-- May this message wait for the kid i? -/
def waitB (ps : List ByteArray) (i : Nat) (m : Ms) : Bool := decide (checkE m = 0) && (decide (m.K = 4) || decide (routeN ps m.k = i))
def bufB (ps : List ByteArray) (i : Nat) (l : List Ms) : Bool := riseB msgLt l && l.all (waitB ps i)
def bufsB (ps : List ByteArray) : Nat → List (List Ms) → Bool
  | _, [] => true
  | i, l :: r => bufB ps i l && bufsB ps (i + 1) r
def shapeB (n : Nd) : Bool := decide (1 ≤ n.ks.length) && decide (n.ks.length ≤ 64) && decide (n.ps.length + 1 = n.ks.length) && decide (n.bs.length = n.ks.length) && decide (n.es.length = 0)
def innerB (n : Nd) : Bool := shapeB n && !n.ks.contains 0 && riseB blt n.ps && n.ps.all (fun p => decide (p.size ≤ 256)) && decide (waitN n.bs ≤ 1024) && bufsB n.ps 0 n.bs
def rightB (n : Nd) : Bool := if n.leaf then leafB n else innerB n

theorem rise_iff {α : Type} [Inhabited α] (lt : α → α → Bool) : ∀ l : List α, riseB lt l = true ↔ ∀ i, i + 1 < l.length → lt (l.getD i default) (l.getD (i + 1) default) = true
  | [] => by simp [riseB]
  | [a] => by simp [riseB]
  | a :: b :: r => by
    rw [riseB, Bool.and_eq_true, rise_iff lt (b :: r)]
    constructor
    · rintro ⟨h1, h2⟩ i hi
      cases i with
      | zero => exact h1
      | succ i => exact h2 i (by simpa using hi)
    · intro h
      exact ⟨h 0 (by simp), fun i hi => h (i + 1) (by simpa using hi)⟩
theorem rise_no {α : Type} [Inhabited α] {lt : α → α → Bool} {l : List α} {i : Nat} (hi : i + 1 < l.length) (h : lt (l.getD i default) (l.getD (i + 1) default) = false) : riseB lt l = false := by
  rw [← Bool.not_eq_true, rise_iff]
  intro k
  rw [k i hi] at h
  cases h
theorem all_iff {α : Type} [Inhabited α] {f : α → Bool} {l : List α} : l.all f = true ↔ ∀ i, i < l.length → f (l.getD i default) = true := by
  rw [List.all_eq_true]
  constructor
  · intro h i hi
    exact h _ (by simp [hi])
  · intro h x hx
    obtain ⟨i, hi, rfl⟩ := List.mem_iff_getElem.1 hx
    have := h i hi
    rwa [show l.getD i default = l[i] by simp [hi]] at this
theorem all_no {α : Type} [Inhabited α] {f : α → Bool} {l : List α} {i : Nat} (hi : i < l.length) (h : f (l.getD i default) = false) : l.all f = false := by
  rw [← Bool.not_eq_true, all_iff]
  intro k
  rw [k i hi] at h
  cases h
theorem bufs_iff (ps : List ByteArray) : ∀ (l : List (List Ms)) (q : Nat), bufsB ps q l = true ↔ ∀ i, i < l.length → bufB ps (q + i) (l.getD i default) = true
  | [], q => by simp [bufsB]
  | x :: r, q => by
    rw [bufsB, Bool.and_eq_true, bufs_iff ps r (q + 1)]
    constructor
    · rintro ⟨h1, h2⟩ i hi
      cases i with
      | zero => exact h1
      | succ i =>
        have := h2 i (by simpa using hi)
        rwa [Nat.add_assoc, Nat.add_comm 1 i] at this
    · intro h
      refine ⟨h 0 (by simp), fun i hi => ?_⟩
      have := h (i + 1) (by simpa using hi)
      rwa [← Nat.add_assoc, Nat.add_right_comm] at this
theorem bufs_no {ps : List ByteArray} {l : List (List Ms)} {i : Nat} (hi : i < l.length) (h : bufB ps i (l.getD i default) = false) : bufsB ps 0 l = false := by
  rw [← Bool.not_eq_true, bufs_iff]
  intro k
  have := k i hi
  rw [Nat.zero_add] at this
  rw [this] at h
  cases h
theorem route_le (ps : List ByteArray) (k : ByteArray) : routeN ps k ≤ ps.length := List.length_filter_le _ _

/-! ### Numbers and sizes -/
structure MsW (m : Ms) : Prop where
  s0 : 0 ≤ m.sq
  s1 : m.sq < 18446744073709551616
  x0 : 0 ≤ m.x
  x1 : m.x < 18446744073709551616
  n0 : 0 ≤ m.num
  n1 : m.num < 18446744073709551616
def NumW (x : Int) : Prop := 0 ≤ x ∧ x < 18446744073709551616
structure NdW (n : Nd) : Prop where
  e : ∀ e ∈ n.es, NumW e.x
  k : ∀ k ∈ n.ks, NumW k
  m : ∀ l ∈ n.bs, ∀ m ∈ l, MsW m

/-! ### The bytes -/
def encE (e : En) : List UInt8 := txtB e.k.toList ++ (flagB e.h ++ (txtB e.v.toList ++ (beB 8 e.x.toNat ++ (flagB e.n ++ txtB e.nv.toList))))
def encM (m : Ms) : List UInt8 := beB 8 m.sq.toNat ++ (beB 1 m.K.toNat ++ (txtB m.k.toList ++ (beB 8 m.x.toNat ++ (txtB m.v.toList ++ (beB 2 m.off.toNat ++ beB 8 m.num.toNat)))))
def encL (l : List Ms) : List UInt8 := beB 2 l.length ++ l.flatMap encM
def encK (k : Int) : List UInt8 := beB 8 k.toNat
def encP (p : ByteArray) : List UInt8 := txtB p.toList
def encN (n : Nd) : List UInt8 :=
  flagB n.leaf ++ (if n.leaf then beB 2 n.es.length ++ n.es.flatMap encE else beB 2 n.ks.length ++ (n.ks.flatMap encK ++ (n.ps.flatMap encP ++ n.bs.flatMap encL)))

/-! ### Reading -/
abbrev Prs (α : Type) := List UInt8 → Option (α × List UInt8)
def pBind {α β : Type} (p : Prs α) (q : α → Prs β) : Prs β := fun xs => match p xs with
  | none => none
  | some (a, ys) => q a ys
def pRet {α : Type} (a : α) : Prs α := fun xs => some (a, xs)
def pNum (n : Nat) : Prs Nat := fun xs => if can n xs false = true then some (numB (nextR n xs false), nextL n xs false) else none
def pFlag : Prs Bool := fun xs => if flagOk xs false = true then some (flagR xs false, flagL xs false) else none
def pText : Prs ByteArray := fun xs => if txtOk xs false = true then some (⟨(txtR xs false).toArray⟩, txtL xs false) else none
def pMany {α : Type} (p : Prs α) : Nat → Prs (List α)
  | 0 => pRet []
  | n + 1 => pBind p fun a => pBind (pMany p n) fun l => pRet (a :: l)
def pKid : Prs Int := pBind (pNum 8) fun x => pRet (x : Int)
def pEntry : Prs En := pBind pText fun k => pBind pFlag fun h => pBind pText fun v => pBind (pNum 8) fun x => pBind pFlag fun n => pBind pText fun nv => pRet ⟨k, h, v, (x : Int), n, nv⟩
def pMsg : Prs Ms := pBind (pNum 8) fun sq => pBind (pNum 1) fun K => pBind pText fun k => pBind (pNum 8) fun x => pBind pText fun v => pBind (pNum 2) fun off => pBind (pNum 8) fun num => pRet ⟨(sq : Int), (K : Int), k, (x : Int), v, (off : Int), (num : Int)⟩
def pBuf : Prs (List Ms) := pBind (pNum 2) fun c => pMany pMsg c
def pLeaf : Prs Nd := pBind (pNum 2) fun c => pBind (pMany pEntry c) fun es => pRet ⟨true, es, [], [], []⟩
def pInner : Prs Nd := pBind (pNum 2) fun c => pBind (pMany pKid c) fun ks => pBind (pMany pText (c - 1)) fun ps => pBind (pMany pBuf c) fun bs => pRet ⟨false, [], ps, ks, bs⟩
def pNode : Prs Nd := pBind pFlag fun leaf => if leaf = true then pLeaf else pInner
/-- The node of these bytes. -/
def decN (xs : List UInt8) : Option Nd := if 32768 < xs.length then none else match pNode xs with
  | some (n, []) => if rightB n = true then some n else none
  | _ => none

theorem pBind_some {α β : Type} {p : Prs α} {q : α → Prs β} {xs ys : List UInt8} {a : α} (h : p xs = some (a, ys)) : pBind p q xs = q a ys := by unfold pBind; rw [h]
theorem pBind_inv {α β : Type} {p : Prs α} {q : α → Prs β} {xs zs : List UInt8} {c : β} (h : pBind p q xs = some (c, zs)) : ∃ a ys, p xs = some (a, ys) ∧ q a ys = some (c, zs) := by
  unfold pBind at h
  match hp : p xs with
  | none => rw [hp] at h; cases h
  | some (a, ys) => rw [hp] at h; exact ⟨a, ys, rfl, h⟩
theorem pRet_inv {α : Type} {a b : α} {xs ys : List UInt8} (h : pRet a xs = some (b, ys)) : b = a ∧ ys = xs := by
  unfold pRet at h
  simp at h
  exact ⟨h.1.symm, h.2.symm⟩

/-- What a reader that may be bad leaves: bad stays bad; else what the bytes say, or bad. -/
structure Rd {α : Type} (p : Prs α) (xs : List UInt8) (bad : Bool) (a : α) (ys : List UInt8) (bad' : Bool) : Prop where
  b : bad = true → bad' = true
  g : bad = false → p xs = if bad' = true then none else some (a, ys)
theorem Rd.ret {α : Type} (a : α) (xs : List UInt8) (bad : Bool) : Rd (pRet a) xs bad a xs bad := ⟨id, fun h => by subst h; rfl⟩
theorem Rd.bind {α β : Type} {p : Prs α} {q : α → Prs β} {xs ys zs : List UInt8} {b b1 b2 : Bool} {a : α} {c : β} (h : Rd p xs b a ys b1) (k : Rd (q a) ys b1 c zs b2) : Rd (pBind p q) xs b c zs b2 := by
  refine ⟨fun e => k.b (h.b e), fun e => ?_⟩
  have h1 := h.g e
  unfold pBind
  cases b1 with
  | true =>
    rw [h1, k.b rfl]
    rfl
  | false =>
    rw [h1]
    exact k.g rfl
theorem Rd.num (n : Nat) (xs : List UInt8) (bad : Bool) : Rd (pNum n) xs bad (numB (nextR n xs bad)) (nextL n xs bad) (!can n xs bad) := by
  refine ⟨fun e => by subst e; simp [can], fun e => ?_⟩
  subst e
  unfold pNum
  cases can n xs false <;> rfl
theorem Rd.flag (xs : List UInt8) (bad : Bool) : Rd pFlag xs bad (flagR xs bad) (flagL xs bad) (!flagOk xs bad) := by
  refine ⟨fun e => by subst e; simp [flagOk, can], fun e => ?_⟩
  subst e
  unfold pFlag
  cases flagOk xs false <;> rfl
theorem Rd.text (xs : List UInt8) (bad : Bool) : Rd pText xs bad ⟨(txtR xs bad).toArray⟩ (txtL xs bad) (!txtOk xs bad) := by
  refine ⟨fun e => by subst e; simp [txtOk, can], fun e => ?_⟩
  subst e
  unfold pText
  cases txtOk xs false <;> rfl

/-- Where a loop stands that takes n parts: it has l, what is left is ys. -/
structure Many {α : Type} (p : Prs α) (n : Nat) (xs : List UInt8) (bad : Bool) (l : List α) (ys : List UInt8) (b : Bool) : Prop where
  b0 : bad = true → b = true
  g : bad = false → b = false → pMany p n xs = ((pMany p (n - l.length)) ys).map fun r => (l ++ r.1, r.2)
  e : bad = false → b = true → pMany p n xs = none
theorem Many.start {α : Type} (p : Prs α) (n : Nat) (xs : List UInt8) (bad : Bool) : Many p n xs bad [] xs bad :=
  ⟨id, fun _ _ => by simp, fun h k => by rw [h] at k; cases k⟩
theorem Many.step {α : Type} {p : Prs α} {n : Nat} {xs ys zs : List UInt8} {bad b' : Bool} {l : List α} {a : α} (h : Many p n xs bad l ys false) (hl : l.length < n) (k : Rd p ys false a zs b') : Many p n xs bad (l ++ [a]) zs b' := by
  have hk := k.g rfl
  have hs : n - l.length = (n - (l ++ [a]).length) + 1 := by simp; omega
  have hb : bad = false := by
    cases bad with
    | false => rfl
    | true => exact absurd (h.b0 rfl) (by simp)
  have hg := h.g hb rfl
  rw [hs, pMany] at hg
  refine ⟨fun e => (by rw [hb] at e; cases e), fun _ e => ?_, fun _ e => ?_⟩
  · subst e
    rw [hg, pBind_some (by rw [hk]; rfl)]
    unfold pBind
    match pMany p (n - (l ++ [a]).length) zs with
    | none => rfl
    | some (r, qs) => simp [pRet]
  · subst e
    rw [hg]
    unfold pBind
    rw [hk]
    rfl
theorem Many.done {α : Type} {p : Prs α} {n : Nat} {xs ys : List UInt8} {bad b : Bool} {l : List α} (h : Many p n xs bad l ys b) (hd : b = true ∨ n ≤ l.length) : Rd (pMany p n) xs bad l ys b := by
  refine ⟨h.b0, fun e => ?_⟩
  cases b with
  | true => rw [h.e e rfl]; rfl
  | false =>
    have hl : n ≤ l.length := hd.resolve_left (by simp)
    rw [h.g e rfl, show n - l.length = 0 by omega, pMany]
    simp [pRet]

end Go.Proofs.Ytookbmpaoljelaa
