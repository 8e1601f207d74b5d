/-
  What a disk looks like in memory, and what its calls make of it: plain definitions and lemmas; nothing is walked here.
-/
import Derived.Test.YtidkeglldmbfeaaMem
import Derived.Deep.MidRow
namespace Go.Proofs.Ytidkeglldmbfeaa
open Go Go.RowKit
set_option linter.unusedVariables false
set_option linter.unusedSimpArgs false
set_option maxRecDepth 100000

/-- A disk: n sectors, the bytes as they were written last, those that are kept, the writes that wait, the fuse, whether the power is gone, the two counts. -/
structure DS where
  n : Nat
  N : List UInt8
  K : List UInt8
  W : List (Nat × List UInt8)
  fuse : Int
  down : Bool
  wr : Nat
  sy : Nat

structure DS.Ok (D : DS) : Prop where
  n : D.n ≤ 4096
  N : D.N.length = D.n * 64
  K : D.K.length = D.n * 64
  W : ∀ x ∈ D.W, x.1 < D.n ∧ x.2.length = 64
  fuse : -9223372036854775808 ≤ D.fuse ∧ D.fuse ≤ 9223372036854775807

/-- Sector i of flat bytes; s laid over it; b with zeros behind it. -/
def sec (N : List UInt8) (i : Nat) : List UInt8 := (N.drop (i * 64)).take 64
def put (N : List UInt8) (i : Nat) (s : List UInt8) : List UInt8 := N.take (i * 64) ++ s ++ N.drop (i * 64 + 64)
def pad (b : List UInt8) : List UInt8 := b ++ List.replicate (64 - b.length) 0
def wcells (W : List (Nat × List UInt8)) : List Value := W.flatMap fun x => .int .i64 x.1 :: u8s x.2

theorem sec_length {N : List UInt8} {n i : Nat} (h : N.length = n * 64) (hi : i < n) : (sec N i).length = 64 := by
  simp [sec]; omega
theorem put_length {N : List UInt8} {n i : Nat} {s : List UInt8} (h : N.length = n * 64) (hi : i < n) (hs : s.length = 64) : (put N i s).length = n * 64 := by
  simp [put, hs]; omega
theorem pad_length {b : List UInt8} (h : b.length ≤ 64) : (pad b).length = 64 := by simp [pad]; omega
theorem sec_put_same {N : List UInt8} {n i : Nat} {s : List UInt8} (h : N.length = n * 64) (hi : i < n) (hs : s.length = 64) : sec (put N i s) i = s := by
  unfold sec put
  have h1 : (N.take (i * 64)).length = i * 64 := by simp; omega
  rw [List.append_assoc, List.drop_append_of_le_length (by omega), List.drop_of_length_le (by omega), List.nil_append, List.take_append_of_le_length (by omega), List.take_of_length_le (by omega)]
theorem sec_put_other {N : List UInt8} {n i k : Nat} {s : List UInt8} (h : N.length = n * 64) (hi : i < n) (hs : s.length = 64) (hk : k ≠ i) : sec (put N i s) k = sec N k := by
  apply List.ext_getElem?
  intro j
  unfold sec put
  by_cases hj : j < 64
  · rw [List.getElem?_take, if_pos hj, List.getElem?_take, if_pos hj, List.getElem?_drop, List.getElem?_drop, List.append_assoc]
    by_cases hlt : k < i
    · rw [List.getElem?_append_left (by simp; omega), List.getElem?_take, if_pos (by omega)]
    · have h1 : (N.take (i * 64)).length = i * 64 := by simp; omega
      rw [List.getElem?_append_right (by omega), h1, List.getElem?_append_right (by omega), hs, List.getElem?_drop]
      congr 1
      omega
  · rw [List.getElem?_take, if_neg hj, List.getElem?_take, if_neg hj]

theorem wcells_length {W : List (Nat × List UInt8)} (h : ∀ x ∈ W, x.2.length = 64) : (wcells W).length = W.length * 65 := by
  induction W with
  | nil => rfl
  | cons x W ih =>
    have h1 := h x (by simp)
    have h2 := ih (fun y hy => h y (by simp [hy]))
    simp [wcells] at h2 ⊢
    rw [h2, u8s_length, h1]
    omega
theorem wcells_snoc (W : List (Nat × List UInt8)) (i : Nat) (s : List UInt8) : wcells (W ++ [(i, s)]) = wcells W ++ (.int .i64 i :: u8s s) := by simp [wcells]
/-- The cells of the j-th write that waits. -/
theorem wcells_at {W : List (Nat × List UInt8)} (h : ∀ x ∈ W, x.2.length = 64) {j : Nat} (hj : j < W.length) (k : Nat) (hk : k < 65) : (wcells W)[j * 65 + k]? = (Value.int .i64 (W[j]).1 :: u8s (W[j]).2)[k]? := by
  induction W generalizing j with
  | nil => simp at hj
  | cons x W ih =>
    have h1 := h x (by simp)
    have e : wcells (x :: W) = (.int .i64 x.1 :: u8s x.2) ++ wcells W := by simp [wcells]
    have hl : (Value.int .i64 x.1 :: u8s x.2).length = 65 := by simp [u8s_length, h1]
    rw [e]
    cases j with
    | zero => rw [List.getElem?_append_left (by omega)]; simp
    | succ j =>
      rw [List.getElem?_append_right (by omega), hl, show (j + 1) * 65 + k - 65 = j * 65 + k by omega]
      exact ih (fun y hy => h y (by simp [hy])) (by simpa using hj)

/-- What the calls answer, and what they leave. -/
def DS.new (n : Nat) : DS := ⟨n, List.replicate (n * 64) 0, List.replicate (n * 64) 0, [], -1, false, 0, 0⟩
def DS.lastB (D : DS) : Bool := !D.down && !(D.fuse == 0)
def DS.last (D : DS) : DS := if D.down then D else if D.fuse == 0 then { D with down := true } else if 0 < D.fuse then { D with fuse := D.fuse - 1 } else D
def DS.has (D : DS) (i : Int) : Bool := decide (0 ≤ i ∧ i < D.n)
def DS.lay (D : DS) (i : Nat) (s : List UInt8) : DS := { D with N := put D.N i s, W := D.W ++ [(i, s)], wr := D.wr + 1 }
def DS.wrE (D : DS) (i : Int) (b : List UInt8) : Nat := if !D.has i || decide (64 < b.length) then 1 else if D.lastB then 0 else 4
def DS.write (D : DS) (i : Int) (b : List UInt8) : DS := if !D.has i || decide (64 < b.length) then D else if D.lastB then D.last.lay i.toNat (pad b) else D.last
def DS.fused (D : DS) (n : Int) : DS := if D.down then D else { D with fuse := n }
/-- Writes laid over bytes, in their order; those of them that a Crash keeps. -/
def lays (K : List UInt8) (W : List (Nat × List UInt8)) : List UInt8 := W.foldl (fun K x => put K x.1 x.2) K
def oddZ (z : Int) : Bool := z.tmod 2 != 0
def chosen (W : List (Nat × List UInt8)) (keep : List Int) : List (Nat × List UInt8) := (List.zip W keep).filterMap fun x => if oddZ x.2 then some x.1 else none
def syE (D : DS) : Nat := if D.down then 4 else 0
def DS.sync (D : DS) : DS := if D.down then D else { D with K := lays D.K D.W, W := [], sy := D.sy + 1 }
/-- Where a write waited the bytes are again as they are kept. -/
def backs (N K : List UInt8) (W : List (Nat × List UInt8)) : List UInt8 := W.foldl (fun N x => put N x.1 (sec K x.1)) N
def DS.crash (D : DS) (keep : List Int) : DS :=
  { D with N := backs D.N (lays D.K (chosen D.W keep)) D.W, K := lays D.K (chosen D.W keep), W := [], fuse := -1, down := false }

/-- The disk in memory: its struct in block p, its two rows of sectors, the row of what waits. -/
structure DiskAt (w : World) (p gn gk : Nat) (vw : Value) (D : DS) : Prop where
  ok : D.Ok
  at' : w.heap[p]? = some (.cells #[.slice (some ⟨gn, 0, none⟩) D.n D.n, .slice (some ⟨gk, 0, none⟩) D.n D.n, vw, .int .i64 D.fuse, .bool D.down, .int .i64 D.wr, .int .i64 D.sy] 67 (0, 0))
  now : w.heap[gn]? = some (.cells (u8s D.N).toArray 69 (0, 0))
  kept : w.heap[gk]? = some (.cells (u8s D.K).toArray 69 (0, 0))
  row : w.ownsRow 0 71 65 vw D.W.length (wcells D.W)
  ne : gn ≠ gk
def Foot (p gn gk : Nat) (vw : Value) (k : Nat) : Prop := k = p ∨ k = gn ∨ k = gk ∨ vw.ownBlock = some k
def DiskR (p : Nat) (D : DS) : Res := fun w F => ∃ gn gk vw, DiskAt w p gn gk vw D ∧ ∀ k, F k ↔ Foot p gn gk vw k

theorem DiskAt.keep {w w' : World} {p gn gk : Nat} {vw : Value} {D : DS} (h : DiskAt w p gn gk vw D) (hk : ∀ k, Foot p gn gk vw k → w'.heap[k]? = w.heap[k]?) : DiskAt w' p gn gk vw D :=
  ⟨h.ok, (hk p (.inl rfl)).trans h.at', (hk gn (.inr (.inl rfl))).trans h.now, (hk gk (.inr (.inr (.inl rfl)))).trans h.kept, own_keepAt h.row (fun k e => hk k (.inr (.inr (.inr e)))), h.ne⟩
instance {p : Nat} {D : DS} : Stab (DiskR p D) where
  lt := by
    rintro w F ⟨gn, gk, vw, h, hF⟩ k hk
    rcases (hF k).1 hk with rfl | rfl | rfl | hk
    · exact lt_of_some h.at'
    · exact lt_of_some h.now
    · exact lt_of_some h.kept
    · exact own_lt h.row hk
  keep := by
    rintro w w' F ⟨gn, gk, vw, h, hF⟩ hk
    exact ⟨gn, gk, vw, h.keep (fun k e => hk k ((hF k).2 e)), hF⟩

theorem DiskAt.cell {w : World} {p gn gk : Nat} {vw : Value} {D : DS} (h : DiskAt w p gn gk vw D) (j : Nat) :
    w.cell? ⟨p, j, none⟩ = (#[.slice (some ⟨gn, 0, none⟩) D.n D.n, .slice (some ⟨gk, 0, none⟩) D.n D.n, vw, .int .i64 D.fuse, .bool D.down, .int .i64 D.wr, .int .i64 D.sy] : Array Value)[j]? := by simp [World.cell?, h.at']
theorem DiskAt.free {w : World} {p gn gk : Nat} {vw : Value} {D : DS} (h : DiskAt w p gn gk vw D) (j : Nat) : w.frozen? ⟨p, j, none⟩ = false := by simp [World.frozen?, h.at']
theorem DiskAt.nw {w : World} {p gn gk : Nat} {vw : Value} {D : DS} (h : DiskAt w p gn gk vw D) : vw.ownBlock ≠ some gn ∧ vw.ownBlock ≠ some gk ∧ vw.ownBlock ≠ some p :=
  ⟨own_type h.row h.now (by decide), own_type h.row h.kept (by decide), own_type h.row h.at' (by decide)⟩
theorem DiskAt.np {w : World} {p gn gk : Nat} {vw : Value} {D : DS} (h : DiskAt w p gn gk vw D) : gn ≠ p ∧ gk ≠ p := by
  have a := h.at'
  refine ⟨fun e => ?_, fun e => ?_⟩
  · subst e; have b := h.now; rw [a] at b; simp at b
  · subst e; have b := h.kept; rw [a] at b; simp at b

end Go.Proofs.Ytidkeglldmbfeaa
