/-
  The document's own keys: bytes of a string in a row of their own, turned.
-/
import Derived.Test.YtlmpknhekoeecaaDoorKeyN4
import Derived.Test.YtlmpknhekoeecaaDoorByAt
import Derived.Lib.AtoiErrMem
import Derived.StillTailTactics
namespace Go.Proofs.YtlmpknhekoeecaaDoor
open Go Go.RowKit
set_option linter.unusedVariables false
set_option linter.unusedSimpArgs false
set_option maxRecDepth 100000

/-- Where the document's reader of one value stands: its answer's block, the bytes. -/
structure OneAt (w W : World) (bs : List UInt8) : Prop where
  r : W.heap[w.heap.size]? = some (.cells #[.int .i64 0, .int .u64 0, .string ⟨#[]⟩] 42 (0, 0))
  b : ByAt W (w.heap.size + 1) bs
  only : Only (fun _ => False) w W
theorem OneAt.start (w : World) (s : ByteArray) : OneAt w (Lib.bytesWorld (w.alloc (.cells #[.int .i64 0, .int .u64 0, .string ⟨#[]⟩] 42)) 5 s) s.toList := by
  have hb := ByAt.new (w.alloc (.cells #[.int .i64 0, .int .u64 0, .string ⟨#[]⟩] 42)) s
  rw [World.size_alloc] at hb
  refine ⟨?_, hb, ?_⟩
  · rw [Lib.bytesWorld_at_old _ _ _ _ (by simp)]
    exact heap_alloc_new w _
  · exact ((Only.refl _ w).alloc (.cells #[.int .i64 0, .int .u64 0, .string ⟨#[]⟩] 42)).trans (below_quiet (Lib.bytesWorld_below _ 5 s)) (fun _ _ h => h)
theorem OneAt.drew {w W : World} {bs : List UInt8} (h : OneAt w W bs) : OneAt w W.drew bs := ⟨h.r, h.b.keep rfl, h.only.drew⟩
theorem OneAt.set {w W : World} {bs : List UInt8} (h : OneAt w W bs) {k : Nat} (hk : k < bs.length) (c : UInt8) : OneAt w (W.setCell ⟨w.heap.size + 1, k, none⟩ (.int .u8 c.toNat)) (bs.set k c) :=
  ⟨(Below.heap_setCell _ _ _ _ (by simp)).trans h.r, h.b.set hk c, h.only.trans (Only.cell W (w.heap.size + 1) k _) (fun i hi e => by omega)⟩

/-- What the document's reader of one value answers. -/
def OnePost (k : Int) (d : Bool) (s : ByteArray) (w : World) (e : Ending) (w' : World) : Prop :=
  ∃ (K N : Int) (S : ByteArray) (n : Nat), e = .returned (.tuple #[vlv K N S, .int .i64 (n : Int)]) ∧ U64 N ∧ Only (fun _ => False) w w' ∧
    (n = 0 ∧ val1 k (turnL d s.toList) = none ∨ 1 ≤ n ∧ n ≤ s.size ∧ val1 k (turnL d s.toList) = some (vl K N S, (turnL d s.toList).drop n))
theorem one_none {k : Int} {d : Bool} {s : ByteArray} {w w' : World} (h : val1 k (turnL d s.toList) = none) (ho : Only (fun _ => False) w w') : OnePost k d s w (.returned (.tuple #[vlv 0 0 ⟨#[]⟩, .int .i64 0])) w' :=
  ⟨0, 0, ⟨#[]⟩, 0, rfl, ⟨by omega, by omega⟩, ho, .inl ⟨rfl, h⟩⟩
theorem OneAt.res {w W : World} {bs : List UInt8} (h : OneAt w W bs) : (W.cell? ⟨w.heap.size, 0, none⟩ = some (.int .i64 0) ∧ W.cell? ⟨w.heap.size, 1, none⟩ = some (.int .u64 0) ∧ W.cell? ⟨w.heap.size, 2, none⟩ = some (.string ⟨#[]⟩)) ∧
    (W.frozen? ⟨w.heap.size, 0, none⟩ = false ∧ W.frozen? ⟨w.heap.size, 1, none⟩ = false ∧ W.frozen? ⟨w.heap.size, 2, none⟩ = false) := by
  simp [World.cell?, World.frozen?, h.r]
theorem only_res {w W : World} (h : Only (fun _ => False) w W) (a b c : Value) : Only (fun _ => False) w (((W.setCell ⟨w.heap.size, 0, none⟩ a).setCell ⟨w.heap.size, 1, none⟩ b).setCell ⟨w.heap.size, 2, none⟩ c) := by
  have h1 := h.trans (Only.cell W w.heap.size 0 a) (fun i hi e => by omega)
  have h2 := h1.trans (Only.cell _ w.heap.size 1 b) (fun i hi e => by omega)
  exact h2.trans (Only.cell _ w.heap.size 2 c) (fun i hi e => by omega)

/-- Behind the first byte: the value that is built, the In. -/
structure TwoAt (w W : World) (pv pi cp : Nat) (T : List UInt8) (K N : Int) (S : ByteArray) (a : Nat) (bad : Bool) : Prop where
  r : W.heap[w.heap.size]? = some (.cells #[.int .i64 0, .int .u64 0, .string ⟨#[]⟩] 42 (0, 0))
  v : W.heap[pv]? = some (.cells #[.int .i64 K, .int .u64 N, .string S] 42 (0, 0))
  i : RIn W pi (w.heap.size + 1) cp T a bad
  only : Only (fun _ => False) w W
  hv : w.heap.size + 2 ≤ pv
  hi : w.heap.size + 2 ≤ pi
  ne : pv ≠ pi
theorem TwoAt.start {w W : World} {T : List UInt8} {cp : Nat} (h : OneAt w W T) (K : Int) (hT : 1 ≤ T.length) (hT2 : T.length ≤ 4096) (hcp : T.length ≤ cp) :
    TwoAt w ((W.alloc (.cells #[.int .i64 K, .int .u64 0, .string ⟨#[]⟩] 42)).alloc (.cells #[.slice (some ⟨w.heap.size + 1, 0, none⟩) T.length cp, .int .i64 1, .bool false] 80)) W.heap.size (W.heap.size + 1) cp T K 0 ⟨#[]⟩ 1 false := by
  have hb : w.heap.size + 1 < W.heap.size := by
    obtain ⟨cs, fr, h1, _⟩ := h.b
    exact lt_of_some h1
  have h1 := heap_alloc_new W (.cells #[.int .i64 K, .int .u64 0, .string ⟨#[]⟩] 42)
  have h2 := heap_alloc_new (W.alloc (.cells #[.int .i64 K, .int .u64 0, .string ⟨#[]⟩] 42)) (.cells #[.slice (some ⟨w.heap.size + 1, 0, none⟩) T.length cp, .int .i64 1, .bool false] 80)
  rw [World.size_alloc] at h2
  have hk : ∀ j, j < W.heap.size → ((W.alloc (.cells #[.int .i64 K, .int .u64 0, .string ⟨#[]⟩] 42)).alloc (.cells #[.slice (some ⟨w.heap.size + 1, 0, none⟩) T.length cp, .int .i64 1, .bool false] 80)).heap[j]? = W.heap[j]? := fun j hj => by
    rw [Below.heap_alloc _ _ _ (by simp; omega), Below.heap_alloc _ _ _ hj]
  refine ⟨(hk _ (by omega)).trans h.r, ?_, ⟨h2, fun j hj => ?_, hT, hT2, hcp, by omega⟩, (h.only.alloc _).alloc _, by omega, by omega, by omega⟩
  · rw [Below.heap_alloc _ _ _ (by simp)]
    exact h1
  · rw [World.cell?_of_block (hk _ hb)]
    exact (h.b.cell hj).1
theorem TwoAt.drewN {w W : World} {pv pi cp : Nat} {T : List UInt8} {K N : Int} {S : ByteArray} {a : Nat} {bad : Bool} (h : TwoAt w W pv pi cp T K N S a bad) (q : Nat) : TwoAt w (W.drewN q) pv pi cp T K N S a bad :=
  ⟨h.r, h.v, h.i.drewN q, h.only.drewN q, h.hv, h.hi, h.ne⟩
theorem TwoAt.move {w W : World} {pv pi cp : Nat} {T : List UInt8} {K N : Int} {S : ByteArray} {a : Nat} {bad : Bool} (h : TwoAt w W pv pi cp T K N S a bad) (n : Nat) (hn : n ≤ T.length) : TwoAt w (W.setCell ⟨pi, 1, none⟩ (.int .i64 (n : Int))) pv pi cp T K N S n bad := by
  have h1 := h.hi; have h2 := h.hv
  exact ⟨(Below.heap_setCell _ _ _ _ (fun e => by simp at e; omega)).trans h.r, (Below.heap_setCell _ _ _ _ (fun e => h.ne e)).trans h.v, h.i.move n hn, h.only.trans (Only.cell W pi 1 _) (fun i hi e => by omega), h.hv, h.hi, h.ne⟩
theorem TwoAt.spoil {w W : World} {pv pi cp : Nat} {T : List UInt8} {K N : Int} {S : ByteArray} {a : Nat} {bad : Bool} (h : TwoAt w W pv pi cp T K N S a bad) : TwoAt w (W.setCell ⟨pi, 2, none⟩ (.bool true)) pv pi cp T K N S a true := by
  have h1 := h.hi; have h2 := h.hv
  exact ⟨(Below.heap_setCell _ _ _ _ (fun e => by simp at e; omega)).trans h.r, (Below.heap_setCell _ _ _ _ (fun e => h.ne e)).trans h.v, h.i.spoil, h.only.trans (Only.cell W pi 2 _) (fun i hi e => by omega), h.hv, h.hi, h.ne⟩
theorem TwoAt.num {w W : World} {pv pi cp : Nat} {T : List UInt8} {K N : Int} {S : ByteArray} {a : Nat} {bad : Bool} (h : TwoAt w W pv pi cp T K N S a bad) (M : Int) : TwoAt w (W.setCell ⟨pv, 1, none⟩ (.int .u64 M)) pv pi cp T K M S a bad := by
  have h1 := h.hi; have h2 := h.hv
  exact ⟨(Below.heap_setCell _ _ _ _ (fun e => by simp at e; omega)).trans h.r, by have := heap_set h.v 1 (.int .u64 M); simpa using this, h.i.keep (Below.heap_setCell _ _ _ _ (fun e => h.ne e.symm)) (Below.heap_setCell _ _ _ _ (fun e => by simp at e; omega)), h.only.trans (Only.cell W pv 1 _) (fun i hi e => by omega), h.hv, h.hi, h.ne⟩
theorem TwoAt.str {w W : World} {pv pi cp : Nat} {T : List UInt8} {K N : Int} {S : ByteArray} {a : Nat} {bad : Bool} (h : TwoAt w W pv pi cp T K N S a bad) (R : ByteArray) : TwoAt w (W.setCell ⟨pv, 2, none⟩ (.string R)) pv pi cp T K N R a bad := by
  have h1 := h.hi; have h2 := h.hv
  exact ⟨(Below.heap_setCell _ _ _ _ (fun e => by simp at e; omega)).trans h.r, by have := heap_set h.v 2 (.string R); simpa using this, h.i.keep (Below.heap_setCell _ _ _ _ (fun e => h.ne e.symm)) (Below.heap_setCell _ _ _ _ (fun e => by simp at e; omega)), h.only.trans (Only.cell W pv 2 _) (fun i hi e => by omega), h.hv, h.hi, h.ne⟩
theorem TwoAt.keep {w W W' : World} {pv pi cp : Nat} {T : List UInt8} {K N : Int} {S : ByteArray} {a : Nat} {bad : Bool} (h : TwoAt w W pv pi cp T K N S a bad) (ho : Only (fun _ => False) W W') : TwoAt w W' pv pi cp T K N S a bad := by
  have hk : ∀ j o, W.heap[j]? = some o → W'.heap[j]? = W.heap[j]? := fun j o hj => ho.block j (lt_of_some hj) (fun h => h)
  refine ⟨(hk _ _ h.r).trans h.r, (hk _ _ h.v).trans h.v, ⟨(hk _ _ h.i.cell).trans h.i.cell, fun j hj => ho.cellq (h.i.row j hj), h.i.le, h.i.size, h.i.cap', h.i.ne⟩, h.only.trans ho (fun _ _ h => h), h.hv, h.hi, h.ne⟩
theorem TwoAt.cells {w W : World} {pv pi cp : Nat} {T : List UInt8} {K N : Int} {S : ByteArray} {a : Nat} {bad : Bool} (h : TwoAt w W pv pi cp T K N S a bad) :
    (W.cell? ⟨pv, 0, none⟩ = some (.int .i64 K) ∧ W.cell? ⟨pv, 1, none⟩ = some (.int .u64 N) ∧ W.cell? ⟨pv, 2, none⟩ = some (.string S)) ∧ (W.frozen? ⟨pv, 0, none⟩ = false ∧ W.frozen? ⟨pv, 1, none⟩ = false ∧ W.frozen? ⟨pv, 2, none⟩ = false) := by
  simp [World.cell?, World.frozen?, h.v]
theorem TwoAt.res {w W : World} {pv pi cp : Nat} {T : List UInt8} {K N : Int} {S : ByteArray} {a : Nat} {bad : Bool} (h : TwoAt w W pv pi cp T K N S a bad) :
    (W.cell? ⟨w.heap.size, 0, none⟩ = some (.int .i64 0) ∧ W.cell? ⟨w.heap.size, 1, none⟩ = some (.int .u64 0) ∧ W.cell? ⟨w.heap.size, 2, none⟩ = some (.string ⟨#[]⟩)) ∧ (W.frozen? ⟨w.heap.size, 0, none⟩ = false ∧ W.frozen? ⟨w.heap.size, 1, none⟩ = false ∧ W.frozen? ⟨w.heap.size, 2, none⟩ = false) := by
  simp [World.cell?, World.frozen?, h.r]

end Go.Proofs.YtlmpknhekoeecaaDoor
