/-
  Joined: Disk2 Disk3 Disk4 Disk5 Disk6 Disk7 Disk8 DiskPads DiskFuses Mem2 CopyInts DiskTwice DiskCoh WalBase.
-/
import Derived.Test.YtbimhiffcdhcaaaWalJ1
import Derived.Deep.RegionHeld3
import Derived.Laws.MakeOwn
import Derived.Deep.RegionLaw
import Derived.Laws.CopyOwn
import Derived.Laws.CopyRow
import Derived.Deep.DeepCutAuto
import Derived.Deep.CutBlock
import Derived.Lib.SlBytesConst

namespace Go.Proofs.Ytbimhiffcdhcaaa
open Go Go.RowKit
set_option linter.unusedVariables false
set_option linter.unusedSimpArgs false
set_option maxRecDepth 100000

theorem Try.infoSec : (Try.prog.info? 97).map (fun i => (i.zero, i.size)) = some (some (.agg (Array.replicate 64 (.int .u8 0))), 64) := by kernel_rfl
theorem Try.sizeSec : (Try.prog.info? 97).map (·.size) = some 64 := by kernel_rfl

set_option maxRecDepth 100000 in
set_option maxHeartbeats 400000 in
theorem disk_read {w : World} {p gn gk : Nat} {vw : Value} {D : DS} (h : DiskAt w p gn gk vw D) (i : Nat) (hi : i < D.n) :
    Calls Try.prog 35 #[.pointer (some ⟨p, 0, none⟩), .int .i64 i] w fun e w' => e = .returned (.tuple #[.slice (some ⟨w.heap.size, 0, none⟩) 64 64, .int .i64 0]) ∧ w.alloc (.cells (u8s (sec D.N i)).toArray 97) = w' := by
  have hc : w.cell? ⟨p, 0, none⟩ = some (.slice (some ⟨gn, 0, none⟩) D.n D.n) := h.cell 0
  have hn := h.ok.n
  have hh := disk_has h i
  have e1 : D.has i = true := by simp [DS.has]; omega
  rw [e1] at hh
  have hk0 : (0 : Int) ≤ (i : Int) := by omega
  have hk1 : (i : Int) < (D.n : Int) := by omega
  have hl := sec_length h.ok.N hi
  have HR : Hid (w.rangeAt gn (i * 64) (u8s (sec D.N i))) := Lib.hid (range_of_row h.now _ _)
  have H1 : Hid ((u8s (sec D.N i)).length = 64) := Lib.hid (by rw [u8s_length, hl])
  have H2 := Lib.hid hh
  have H3 : Hid ((u8s (sec D.N i)).toArray.all (·.oneCell') = true) := Lib.hid (all_oneCell_toArray (u8s_oneCell _))
  generalize u8s (sec D.N i) = cs at *
  clear h e1 hl hh
  go_enter Try.func35, Try.ntmps35
  go_wp2_with (first | (go_at_call 47; refine H2.out.mono ?_; rintro e w' ⟨rfl, rfl⟩) | (refine wpList_load_mid rfl 97 (.tmp 18) rfl gn (i * 64) rfl cs _ HR.out Try.underlying97 rfl (by rw [Try.sizeSec, H1.out]) ?_) |
     (refine wpList_alloc_store rfl rfl 97 (.tmp 6) (.tmp 19) rfl rfl _ 64 Try.infoSec rfl cs.toArray (by rw [List.size_toArray, H1.out]) H3.out rfl rfl ?_))
  go_ret2
  exact ⟨rfl, rfl⟩


set_option maxHeartbeats 400000 in
theorem disk_read_nil (w : World) (i : Int) :
    Calls Try.prog 35 #[.pointer none, .int .i64 i] w fun e w' => e = .returned (.tuple #[.slice none 0 0, .int .i64 11]) ∧ w = w' := by
  go_enter Try.func35, Try.ntmps35
  go_wp2
  go_ret2
  exact ⟨rfl, rfl⟩

set_option maxHeartbeats 400000 in
theorem disk_read_arg {w : World} {p gn gk : Nat} {vw : Value} {D : DS} (h : DiskAt w p gn gk vw D) (i : Int) (hi : D.has i = false) :
    Calls Try.prog 35 #[.pointer (some ⟨p, 0, none⟩), .int .i64 i] w fun e w' => e = .returned (.tuple #[.slice none 0 0, .int .i64 1]) ∧ w = w' := by
  have hh := disk_has h i
  rw [hi] at hh
  have H2 := Lib.hid hh
  clear h hh hi
  go_enter Try.func35, Try.ntmps35
  go_wp2_with (go_at_call 47; refine H2.out.mono ?_; rintro e w' ⟨rfl, rfl⟩)
  go_ret2
  exact ⟨rfl, rfl⟩

set_option maxHeartbeats 400000 in
theorem disk_new_arg (n : Int) (w : World) (hn : n < 8 ∨ 4096 < n) :
    Calls Try.prog 12 #[.int .i64 n] w fun e w' => e = .returned (.tuple #[.pointer none, .int .i64 1]) ∧ w = w' := by
  rcases hn with h | h
  · go_enter Try.func12, Try.ntmps12
    go_wp2
    go_ret2
    exact ⟨rfl, rfl⟩
  · have h' : ¬ n < 8 := by omega
    go_enter Try.func12, Try.ntmps12
    go_wp2
    go_ret2
    exact ⟨rfl, rfl⟩

theorem made_sectors (n : Nat) : madeCells (Array.replicate 64 (Value.int .u8 0)) (n * 64) = (u8s (List.replicate (n * 64) 0)).toArray := by
  apply Array.ext_getElem?
  intro j
  by_cases h : j < n * 64
  · have h1 : j % 64 < 64 := Nat.mod_lt _ (by omega)
    simp [madeCells, u8s, h, h1]
  · simp [madeCells, u8s, h]
theorem run_make_sectors (n : Nat) (hn : n ≤ 4096) (w : World) : (Instr.makeSlice 76 (.int .i64 (n : Int)) (.int .i64 (n : Int))).run Try.prog w =
    .ok (.slice (some ⟨w.heap.size, 0, none⟩) n n) (w.alloc (.cells (u8s (List.replicate (n * 64) 0)).toArray 97)) := by
  have h0 : (Try.prog.info? 97).map (fun i => (i.zero, i.size, i.bytes)) = some (some (.agg (Array.replicate 64 (.int .u8 0))), 64, 64) := by kernel_rfl
  obtain ⟨i, hi, hz, hs, hb⟩ := info_parts h0
  have := run_make (P := Try.prog) w 76 97 i (.agg (Array.replicate 64 (.int .u8 0))) Try.underlying76 hi hz .i64 .i64 (n : Int) (n : Int) (by omega) (Int.le_refl _) (by rw [hb]; omega) (by omega)
  rw [this]
  simp only [Int.toNat_natCast, hs, Value.cells, made_sectors]

theorem DS.new_ok {n : Nat} (hn : n ≤ 4096) : (DS.new n).Ok := ⟨hn, by simp [DS.new], by simp [DS.new], by simp [DS.new], by simp [DS.new]⟩
theorem disk_made {w : World} {n : Nat} (hn : n ≤ 4096) {C : Array Value} (hC : C = (u8s (List.replicate (n * 64) 0)).toArray) (a b : Nat) (hab : a = w.heap.size ∧ b = w.heap.size + 1 ∨ a = w.heap.size + 1 ∧ b = w.heap.size) :
    DiskAt (((w.alloc (.cells C 97)).alloc (.cells C 97)).alloc (.cells #[.slice (some ⟨a, 0, none⟩) n n, .slice (some ⟨b, 0, none⟩) n n, .slice none 0 0, .int .i64 (-1), .bool false, .int .i64 0, .int .i64 0] 79)) (w.heap.size + 2) a b (.slice none 0 0) (DS.new n) := by
  subst hC
  have h1 := heap_alloc_new w (.cells (u8s (List.replicate (n * 64) 0)).toArray 97)
  have h2 := heap_alloc_new (w.alloc (.cells (u8s (List.replicate (n * 64) 0)).toArray 97)) (.cells (u8s (List.replicate (n * 64) 0)).toArray 97)
  have s1 : (w.alloc (.cells (u8s (List.replicate (n * 64) 0)).toArray 97)).heap.size = w.heap.size + 1 := by simp
  rw [s1] at h2
  have h3 := fun o => heap_alloc_new ((w.alloc (.cells (u8s (List.replicate (n * 64) 0)).toArray 97)).alloc (.cells (u8s (List.replicate (n * 64) 0)).toArray 97)) o
  have s2 : ((w.alloc (.cells (u8s (List.replicate (n * 64) 0)).toArray 97)).alloc (.cells (u8s (List.replicate (n * 64) 0)).toArray 97)).heap.size = w.heap.size + 2 := by simp
  rw [s2] at h3
  have k1 : ∀ o, (((w.alloc (.cells (u8s (List.replicate (n * 64) 0)).toArray 97)).alloc (.cells (u8s (List.replicate (n * 64) 0)).toArray 97)).alloc o).heap[w.heap.size]? = some (.cells (u8s (List.replicate (n * 64) 0)).toArray 97 (0, 0)) := fun o => by
    rw [Below.heap_alloc _ _ _ (by omega), Below.heap_alloc _ _ _ (by omega)]; exact h1
  have k2 : ∀ o, (((w.alloc (.cells (u8s (List.replicate (n * 64) 0)).toArray 97)).alloc (.cells (u8s (List.replicate (n * 64) 0)).toArray 97)).alloc o).heap[w.heap.size + 1]? = some (.cells (u8s (List.replicate (n * 64) 0)).toArray 97 (0, 0)) := fun o => by
    rw [Below.heap_alloc _ _ _ (by omega)]; exact h2
  rcases hab with ⟨rfl, rfl⟩ | ⟨rfl, rfl⟩
  · exact ⟨DS.new_ok hn, h3 _, k1 _, k2 _, World.ownsRow_nil _ _ _ _, by omega⟩
  · exact ⟨DS.new_ok hn, h3 _, k2 _, k1 _, World.ownsRow_nil _ _ _ _, by omega⟩

set_option maxRecDepth 100000 in
set_option maxHeartbeats 400000 in
theorem disk_new (n : Nat) (w : World) (h8 : 8 ≤ n) (hn : n ≤ 4096) :
    Calls Try.prog 12 #[.int .i64 n] w fun e w' => e = .returned (.tuple #[.pointer (some ⟨w.heap.size + 2, 0, none⟩), .int .i64 0]) ∧ ∃ gn gk, DiskAt w' (w.heap.size + 2) gn gk (.slice none 0 0) (DS.new n) ∧ w.heap.size ≤ gn ∧ w.heap.size ≤ gk ∧ Only (fun _ => False) w w' := by
  have h8' : ¬ (n : Int) < 8 := by omega
  have hn' : ¬ 4096 < (n : Int) := by omega
  have hmk := run_make_sectors n hn
  have HM := fun (a b : Nat) hab => disk_made (w := w.drew) hn (C := (u8s (List.replicate (n * 64) 0)).toArray) rfl a b hab
  generalize (u8s (List.replicate (n * 64) 0)).toArray = C at hmk HM
  have HM := Lib.hid HM
  go_enter Try.func12, Try.ntmps12
  go_wp2
  go_region
  all_goals
    go_wp2
    go_ret2
    have hO := ((((Only.refl (fun _ => False) w).drew).alloc (.cells C 97)).alloc (.cells C 97))
    first
      | exact ⟨rfl, w.heap.size, w.heap.size + 1, HM.out _ _ (.inl ⟨rfl, rfl⟩), Nat.le_refl _, Nat.le_succ _, hO.alloc _⟩
      | exact ⟨rfl, w.heap.size + 1, w.heap.size, HM.out _ _ (.inr ⟨rfl, rfl⟩), Nat.le_succ _, Nat.le_refl _, hO.alloc _⟩

end Go.Proofs.Ytbimhiffcdhcaaa

namespace Go.Proofs.Ytbimhiffcdhcaaa
open Go Go.RowKit
set_option linter.unusedVariables false
set_option linter.unusedSimpArgs false
set_option maxRecDepth 100000

theorem Try.infoWr : (Try.prog.info? 99).map (fun i => (i.zero, i.size)) = some (some (.agg (#[.int .i64 0] ++ Array.replicate 64 (.int .u8 0))), 65) := by kernel_rfl
theorem Try.infoWr3 : (Try.prog.info? 99).map (fun i => (i.zero, i.size, i.bytes)) = some (some (.agg (#[.int .i64 0] ++ Array.replicate 64 (.int .u8 0))), 65, 72) := by kernel_rfl

set_option maxHeartbeats 400000 in
theorem disk_write_nil (w : World) (i : Int) (v : Value) :
    Calls Try.prog 30 #[.pointer none, .int .i64 i, v] w fun e w' => e = .returned (.int .i64 11) ∧ w = w' := by
  go_enter Try.func30, Try.ntmps30
  go_wp2
  go_ret
  exact ⟨rfl, rfl⟩

set_option maxHeartbeats 400000 in
theorem disk_write_far {w : World} {p gn gk : Nat} {vw : Value} {D : DS} (h : DiskAt w p gn gk vw D) (i : Int) (v : Value) (hi : D.has i = false) :
    Calls Try.prog 30 #[.pointer (some ⟨p, 0, none⟩), .int .i64 i, v] w fun e w' => e = .returned (.int .i64 1) ∧ w = w' := by
  have hh := disk_has h i
  rw [hi] at hh
  have H2 := Lib.hid hh
  clear h hh hi
  go_enter Try.func30, Try.ntmps30
  go_wp2_with (go_at_call 47; refine H2.out.mono ?_; rintro e w' ⟨rfl, rfl⟩)
  go_ret
  exact ⟨rfl, rfl⟩

set_option maxHeartbeats 400000 in
theorem disk_write_long {w : World} {p gn gk : Nat} {vw : Value} {D : DS} (h : DiskAt w p gn gk vw D) (i : Int) (ao : Option Addr) (n c : Nat) (hi : D.has i = true) (hn : 64 < n) :
    Calls Try.prog 30 #[.pointer (some ⟨p, 0, none⟩), .int .i64 i, .slice ao n c] w fun e w' => e = .returned (.int .i64 1) ∧ w = w' := by
  have hh := disk_has h i
  rw [hi] at hh
  have H2 := Lib.hid hh
  have hn' : (64 : Int) < (n : Int) := by omega
  clear h hh hi
  go_enter Try.func30, Try.ntmps30
  go_wp2_with (go_at_call 47; refine H2.out.mono ?_; rintro e w' ⟨rfl, rfl⟩)
  go_ret
  exact ⟨rfl, rfl⟩

theorem built_wr (i : Int) : Try.prog.built 99 [(0, Value.int .i64 i)] = some (Value.int .i64 i :: u8s (List.replicate 64 0)).toArray := by kernel_rfl
theorem Try.sizeU8 : (Try.prog.info? 5).map (·.size) = some 1 := by kernel_rfl
/-- copy of bytes into the block that was made last. -/
theorem wpList_copy_new {ops : Array Oper} {rest : List Oper} {o : Oper} {a : Act} {w : World} {Q : Exit → Act → World → Prop} (hgd : o.guard = none) (d s : Operand) (ho : o.op = .call { callee := .builtin .copy, args := #[d, s], argTypes := #[48, 48] })
    (cur : List Value) (t : TypeId) (off dLen dCap : Nat) (hd : a.eval d = .slice (some ⟨w.heap.size, off, none⟩) dLen dCap) (v : Value) (hs : a.eval s = v) (b : List UInt8) (hv : SlC w v b) (hb : b.length ≤ dLen) (hfit : off + b.length ≤ cur.length)
    (h : wpList Try.prog ops Q rest (a.put o.dst (goInt b.length)) (w.alloc (.cells (cur.take off ++ (u8s b ++ cur.drop (off + b.length))).toArray t))) : wpList Try.prog ops Q (o :: rest) a (w.alloc (.cells cur.toArray t)) := by
  by_cases h0 : b = []
  · subst h0
    obtain ⟨ao, c, rfl⟩ := hv.shape
    refine wpList_copy_nothing hgd d s _ _ ho 5 Try.underlying48 Try.sizeU8 _ ao dLen dCap 0 c hd hs (by simp) ?_
    simpa [u8s] using h
  · rcases hv with ⟨rfl, rfl⟩ | ⟨ad, c, rfl, hc⟩
    · exact (h0 rfl).elim
    · refine wpList_copy_own hgd d s _ _ ho 5 Try.underlying48 Try.sizeU8 w.heap.size off dLen dCap ad b.length c hd hs cur.toArray t (heap_alloc_new w _) (u8s b) (by rw [u8s_length]; exact (Nat.min_eq_left hb).symm) ?_ (by rw [u8s_length]; simpa using hfit) (u8s_oneCell b) ?_
      · intro j u hu
        obtain ⟨hj, rfl⟩ := u8s_get hu
        have h1 := hc j hj
        have hbl : (ad.add j).block < w.heap.size := World.block_lt_of_cell? w _ h1
        exact (World.cell?_of_block (Below.heap_alloc w _ _ hbl)).trans h1
      · rw [World.setRow_alloc_new, u8s_length]
        exact h

theorem write_cells (i : Int) (b : List UInt8) (hb : b.length ≤ 64) :
    (((Value.int .i64 i :: u8s (List.replicate 64 0)).take 1) ++ (u8s b ++ (Value.int .i64 i :: u8s (List.replicate 64 0)).drop (1 + b.length))) = Value.int .i64 i :: u8s (pad b) := by
  rw [Nat.add_comm 1, List.drop_succ_cons, ← u8s_drop, ← u8s_append, List.drop_replicate]
  rfl

theorem DS.last_same (D : DS) : D.last.n = D.n ∧ D.last.N = D.N ∧ D.last.K = D.K ∧ D.last.W = D.W ∧ D.last.wr = D.wr ∧ D.last.sy = D.sy := by
  unfold DS.last
  repeat' split
  all_goals exact ⟨rfl, rfl, rfl, rfl, rfl, rfl⟩
theorem DiskAt.alloc {w : World} {p gn gk : Nat} {vw : Value} {D : DS} (h : DiskAt w p gn gk vw D) (o : Obj) : DiskAt (w.alloc o) p gn gk vw D :=
  h.keep fun k hk => Below.heap_alloc _ _ _ (Stab.lt (I := DiskR p D) (F := Foot p gn gk vw) ⟨gn, gk, vw, h, fun _ => Iff.rfl⟩ k hk)

theorem u8s_put (N : List UInt8) (i : Nat) (s : List UInt8) (h : s.length = 64) : (u8s N).take (i * 64) ++ u8s s ++ (u8s N).drop (i * 64 + (u8s s).length) = u8s (put N i s) := by
  rw [u8s_length, h, put, u8s_append, u8s_append, u8s_take, u8s_drop]
/-- A sector of what is seen, or of what is kept, is written over. -/
theorem DiskAt.layN {w : World} {p gn gk : Nat} {vw : Value} {D : DS} (h : DiskAt w p gn gk vw D) {i : Nat} (hi : i < D.n) {s : List UInt8} (hs : s.length = 64) :
    DiskAt (w.setCells gn (i * 64) (u8s s)) p gn gk vw { D with N := put D.N i s } := by
  obtain ⟨n1, n2⟩ := h.np
  have hh := heap_setCells gn _ (u8s s) (i * 64) w (u8s D.N) h.now (by rw [u8s_length, u8s_length, hs, h.ok.N]; omega)
  rw [u8s_put D.N i s hs] at hh
  refine ⟨⟨h.ok.n, put_length h.ok.N hi hs, h.ok.K, h.ok.W, h.ok.fuse⟩, ?_, hh, ?_, own_keepAt h.row (fun k e => heap_setCells_other _ _ _ _ _ (fun e2 => h.nw.1 (by rw [e, e2]))), h.ne⟩
  · exact (heap_setCells_other _ _ _ _ _ (fun e => n1 e.symm)).trans h.at'
  · exact (heap_setCells_other _ _ _ _ _ (fun e => h.ne e.symm)).trans h.kept
theorem DiskAt.layK {w : World} {p gn gk : Nat} {vw : Value} {D : DS} (h : DiskAt w p gn gk vw D) {i : Nat} (hi : i < D.n) {s : List UInt8} (hs : s.length = 64) :
    DiskAt (w.setCells gk (i * 64) (u8s s)) p gn gk vw { D with K := put D.K i s } := by
  obtain ⟨n1, n2⟩ := h.np
  have hh := heap_setCells gk _ (u8s s) (i * 64) w (u8s D.K) h.kept (by rw [u8s_length, u8s_length, hs, h.ok.K]; omega)
  rw [u8s_put D.K i s hs] at hh
  refine ⟨⟨h.ok.n, h.ok.N, put_length h.ok.K hi hs, h.ok.W, h.ok.fuse⟩, ?_, ?_, hh, own_keepAt h.row (fun k e => heap_setCells_other _ _ _ _ _ (fun e2 => h.nw.2.1 (by rw [e, e2]))), h.ne⟩
  · exact (heap_setCells_other _ _ _ _ _ (fun e => n2 e.symm)).trans h.at'
  · exact (heap_setCells_other _ _ _ _ _ (fun e => h.ne e)).trans h.now

/-- Behind the append of a write that waits, ahead of its store into the disk's field. -/
structure WrMid (w : World) (p gn gk : Nat) (vw : Value) (D : DS) (i : Nat) (s : List UInt8) (v1 : Value) (w1 : World) : Prop where
  disk : DiskAt w p gn gk vw D
  hi : i < D.n
  hs : s.length = 64
  own : w1.ownsRow 0 99 65 v1 (D.W.length + 1) (wcells (D.W ++ [(i, s)]))
  row : v1.ownBlock = vw.ownBlock ∨ ∃ g, v1.ownBlock = some g ∧ w.heap.size ≤ g
  only : Only (fun k => vw.ownBlock = some k) w w1
theorem WrMid.at' {w w1 : World} {p gn gk i : Nat} {vw v1 : Value} {D : DS} {s : List UInt8} (h : WrMid w p gn gk vw D i s v1 w1) :
    w1.heap[p]? = some (.cells #[.slice (some ⟨gn, 0, none⟩) D.n D.n, .slice (some ⟨gk, 0, none⟩) D.n D.n, vw, .int .i64 D.fuse, .bool D.down, .int .i64 D.wr, .int .i64 D.sy] 79 (0, 0)) :=
  h.only.keep h.disk.at' h.disk.nw.2.2
theorem WrMid.done {w w1 : World} {p gn gk i : Nat} {vw v1 : Value} {D : DS} {s : List UInt8} (h : WrMid w p gn gk vw D i s v1 w1) : DiskAt (w1.setCell ⟨p, 2, none⟩ v1) p gn gk v1 { D with W := D.W ++ [(i, s)] } := by
  obtain ⟨n1, n2⟩ := h.disk.np
  have hv : v1.ownBlock ≠ some p := own_type h.own h.at' (by decide)
  refine ⟨⟨h.disk.ok.n, h.disk.ok.N, h.disk.ok.K, ?_, h.disk.ok.fuse⟩, ?_, ?_, ?_, ?_, h.disk.ne⟩
  · intro x hx
    rcases List.mem_append.1 hx with hx | hx
    · exact h.disk.ok.W x hx
    · obtain rfl := List.mem_singleton.1 hx
      exact ⟨h.hi, h.hs⟩
  · rw [heap_set h.at']; rfl
  · rw [Below.heap_setCell _ _ _ _ n1]; exact h.only.keep h.disk.now h.disk.nw.1
  · rw [Below.heap_setCell _ _ _ _ n2]; exact h.only.keep h.disk.kept h.disk.nw.2.1
  · have := own_keepAt h.own (w' := w1.setCell ⟨p, 2, none⟩ v1) (fun k e => Below.heap_setCell _ _ _ _ (fun e2 => hv (by rw [e, e2])))
    simpa using this

theorem step_wr {ops : Array Oper} {o : Oper} {a : Act} {K : Act → World → Prop} {Q : Exit → Act → World → Prop} {E : Prop} (w : World) (p gn gk : Nat) (vw : Value) (D : DS) (i : Nat) (s : List UInt8) (M : List Value)
    (hD : DiskAt w p gn gk vw D) (hi : i < D.n) (hs : s.length = 64) (hM : M = .int .i64 i :: u8s s) (hlen : D.W.length ≤ 1000000) (hgd : o.guard = none) (x y : Operand)
    (ho : o.op = .call { callee := .builtin .append, args := #[x, y], argTypes := #[77, 77] })
    (hx : a.eval x = vw) (hy : a.eval y = .slice (some ⟨w.heap.size, 0, none⟩) 1 1)
    (h : ∀ g cap w1, w1.cell? ⟨p, 2, none⟩ = some vw → w1.frozen? ⟨p, 2, none⟩ = false → Hid (WrMid w p gn gk vw D i s (.slice (some ⟨g, 0, none⟩) (D.W.length + 1) cap) w1) →
      K (a.put o.dst (.slice (some ⟨g, 0, none⟩) (D.W.length + 1) cap)) w1) :
    if Region.wanted o (yielded ops a.tmps) = true then Oper.wp Try.prog o a (w.alloc (.cells M.toArray 99)).drew K Q else E := by
  obtain ⟨i0, hi0, hz0, hz1, hz2⟩ := info_parts Try.infoWr3
  have hM1 : M.length = 65 := by rw [hM]; simp [u8s_length, hs]
  refine step_append_lies (P := Try.prog) (w.alloc (.cells M.toArray 99)).drew hgd x y 77 ho 0 99 i0 _ 65 72 Try.underlying77 hi0 hz0 hz1 hz2 rfl (by decide) vw D.W.length (wcells D.W) hx
    ((hD.row.alloc _).drew) ⟨w.heap.size, 0, none⟩ 1 1 M hy (by rw [hM1]) (World.news_of_block (B := w.heap.size) (heap_alloc_new w _)) ?_ Nat.zero_lt_one (by unfold maxLen; omega) (by omega) (Nat.zero_le _) (w.heap.size + 1) (by simp) ?_
  · rw [hM]
    intro u hu
    rcases List.mem_cons.1 hu with rfl | hu
    · rfl
    · exact u8s_oneCell _ u hu
  intro g cap w1 hown hgrow hat hlt
  rw [hM, ← wcells_snoc] at hown
  have hm : WrMid w p gn gk vw D i s (.slice (some ⟨g, 0, none⟩) (D.W.length + 1) cap) w1 := by
    refine ⟨hD, hi, hs, hown, ?_, ?_⟩
    · rcases hat with h | h
      · exact .inl h.symm
      · exact .inr ⟨g, rfl, by omega⟩
    · exact ((((Only.refl (fun _ => False) w).alloc (.cells M.toArray 99)).drew).mono (fun _ _ h => h.elim)).grown hgrow (fun k _ e => e)
  have hp := hm.at'
  exact h g cap w1 (by simp [World.cell?, hp]) (by simp [World.frozen?, hp]) hm

def WrotePost (w : World) (p gn gk : Nat) (vw : Value) (D' : DS) (r : Nat) (e : Ending) (w' : World) : Prop :=
  e = .returned (.int .i64 r) ∧ ∃ v1, DiskAt w' p gn gk v1 D' ∧ (v1.ownBlock = vw.ownBlock ∨ ∃ g, v1.ownBlock = some g ∧ w.heap.size ≤ g) ∧ Only (Foot p gn gk vw) w w'

set_option maxRecDepth 100000 in
set_option maxHeartbeats 1000000 in
theorem disk_write_ok {w : World} {p gn gk : Nat} {vw : Value} {D : DS} (h : DiskAt w p gn gk vw D) (i : Nat) (v : Value) (b : List UInt8) (hi : i < D.n) (hb : b.length ≤ 64) (hl : D.lastB = true) (hv : SlO w (Foot p gn gk vw) v b) (hW : D.W.length ≤ 1000000) (hwr : D.wr ≤ 1000000) :
    Calls Try.prog 30 #[.pointer (some ⟨p, 0, none⟩), .int .i64 i, v] w (WrotePost w p gn gk vw (D.last.lay i (pad b)) 0) := by
  have hh := disk_has h i
  have e1 : D.has i = true := by simp [DS.has]; omega
  rw [e1] at hh
  have hla := disk_lasts h
  rw [hl] at hla
  obtain ⟨ao, c, rfl⟩ := hv.1.shape
  have hb' : ¬ (64 : Int) < (b.length : Int) := by omega
  have hn := h.ok.n
  have H2 := Lib.hid hh
  have H3 := Lib.hid hla
  have HV := Lib.hid hv
  have H4 := Lib.hid h
  have HB := Lib.hid hb
  have hbd : decide ((64 : Int) < (b.length : Int)) = false := decide_eq_false hb'
  obtain ⟨L, hL⟩ : ∃ L, L = Value.int .i64 (i : Int) :: u8s (List.replicate 64 0) := ⟨_, rfl⟩
  have hbu : Try.prog.built 99 [(0, Value.int .i64 (i : Int))] = some L.toArray := by rw [hL]; exact built_wr i
  have HL1 : Hid (L.toArray.size = 65) := Lib.hid (by rw [hL]; rfl)
  have HL2 : Hid (L.toArray.all (·.oneCell') = true) := Lib.hid (by rw [hL]; exact all_oneCell_toArray (fun v hv => by rcases List.mem_cons.1 hv with rfl | hv; rfl; exact u8s_oneCell _ v hv))
  have HL3 : Hid (1 + b.length ≤ L.length) := Lib.hid (by have : L.length = 65 := (by rw [hL]; rfl); omega)
  obtain ⟨M, hM⟩ : ∃ M, M = Value.int .i64 (i : Int) :: u8s (pad b) := ⟨_, rfl⟩
  have HM : Hid (L.take 1 ++ (u8s b ++ L.drop (1 + b.length)) = M) := Lib.hid (by rw [hL, hM]; exact write_cells i b hb)
  have HBU := Lib.hid hbu
  have HMM := Lib.hid hM
  clear h hh hla e1 hv hl hb hL hbu hM
  go_enter Try.func30, Try.ntmps30
  go_upto_region 7 with (first | (go_at_call 47; refine H2.out.mono ?_; rintro e w' ⟨rfl, rfl⟩) | (go_at_call 48; refine H3.out.mono ?_; rintro e w1 ⟨rfl, h1, o1⟩; have H1 := Lib.hid h1; have O1 := Lib.hid o1; clear h1 o1))
  go_upto_region 8 with (first | (refine wpList_build_one rfl 99 0 (.tmp 22) rfl _ rfl L.toArray HBU.out ?_) | (refine wpList_alloc_store rfl rfl 99 (.tmp 7) (.tmp 23) rfl rfl _ 65 Try.infoWr rfl L.toArray HL1.out HL2.out rfl rfl ?_))
  have HV1 : Hid (SlC w1 (.slice ao b.length c) b) := Lib.hid (HV.out.keep (O1.out.mono (fun k _ e => .inl e))).1
  go_wp2_with (refine wpList_copy_new rfl (.tmp 25) (.tmp 26) rfl L 99 1 64 64 rfl (.slice ao b.length c) rfl b HV1.out HB.out HL3.out ?_)
  rw [HM.out]
  simp only [Act.put, List.setIfInBounds_toArray, List.set_cons_succ, List.set_cons_zero]
  have h2 := H1.out.alloc (.cells M.toArray 99)
  have hg := heap_alloc_new w1 (.cells M.toArray 99)
  have o2 := O1.out.alloc (.cells M.toArray 99)
  have hgs : w1.heap.size < (w1.alloc (.cells M.toArray 99)).heap.size := by simp
  have hgp : w.heap.size ≤ w1.heap.size := O1.out.size
  have HGV : Hid (vw.ownBlock ≠ some w1.heap.size) := Lib.hid (fun e => Nat.lt_irrefl _ (own_lt H1.out.row e))
  generalize w1.alloc (.cells M.toArray 99) = w2 at *
  generalize w1.heap.size = g at *
  obtain ⟨E, hE⟩ : ∃ E, E = D.last := ⟨_, rfl⟩
  rw [← hE] at h2
  have hiE : i < E.n := by rw [hE, (DS.last_same D).1]; exact hi
  have hiI : (i : Int) < (E.n : Int) := by omega
  have hi0 : (0 : Int) ≤ (i : Int) := by omega
  have hnE := h2.ok.n
  have hc0 : w2.cell? ⟨p, 0, none⟩ = some (.slice (some ⟨gn, 0, none⟩) E.n E.n) := h2.cell 0
  have hl64 : (u8s (pad b)).length = 64 := by rw [u8s_length, pad_length HB.out]
  have hr : w2.rangeAt g 1 (u8s (pad b)) := by
    have := range_of_list (L := M) hg 1 64
    rw [HMM.out, List.drop_succ_cons, List.drop_zero, List.take_of_length_le (by omega)] at this
    exact this
  have ht : w2.there gn (i * 64) 64 := there_of_row h2.now (by simp [u8s_length, h2.ok.N]; omega)
  have h1c := u8s_oneCell (pad b)
  obtain ⟨cs, hcs⟩ : ∃ cs, cs = u8s (pad b) := ⟨_, rfl⟩
  rw [← hcs] at hl64 hr h1c
  have HCS := Lib.hid hcs
  clear hcs
  have hu := Try.underlying97
  have hsz : (Try.prog.info? 97).map (·.size) = some cs.length := by rw [Try.sizeSec, hl64]
  have H5 := Lib.hid h2
  have H6 := Lib.hid hg
  have H7 := Lib.hid o2
  have H8 := Lib.hid hE
  clear h2 hg o2 hE
  have hgn : g ≠ gn := fun e => by have a := H6.out; have b := H5.out.now; rw [e, b] at a; simp at a
  have hpn : p ≠ gn := fun e => H5.out.np.1 e.symm
  have HK : Hid (∀ w' : World, (w'.cell? ⟨p, 0, none⟩ = some (.slice (some ⟨gn, 0, none⟩) E.n E.n) ∧ w'.rangeAt g 1 cs ∧ w'.there gn (i * 64) 64) →
      ((w'.setCells gn (i * 64) cs).cell? ⟨p, 0, none⟩ = some (.slice (some ⟨gn, 0, none⟩) E.n E.n) ∧ (w'.setCells gn (i * 64) cs).rangeAt g 1 cs ∧ (w'.setCells gn (i * 64) cs).there gn (i * 64) 64)) := Lib.hid fun w' h =>
    ⟨by rw [World.cell?_of_block (heap_setCells_other gn cs (i * 64) w' p hpn)]; exact h.1, World.rangeAt_setCells_apart h.2.1 _ _ _ (.inl hgn), World.there_setCells h.2.2 _ _ _⟩
  have HS0 : Hid (w2.drew.cell? ⟨p, 0, none⟩ = some (.slice (some ⟨gn, 0, none⟩) E.n E.n) ∧ w2.drew.rangeAt g 1 cs ∧ w2.drew.there gn (i * 64) 64) := Lib.hid ⟨hc0, hr, ht⟩
  clear hgn hpn
  go_region_held3 (fun w' => w'.cell? ⟨p, 0, none⟩ = some (.slice (some ⟨gn, 0, none⟩) E.n E.n) ∧ w'.rangeAt g 1 cs ∧ w'.there gn (i * 64) 64) (first | exact HS0.out | exact HK.out _ HS0.out) (fail)
  have h3 := (H5.out.keep (w' := w2.drew) (fun _ _ => rfl)).layN hiE (pad_length HB.out)
  rw [← HCS.out] at h3
  have g3 : (w2.drew.setCells gn (i * 64) cs).heap[g]? = some (.cells M.toArray 99 (0, 0)) :=
    (heap_setCells_other gn cs (i * 64) w2.drew g (fun e => by have a := H6.out; have b := H5.out.now; rw [e, b] at a; simp at a)).trans H6.out
  have o3 := ((H7.out.mono (T := Foot p gn gk vw) (fun _ _ e => .inl e)).drew).trans (Only.setCells w2.drew gn (i * 64) cs) (fun k _ e => .inr (.inl e))
  clear hc0 hr ht HK HS0
  generalize w2.drew.setCells gn (i * 64) cs = w3 at *
  have hM65 : M.toArray.size = 65 := by rw [HMM.out]; simp [u8s_length, pad_length HB.out]
  have c2 : w3.cell? ⟨p, 2, none⟩ = some vw := h3.cell 2
  have f2 : w3.frozen? ⟨p, 2, none⟩ = false := h3.free 2
  have c2' : (w3.alloc (.cells M.toArray 99)).cell? ⟨p, 2, none⟩ = some vw := (h3.alloc _).cell 2
  have hbs := fun w => run_buildSlice_one (P := Try.prog) w 77 99 _ 65 Try.underlying77 Try.infoWr rfl (by decide) (by decide) M.toArray hM65
  have hrM : w3.drew.rangeAt g 0 M := by
    have := range_of_list (L := M) (w := w3.drew) g3 0 65
    rwa [List.drop_zero, List.take_of_length_le (by simpa using Nat.le_of_eq hM65)] at this
  have hMl : (Try.prog.info? 99).map (·.size) = some M.length := by rw [(zero_of_info Try.infoWr).2]; exact congrArg some (by simpa using hM65.symm)
  have HMl := Lib.hid hMl
  have hgp3 : g ≠ p := fun e => by have a := h3.at'; rw [← e, g3] at a; simp at a
  have HGP := Lib.hid hgp3
  clear hgp3 hMl
  have hWE : E.W.length ≤ 1000000 := by rw [H8.out, (DS.last_same D).2.2.2.1]; exact hW
  have H9 := Lib.hid h3
  have H10 := Lib.hid o3
  have HM65 := Lib.hid hM65
  clear h3 g3 o3 hM65 hsz hu h1c hl64 H5 H6 H7
  go_upto_region 10 with fail
  refine wp_region_held_drew (S := (fun w' => w'.rangeAt g 0 M)) (by kernel_rfl) ?_ (fun hHeld => ?_)
  · exact hrM
  refine wpAnyH_take (i := 0) (oi := ?_) (v := ?_) ?_ (by kernel_rfl) (by kernel_rfl) (by kernel_rfl) ?_ (Or.inl ⟨?_, ?_⟩) (by assumption) ?_
  rotate_left 2
  · (simp only [List.getElem?_toArray, List.getElem?_cons_zero]; rfl)
  · exact fun _ _ _ h => h
  · rfl
  · (intro w hSw; (try dsimp only at hSw); go_simp <;> with_reducible rfl)
  (try simp only [Act.put, List.setIfInBounds_toArray, List.set_cons_zero, List.set_cons_succ])
  refine wpAnyH_take (i := 1) (oi := ?_) (v := ?_) ?_ (by kernel_rfl) (by kernel_rfl) (by kernel_rfl) ?_ (Or.inl ⟨?_, ?_⟩) (by assumption) ?_
  rotate_left 2
  · (simp only [List.getElem?_toArray, List.getElem?_cons_succ, List.getElem?_cons_zero]; rfl)
  · exact fun _ _ _ h => h
  · rfl
  · (intro w hSw; (try dsimp only at hSw); go_simp <;> with_reducible rfl)
  (try simp only [Act.put, List.setIfInBounds_toArray, List.set_cons_zero, List.set_cons_succ])
  refine wpAnyH_take (i := 2) (oi := ?_) (v := ?_) ?_ (by kernel_rfl) (by kernel_rfl) (by kernel_rfl) ?_ (Or.inl ⟨?_, ?_⟩) (by assumption) ?_
  rotate_left 2
  · (simp only [List.getElem?_toArray, List.getElem?_cons_succ, List.getElem?_cons_zero]; rfl)
  · exact fun _ _ _ h => h
  · rfl
  · (intro w hSw; (try dsimp only at hSw); go_simp <;> with_reducible rfl)
  (try simp only [Act.put, List.setIfInBounds_toArray, List.set_cons_zero, List.set_cons_succ])
  refine wpAnyH_take (i := 3) (oi := ?_) (v := ?_) ?_ (by kernel_rfl) (by kernel_rfl) (by kernel_rfl) ?_ (Or.inl ⟨?_, ?_⟩) (by assumption) ?_
  rotate_left 2
  · (simp only [List.getElem?_toArray, List.getElem?_cons_succ, List.getElem?_cons_zero]; rfl)
  · exact fun _ _ _ h => h
  · rfl
  · (intro w hSw; (try dsimp only at hSw); go_simp <;> with_reducible rfl)
  (try simp only [Act.put, List.setIfInBounds_toArray, List.set_cons_zero, List.set_cons_succ])
  refine wpAnyH_take (i := 5) (oi := ?_) (v := ?_) ?_ (by kernel_rfl) (by kernel_rfl) (by kernel_rfl) ?_ ?_ (by assumption) ?_
  rotate_left 2
  · (simp only [List.getElem?_toArray, List.getElem?_cons_succ, List.getElem?_cons_zero]; rfl)
  · exact fun _ _ _ h => h
  · (refine yieldsIf_load_mid ?_ 99 (.tmp 7) ?_ g 0 ?_ M _ (fun _ h => h) Try.underlying99 rfl HMl.out <;> rfl)
  (try simp only [Act.put, List.setIfInBounds_toArray, List.set_cons_zero, List.set_cons_succ])
  have hs1 : Hid ((w3.alloc (.cells M.toArray 99)).drew.rangeAt g 0 M) := Lib.hid (World.rangeAt_alloc (show w3.rangeAt g 0 M from hrM) _)
  have HR4 : Hid (∀ (w4 : World) (_ : Unit), Only (fun k => vw.ownBlock = some k) w3 w4 → w4.rangeAt g 0 M) := Lib.hid fun w4 _ h j v hv => by
    have h0 : w3.cell? ⟨g, 0 + j, none⟩ = some v := hrM j v hv
    rw [World.cell?_of_block (h.block g (World.block_lt_of_cell? w3 _ h0) HGV.out)]
    exact h0
  have HR5 : Hid (∀ (w4 : World) (v1 : Value) (_ : Unit), Only (fun k => vw.ownBlock = some k) w3 w4 → (w4.setCell ⟨p, 2, none⟩ v1).rangeAt g 0 M) := Lib.hid fun w4 v1 _ h j v hv => by
    rw [World.cell?_of_block (Below.heap_setCell _ _ _ _ HGP.out)]
    exact HR4.out w4 () h j v hv
  refine wpAnyH_ready (rs := [4, 6]) (by kernel_rfl) (by simp) (AllReadyH.cons (o := ?o4_1) ?h4_1 (fun K hK => ?s4_1) (AllReadyH.cons (o := ?o6_1) ?h6_1 (fun K hK => ?s6_1) AllReadyH.nil))
  case h4_1 => (simp only [List.getElem?_toArray, List.getElem?_cons_succ, List.getElem?_cons_zero]; rfl)
  case h6_1 => (simp only [List.getElem?_toArray, List.getElem?_cons_succ, List.getElem?_cons_zero]; rfl)
  case' s4_1 =>
    go_simp
    refine hK.out _ _ ?_ (fun hHeld => ?_)
    · exact hrM
    clear hK K
    (try simp only [Act.put, List.setIfInBounds_toArray, List.set_cons_zero, List.set_cons_succ])
    refine wpAnyH_ready (rs := [6]) (by kernel_rfl) (by simp) (AllReadyH.cons (o := ?o6_2) ?h6_2 (fun K hK => ?s6_2) AllReadyH.nil)
    case h6_2 => (simp only [List.getElem?_toArray, List.getElem?_cons_succ, List.getElem?_cons_zero]; rfl)
    case' s6_2 =>
      refine step_buildSlice_one rfl 77 99 _ 65 Try.underlying77 Try.infoWr rfl (by decide) (by decide) (.tmp 41) rfl M.toArray rfl HM65.out ?_
      refine hK.out _ _ ?_ (fun hHeld => ?_)
      · exact hs1.out
      clear hK K
      (try simp only [Act.put, List.setIfInBounds_toArray, List.set_cons_zero, List.set_cons_succ])
      refine wpAnyH_ready (rs := [7]) (by kernel_rfl) (by simp) (AllReadyH.cons (o := ?o7_3) ?h7_3 (fun K hK => ?s7_3) AllReadyH.nil)
      case h7_3 => (simp only [List.getElem?_toArray, List.getElem?_cons_succ, List.getElem?_cons_zero]; rfl)
      case' s7_3 =>
        (refine step_wr w3 p gn gk vw _ i (pad b) M H9.out hiE (pad_length HB.out) HMM.out hWE rfl (.tmp 40) (.tmp 42) rfl ?_ ?_ ?_; (go_must (simp [Act.eval])); (go_must (simp [Act.eval])); (go_must (intro g2 cap w4 c4 f4 HM4)))
        refine hK.out _ _ ?_ (fun hHeld => ?_)
        · exact HR4.out _ () HM4.out.only
        clear hK K
        (try simp only [Act.put, List.setIfInBounds_toArray, List.set_cons_zero, List.set_cons_succ])
        refine wpAnyH_take (i := 8) (oi := ?_) (v := ?_) ?_ (by kernel_rfl) (by kernel_rfl) (by kernel_rfl) ?_ (Or.inl ⟨?_, ?_⟩) (by assumption) ?_
        rotate_left 2
        · (simp only [List.getElem?_toArray, List.getElem?_cons_succ, List.getElem?_cons_zero]; rfl)
        · exact fun _ _ _ h => h
        · rfl
        · (intro w hSw; (try dsimp only at hSw); go_simp <;> with_reducible rfl)
        (try simp only [Act.put, List.setIfInBounds_toArray, List.set_cons_zero, List.set_cons_succ])
        refine wpAnyH_take (i := 9) (oi := ?_) (v := ?_) ?_ (by kernel_rfl) (by kernel_rfl) (by kernel_rfl) ?_ (Or.inl ⟨?_, ?_⟩) (by assumption) ?_
        rotate_left 2
        · (simp only [List.getElem?_toArray, List.getElem?_cons_succ, List.getElem?_cons_zero]; rfl)
        · exact fun _ _ _ h => h
        · rfl
        · (intro w hSw; (try dsimp only at hSw); go_simp <;> with_reducible rfl)
        (try simp only [Act.put, List.setIfInBounds_toArray, List.set_cons_zero, List.set_cons_succ])
        refine wpAnyH_ready (rs := [10]) (by kernel_rfl) (by simp) (AllReadyH.cons (o := ?o10_4) ?h10_4 (fun K hK => ?s10_4) AllReadyH.nil)
        case h10_4 => (simp only [List.getElem?_toArray, List.getElem?_cons_succ, List.getElem?_cons_zero]; rfl)
        case' s10_4 =>
          go_simp
          refine hK.out _ _ ?_ (fun hHeld => ?_)
          · exact HR5.out _ _ () HM4.out.only
          clear hK K
          (try simp only [Act.put, List.setIfInBounds_toArray, List.set_cons_zero, List.set_cons_succ])
          refine wpAnyH_done (by kernel_rfl) ?_ _
  case' s6_1 =>
    refine step_buildSlice_one rfl 77 99 _ 65 Try.underlying77 Try.infoWr rfl (by decide) (by decide) (.tmp 41) rfl M.toArray rfl HM65.out ?_
    refine hK.out _ _ ?_ (fun hHeld => ?_)
    · exact hs1.out
    clear hK K
    (try simp only [Act.put, List.setIfInBounds_toArray, List.set_cons_zero, List.set_cons_succ])
    refine wpAnyH_ready (rs := [4]) (by kernel_rfl) (by simp) (AllReadyH.cons (o := ?o4_5) ?h4_5 (fun K hK => ?s4_5) AllReadyH.nil)
    case h4_5 => (simp only [List.getElem?_toArray, List.getElem?_cons_succ, List.getElem?_cons_zero]; rfl)
    case' s4_5 =>
      go_simp
      refine hK.out _ _ ?_ (fun hHeld => ?_)
      · exact hs1.out
      clear hK K
      (try simp only [Act.put, List.setIfInBounds_toArray, List.set_cons_zero, List.set_cons_succ])
      refine wpAnyH_ready (rs := [7]) (by kernel_rfl) (by simp) (AllReadyH.cons (o := ?o7_6) ?h7_6 (fun K hK => ?s7_6) AllReadyH.nil)
      case h7_6 => (simp only [List.getElem?_toArray, List.getElem?_cons_succ, List.getElem?_cons_zero]; rfl)
      case' s7_6 =>
        (refine step_wr w3 p gn gk vw _ i (pad b) M H9.out hiE (pad_length HB.out) HMM.out hWE rfl (.tmp 40) (.tmp 42) rfl ?_ ?_ ?_; (go_must (simp [Act.eval])); (go_must (simp [Act.eval])); (go_must (intro g2 cap w4 c4 f4 HM4)))
        refine hK.out _ _ ?_ (fun hHeld => ?_)
        · exact HR4.out _ () HM4.out.only
        clear hK K
        (try simp only [Act.put, List.setIfInBounds_toArray, List.set_cons_zero, List.set_cons_succ])
        refine wpAnyH_take (i := 8) (oi := ?_) (v := ?_) ?_ (by kernel_rfl) (by kernel_rfl) (by kernel_rfl) ?_ (Or.inl ⟨?_, ?_⟩) (by assumption) ?_
        rotate_left 2
        · (simp only [List.getElem?_toArray, List.getElem?_cons_succ, List.getElem?_cons_zero]; rfl)
        · exact fun _ _ _ h => h
        · rfl
        · (intro w hSw; (try dsimp only at hSw); go_simp <;> with_reducible rfl)
        (try simp only [Act.put, List.setIfInBounds_toArray, List.set_cons_zero, List.set_cons_succ])
        refine wpAnyH_take (i := 9) (oi := ?_) (v := ?_) ?_ (by kernel_rfl) (by kernel_rfl) (by kernel_rfl) ?_ (Or.inl ⟨?_, ?_⟩) (by assumption) ?_
        rotate_left 2
        · (simp only [List.getElem?_toArray, List.getElem?_cons_succ, List.getElem?_cons_zero]; rfl)
        · exact fun _ _ _ h => h
        · rfl
        · (intro w hSw; (try dsimp only at hSw); go_simp <;> with_reducible rfl)
        (try simp only [Act.put, List.setIfInBounds_toArray, List.set_cons_zero, List.set_cons_succ])
        refine wpAnyH_ready (rs := [10]) (by kernel_rfl) (by simp) (AllReadyH.cons (o := ?o10_7) ?h10_7 (fun K hK => ?s10_7) AllReadyH.nil)
        case h10_7 => (simp only [List.getElem?_toArray, List.getElem?_cons_succ, List.getElem?_cons_zero]; rfl)
        case' s10_7 =>
          go_simp
          refine hK.out _ _ ?_ (fun hHeld => ?_)
          · exact HR5.out _ _ () HM4.out.only
          clear hK K
          (try simp only [Act.put, List.setIfInBounds_toArray, List.set_cons_zero, List.set_cons_succ])
          refine wpAnyH_done (by kernel_rfl) ?_ _
  all_goals
    have h5 := HM4.out.done
    have hwE : E.wr ≤ 1000000 := by rw [H8.out, (DS.last_same D).2.2.2.2.1]; exact hwr
    have c5 : (w4.setCell ⟨p, 2, none⟩ (.slice (some ⟨g2, 0, none⟩) (E.W.length + 1) cap)).cell? ⟨p, 5, none⟩ = some (.int .i64 E.wr) := h5.cell 5
    have f5 := h5.free 5
    have h6 := h5.set (D' := E.lay i (pad b)) 5 (.int .i64 ((E.wr + 1 : Nat) : Int)) ⟨h5.ok.n, h5.ok.N, h5.ok.K, h5.ok.W, h5.ok.fuse⟩ rfl rfl rfl rfl
    have o4 := (H10.out.trans HM4.out.only (fun k _ e => .inr (.inr (.inr e)))).trans (Only.cell w4 p 2 (.slice (some ⟨g2, 0, none⟩) (E.W.length + 1) cap)) (fun k _ e => .inl e)
    have HR6 := Lib.hid HM4.out.row
    have hw3 := H10.out.size
    generalize w4.setCell ⟨p, 2, none⟩ (.slice (some ⟨g2, 0, none⟩) (E.W.length + 1) cap) = w5 at *
    have h6' := Lib.hid h6
    have O4 := Lib.hid o4
    have HW3 := Lib.hid hw3
    have H8' := H8
    clear HR4 HR5 hs1 hrM h5 h6 o4 hw3 HM4 c4 f4 c2 f2 c2' hbs H9 H10
    go_wp2
    go_ret
    refine ⟨rfl, .slice (some ⟨g2, 0, none⟩) (E.W.length + 1) cap, ?_, ?_, O4.out.trans (Only.cell w5 p 5 _) (fun k _ e => .inl e)⟩
    · rw [← H8'.out]
      exact h6'.out
    · rcases HR6.out with h | ⟨q, hq, hge⟩
      · exact .inl h
      · exact .inr ⟨q, hq, Nat.le_trans HW3.out hge⟩

end Go.Proofs.Ytbimhiffcdhcaaa

namespace Go.Proofs.Ytbimhiffcdhcaaa
open Go Go.RowKit
set_option linter.unusedVariables false
set_option linter.unusedSimpArgs false
set_option maxRecDepth 100000

set_option maxHeartbeats 400000 in
theorem disk_write_gone {w : World} {p gn gk : Nat} {vw : Value} {D : DS} (h : DiskAt w p gn gk vw D) (i : Nat) (v : Value) (b : List UInt8) (hi : i < D.n) (hb : b.length ≤ 64) (hl : D.lastB = false) (hv : SlC w v b) :
    Calls Try.prog 30 #[.pointer (some ⟨p, 0, none⟩), .int .i64 i, v] w fun e w' => e = .returned (.int .i64 4) ∧ DiskAt w' p gn gk vw D.last ∧ Only (fun k => k = p) w w' := by
  have hh := disk_has h i
  have e1 : D.has i = true := by simp [DS.has]; omega
  rw [e1] at hh
  have hla := disk_lasts h
  rw [hl] at hla
  obtain ⟨ao, c, rfl⟩ := hv.shape
  have hb' : ¬ (64 : Int) < (b.length : Int) := by omega
  have H2 := Lib.hid hh
  have H3 := Lib.hid hla
  have hbd : decide ((64 : Int) < (b.length : Int)) = false := decide_eq_false hb'
  clear h hh hla e1 hv hl hb
  go_enter Try.func30, Try.ntmps30
  go_wp2_with (first | (go_at_call 47; refine H2.out.mono ?_; rintro e w' ⟨rfl, rfl⟩) | (go_at_call 48; refine H3.out.mono ?_; rintro e w1 ⟨rfl, h1, o1⟩; have H1 := Lib.hid h1; have O1 := Lib.hid o1; clear h1 o1))
  go_ret
  exact ⟨rfl, H1.out, O1.out⟩

/-- Write, whatever is handed in. -/
theorem disk_write {w : World} {p gn gk : Nat} {vw : Value} {D : DS} (h : DiskAt w p gn gk vw D) (i : Int) (v : Value) (b : List UInt8) (hv : SlO w (Foot p gn gk vw) v b) (hW : D.W.length ≤ 1000000) (hwr : D.wr ≤ 1000000) :
    Calls Try.prog 30 #[.pointer (some ⟨p, 0, none⟩), .int .i64 i, v] w (WrotePost w p gn gk vw (D.write i b) (D.wrE i b)) := by
  by_cases hi : D.has i = true
  · obtain ⟨n, rfl⟩ : ∃ n : Nat, i = n := ⟨i.toNat, by simp [DS.has] at hi; omega⟩
    have hin : n < D.n := by simp [DS.has] at hi; omega
    by_cases hb : b.length ≤ 64
    · have hb' : decide (64 < b.length) = false := decide_eq_false (by omega)
      cases hl : D.lastB with
      | true =>
        have e1 : D.write n b = D.last.lay n (pad b) := by simp [DS.write, hi, hb', hl]
        have e2 : D.wrE n b = 0 := by simp [DS.wrE, hi, hb', hl]
        rw [e1, e2]
        exact disk_write_ok h n v b hin hb hl hv hW hwr
      | false =>
        have e1 : D.write n b = D.last := by simp [DS.write, hi, hb', hl]
        have e2 : D.wrE n b = 4 := by simp [DS.wrE, hi, hb', hl]
        rw [e1, e2]
        refine (disk_write_gone h n v b hin hb hl hv.1).mono ?_
        rintro e w' ⟨rfl, h1, o1⟩
        exact ⟨rfl, vw, h1, .inl rfl, o1.mono (fun _ _ e => .inl e)⟩
    · have hb' : decide (64 < b.length) = true := decide_eq_true (by omega)
      have e1 : D.write n b = D := by simp [DS.write, hi, hb']
      have e2 : D.wrE n b = 1 := by simp [DS.wrE, hi, hb']
      rw [e1, e2]
      obtain ⟨ao, c, rfl⟩ := hv.1.shape
      refine (disk_write_long h n ao b.length c hi (by omega)).mono ?_
      rintro e w' ⟨rfl, rfl⟩
      exact ⟨rfl, vw, h, .inl rfl, Only.refl _ _⟩
  · have hi' : D.has i = false := by simpa using hi
    have e1 : D.write i b = D := by simp [DS.write, hi']
    have e2 : D.wrE i b = 1 := by simp [DS.wrE, hi']
    rw [e1, e2]
    refine (disk_write_far h i v hi').mono ?_
    rintro e w' ⟨rfl, rfl⟩
    exact ⟨rfl, vw, h, .inl rfl, Only.refl _ _⟩

/-- The write number j that waits, in memory. -/
theorem DiskAt.wait {w : World} {p gn gk : Nat} {ao : Option Addr} {n cap : Nat} {D : DS} (h : DiskAt w p gn gk (.slice ao n cap) D) {j : Nat} (hj : j < D.W.length) :
    ∃ gw, ao = some ⟨gw, 0, none⟩ ∧ w.rangeAt gw (j * 65) (.int .i64 (D.W[j]).1 :: u8s (D.W[j]).2) := by
  rcases h.row.2 with ⟨hv, h0⟩ | ⟨g, cap', cur, hv, _, hg, hc, hm, hs, ht⟩
  · omega
  · simp at hv
    obtain ⟨rfl, _, _⟩ := hv
    refine ⟨g, rfl, fun k v hv => ?_⟩
    have hk : k < 65 := by
      have := (List.getElem?_eq_some_iff.1 hv).1
      simpa [u8s_length, (h.ok.W _ (List.getElem_mem hj)).2] using this
    rw [← wcells_at (fun x hx => (h.ok.W x hx).2) hj k hk, ← ht, List.getElem?_take] at hv
    rw [cell_of_row w g _ _ _ _ hg]
    split at hv
    · simpa using hv
    · cases hv

end Go.Proofs.Ytbimhiffcdhcaaa

namespace Go.Proofs.Ytbimhiffcdhcaaa
open Go Go.RowKit
set_option linter.unusedVariables false
set_option linter.unusedSimpArgs false
set_option maxRecDepth 100000

set_option maxHeartbeats 400000 in
theorem disk_sync_nil (w : World) :
    Calls Try.prog 26 #[.pointer none] w fun e w' => e = .returned (.int .i64 11) ∧ w = w' := by
  go_enter Try.func26, Try.ntmps26
  go_wp2
  go_ret
  exact ⟨rfl, rfl⟩

set_option maxHeartbeats 400000 in
theorem disk_sync_gone {w : World} {p gn gk : Nat} {vw : Value} {D : DS} (h : DiskAt w p gn gk vw D) (hd : D.down = true) :
    Calls Try.prog 26 #[.pointer (some ⟨p, 0, none⟩)] w fun e w' => e = .returned (.int .i64 4) ∧ w = w' := by
  have hc : w.cell? ⟨p, 4, none⟩ = some (.bool D.down) := h.cell 4
  rw [hd] at hc
  clear h hd
  go_enter Try.func26, Try.ntmps26
  go_wp2
  go_ret
  exact ⟨rfl, rfl⟩

theorem lays_take (K : List UInt8) (W : List (Nat × List UInt8)) {j : Nat} (hj : j < W.length) : lays K (W.take (j + 1)) = put (lays K (W.take j)) (W[j]).1 (W[j]).2 := by
  rw [List.take_succ_eq_append_getElem hj, lays, List.foldl_append]
  rfl
theorem DiskAt.waits {w : World} {p gn gk : Nat} {ao : Option Addr} {n cap : Nat} {D : DS} (h : DiskAt w p gn gk (.slice ao n cap) D) : n = D.W.length := by
  rcases h.row.2 with ⟨hv, h0⟩ | ⟨g, cap', cur, hv, _⟩
  · simp at hv; omega
  · simp at hv; exact hv.2.1
/-- The list of what waits is dropped. -/
theorem DiskAt.none {w : World} {p gn gk : Nat} {vw : Value} {D : DS} (h : DiskAt w p gn gk vw D) : DiskAt (w.setCell ⟨p, 2, none⟩ (.slice none 0 0)) p gn gk (.slice none 0 0) { D with W := [] } := by
  obtain ⟨n1, n2⟩ := h.np
  refine ⟨⟨h.ok.n, h.ok.N, h.ok.K, by simp, h.ok.fuse⟩, by rw [heap_set h.at']; rfl, ?_, ?_, World.ownsRow_nil _ _ _ _, h.ne⟩
  · rw [Below.heap_setCell _ _ _ _ n1]; exact h.now
  · rw [Below.heap_setCell _ _ _ _ n2]; exact h.kept

set_option maxRecDepth 100000 in
set_option maxHeartbeats 1000000 in
theorem disk_sync_ok {w : World} {p gn gk : Nat} {vw : Value} {D : DS} (h : DiskAt w p gn gk vw D) (hd : D.down = false) (hW : D.W.length ≤ 1000000) (hsy : D.sy ≤ 1000000) :
    Calls Try.prog 26 #[.pointer (some ⟨p, 0, none⟩)] w fun e w' => e = .returned (.int .i64 0) ∧ DiskAt w' p gn gk (.slice none 0 0) D.sync ∧ Only (Foot p gn gk vw) w w' := by
  have hc4 : w.cell? ⟨p, 4, none⟩ = some (.bool D.down) := h.cell 4
  rw [hd] at hc4
  have HD := Lib.hid hd
  have hc2 : w.cell? ⟨p, 2, none⟩ = some vw := h.cell 2
  obtain ⟨ao, cap, rfl⟩ := own_shapeN h.row
  obtain ⟨m, hm⟩ : ∃ m, m = D.W.length := ⟨_, rfl⟩
  rw [← hm] at hc2 hW
  have H := Lib.hid h
  have HM := Lib.hid hm
  clear h hd
  rw [← hm] at H ⊢
  clear hm
  go_enter Try.func26, Try.ntmps26
  go_wp2_with fail
  go_loopw [16] (fun i wr => ∃ j : Nat, j ≤ m ∧ i = .int .i64 j ∧ Hid (DiskAt wr p gn gk (.slice ao m cap) { D with K := lays D.K (D.W.take j) }) ∧ Hid (Only (Foot p gn gk (.slice ao m cap)) w wr)) (fun i _ => m - (intOf i).toNat)
  case atStart => exact ⟨0, Nat.zero_le _, rfl, H.out, Lib.hid (Only.refl _ _)⟩
  case round =>
    obtain ⟨j, hj, rfl, HQ, HO⟩ := hrel
    by_cases hlt : j < m
    · have hj' : j < D.W.length := by rw [← HM.out]; exact hlt
      obtain ⟨gw, rfl, hr0⟩ := HQ.out.wait hj'
      obtain ⟨hx1, hx2⟩ := H.out.ok.W _ (List.getElem_mem hj')
      have HLT := Lib.hid (lays_take D.K D.W hj')
      change wr.rangeAt gw (j * 65) (.int .i64 (D.W[j]).1 :: u8s (D.W[j]).2) at hr0
      obtain ⟨q, hq⟩ : ∃ q, q = (D.W[j]).1 := ⟨_, rfl⟩
      obtain ⟨s, hs⟩ : ∃ s, s = (D.W[j]).2 := ⟨_, rfl⟩
      rw [← hq, ← hs] at hr0 HLT
      rw [← hq] at hx1
      rw [← hs] at hx2
      clear hq hs hj'
      have hcs1 := u8s_oneCell s
      have hcs2 : (u8s s).length = 64 := by rw [u8s_length, hx2]
      obtain ⟨cs, hcs⟩ : ∃ cs, cs = u8s s := ⟨_, rfl⟩
      rw [← hcs] at hcs1 hcs2 hr0
      have HCS := Lib.hid hcs
      clear hcs
      obtain ⟨L, hL⟩ : ∃ L, L = Value.int .i64 (q : Int) :: cs := ⟨_, rfl⟩
      rw [← hL] at hr0
      have hL65 : L.length = 65 := by rw [hL, List.length_cons, hcs2]
      have HL1 : Hid (L.toArray.size = 65) := Lib.hid (by rw [List.size_toArray, hL65])
      have HL2 : Hid (L.toArray.all (·.oneCell') = true) := Lib.hid (by
        rw [hL]
        exact all_oneCell_toArray (fun v hv => by
          rcases List.mem_cons.1 hv with rfl | hv
          · rfl
          · exact hcs1 v hv))
      have HL3 : Hid ((Try.prog.info? 99).map (·.size) = some L.length) := Lib.hid (by rw [(zero_of_info Try.infoWr).2, hL65])
      have HLL := Lib.hid hL
      have HR0 := Lib.hid hr0
      have hn := H.out.ok.n
      have hjI : (j : Int) < (m : Int) := by omega
      have hj0 : (0 : Int) ≤ (j : Int) := by omega
      clear hL65 hL hr0 hj hc2 hc4
      go_upto_region 8 with (first | (refine wpList_load_mid rfl 99 (.tmp 18) rfl gw (j * 65) rfl L _ HR0.out Try.underlying99 rfl HL3.out ?_) | (refine wpList_alloc_store rfl rfl 99 (.tmp 4) (.tmp 19) rfl rfl _ 65 Try.infoWr rfl L.toArray HL1.out HL2.out rfl rfl ?_))
      (try simp only [Act.put, List.setIfInBounds_toArray, List.set_cons_succ, List.set_cons_zero])
      have h2 := HQ.out.alloc (.cells L.toArray 99)
      have hg := heap_alloc_new wr (.cells L.toArray 99)
      have o2 := HO.out.alloc (.cells L.toArray 99)
      generalize wr.alloc (.cells L.toArray 99) = w2 at *
      generalize wr.heap.size = g at *
      have hqI : (q : Int) < (D.n : Int) := by omega
      have hq0 : (0 : Int) ≤ (q : Int) := by omega
      have hc1 : w2.cell? ⟨p, 1, none⟩ = some (.slice (some ⟨gk, 0, none⟩) D.n D.n) := h2.cell 1
      have hcg : w2.cell? ⟨g, 0, none⟩ = some (.int .i64 q) := by simp [World.cell?, hg, HLL.out]
      have hr : w2.rangeAt g 1 cs := by
        have := range_of_list (L := L) hg 1 64
        rw [HLL.out, List.drop_succ_cons, List.drop_zero, List.take_of_length_le (by omega)] at this
        exact this
      have ht : w2.there gk (q * 64) 64 := there_of_row h2.kept (by have := h2.ok.K; simp [u8s_length]; simp at this; omega)
      have hu := Try.underlying97
      have hsz : (Try.prog.info? 97).map (·.size) = some cs.length := by rw [Try.sizeSec, hcs2]
      have hggk : g ≠ gk := fun e => by have b := h2.kept; rw [← e, hg] at b; simp at b
      have hpgk : p ≠ gk := fun e => h2.np.2 e.symm
      have HS0 : Hid (w2.drew.cell? ⟨p, 1, none⟩ = some (.slice (some ⟨gk, 0, none⟩) D.n D.n) ∧ w2.drew.cell? ⟨g, 0, none⟩ = some (.int .i64 q) ∧ w2.drew.rangeAt g 1 cs ∧ w2.drew.there gk (q * 64) 64) := Lib.hid ⟨hc1, hcg, hr, ht⟩
      have HS1 : Hid ((w2.drew.setCells gk (q * 64) cs).cell? ⟨p, 1, none⟩ = some (.slice (some ⟨gk, 0, none⟩) D.n D.n) ∧ (w2.drew.setCells gk (q * 64) cs).cell? ⟨g, 0, none⟩ = some (.int .i64 q) ∧ (w2.drew.setCells gk (q * 64) cs).rangeAt g 1 cs ∧ (w2.drew.setCells gk (q * 64) cs).there gk (q * 64) 64) := Lib.hid
        ⟨by rw [World.cell?_of_block (heap_setCells_other gk cs (q * 64) w2.drew p hpgk)]; exact hc1, by rw [World.cell?_of_block (heap_setCells_other gk cs (q * 64) w2.drew g hggk)]; exact hcg, World.rangeAt_setCells_apart (w := w2.drew) hr _ _ _ (.inl hggk), World.there_setCells (w := w2.drew) ht _ _ _⟩
      have H5 := Lib.hid h2
      have H7 := Lib.hid o2
      clear h2 hg o2 hggk hpgk HQ HO
      go_region_held3 (fun w' => w'.cell? ⟨p, 1, none⟩ = some (.slice (some ⟨gk, 0, none⟩) D.n D.n) ∧ w'.cell? ⟨g, 0, none⟩ = some (.int .i64 q) ∧ w'.rangeAt g 1 cs ∧ w'.there gk (q * 64) 64) (first | exact HS0.out | exact HS1.out) (fail)
      have HF : Hid (DiskAt (w2.drew.setCells gk (q * 64) cs) p gn gk (.slice (some ⟨gw, 0, none⟩) m cap) { D with K := lays D.K (D.W.take (j + 1)) }) := Lib.hid (by
        have h3 := (H5.out.keep (w' := w2.drew) (fun _ _ => rfl)).layK (i := q) (s := s) hx1 hx2
        rw [HCS.out, HLT.out]
        exact h3)
      have HO : Hid (Only (Foot p gn gk (.slice (some ⟨gw, 0, none⟩) m cap)) w (w2.drew.setCells gk (q * 64) cs)) := Lib.hid
        ((H7.out.drew).trans (Only.setCells w2.drew gk (q * 64) cs) (fun k _ e => .inr (.inr (.inl e))))
      generalize w2.drew.setCells gk (q * 64) cs = w3 at *
      clear hc1 hcg hr ht HS0 HS1 H5 H7
      go_wp2
      go_roundw
      case rel => exact ⟨j + 1, by omega, by go_num, HF, HO⟩
      case measure => simp [intOf]; omega
    · obtain rfl : j = m := by omega
      have hE : D.W.take j = D.W := List.take_of_length_le (by rw [← HM.out]; exact Nat.le_refl _)
      have h2 := HQ.out
      rw [hE] at h2
      have h3 := h2.none
      have f2 := h2.free 2
      have c2 : wr.cell? ⟨p, 2, none⟩ = some (.slice ao j cap) := h2.cell 2
      have c6 : (wr.setCell ⟨p, 2, none⟩ (.slice none 0 0)).cell? ⟨p, 6, none⟩ = some (.int .i64 D.sy) := h3.cell 6
      have f6 := h3.free 6
      have h4 := h3.set (D' := D.sync) 6 (.int .i64 ((D.sy : Int) + 1)) (by
        have e := h3.ok
        rw [DS.sync, HD.out]
        exact ⟨e.n, e.N, e.K, by simp, e.fuse⟩) (by rw [DS.sync, HD.out]; rfl) (by rw [DS.sync, HD.out]; rfl) (by rw [DS.sync, HD.out]; rfl) (by rw [DS.sync, HD.out]; rfl)
      have H4 := Lib.hid h4
      have HO1 := Lib.hid ((HO.out.trans (Only.cell wr p 2 (.slice none 0 0)) (fun k _ e => .inl e)).trans (Only.cell _ p 6 (.int .i64 ((D.sy : Int) + 1))) (fun k _ e => .inl e))
      clear h2 h3 h4 hE HQ HO hc2 hc4
      go_wp2
      go_ret
      exact ⟨rfl, H4.out, HO1.out⟩

end Go.Proofs.Ytbimhiffcdhcaaa

namespace Go.Proofs.Ytbimhiffcdhcaaa
open Go Go.RowKit
set_option linter.unusedVariables false
set_option linter.unusedSimpArgs false
set_option maxRecDepth 100000

/-- Numbers that lie in none of the blocks F. -/
def SlIO (w : World) (F : Nat → Prop) (ao : Option Addr) (ks : List Int) : Prop := SlI w ao ks ∧ ∀ a, ao = some a → ks ≠ [] → ¬ F a.block
theorem SlIO.at' {w w' : World} {F : Nat → Prop} {ao : Option Addr} {ks : List Int} (h : SlIO w F ao ks) (ho : Only F w w') {j : Nat} (hj : j < ks.length) :
    ∃ g off, ao = some ⟨g, off, none⟩ ∧ w'.cell? ⟨g, off + j, none⟩ = some (.int .i64 (ks.getD j 0)) := by
  obtain ⟨g, off, rfl, hc⟩ := h.1 j hj
  refine ⟨g, off, rfl, ?_⟩
  have hb := World.block_lt_of_cell? w _ hc
  rw [World.cell?_of_block (ho.block g hb (h.2 _ rfl (fun e => by subst e; simp at hj)))]
  exact hc
theorem SlI.old {w0 w : World} {F : Nat → Prop} {ao : Option Addr} {ks : List Int} (h : SlI w0 ao ks) (ho : Only (fun _ => False) w0 w) (hF : ∀ k, F k → w0.heap.size ≤ k) : SlIO w F ao ks := by
  refine ⟨fun j hj => ?_, fun a e hk hFa => ?_⟩
  · obtain ⟨g, off, e, hc⟩ := h j hj
    exact ⟨g, off, e, ho.cellq hc⟩
  · obtain ⟨g, off, e2, hc⟩ := h 0 (List.length_pos_iff.2 hk)
    rw [e2] at e
    simp at e
    subst e
    have h1 := World.block_lt_of_cell? w0 _ hc
    have h2 := hF _ hFa
    simp at h1 h2
    omega

def keptAt (keep : List Int) (j : Nat) : Bool := decide (j < keep.length) && oddZ (keep.getD j 0)
theorem zip_take {α β : Type} (W : List α) (L : List β) (n : Nat) : List.zip (W.take n) L = (List.zip W L).take n := by
  induction W generalizing L n with
  | nil => simp
  | cons x W ih =>
    cases n with
    | zero => simp
    | succ n =>
      cases L with
      | nil => simp
      | cons y L => simp [ih]
theorem chosen_take (W : List (Nat × List UInt8)) (keep : List Int) {j : Nat} (hj : j < W.length) :
    chosen (W.take (j + 1)) keep = if keptAt keep j then chosen (W.take j) keep ++ [W[j]] else chosen (W.take j) keep := by
  unfold chosen
  have hz : ∀ n, List.zip (W.take n) keep = (List.zip W keep).take n := fun n => zip_take W keep n
  rw [hz, hz]
  by_cases hk : j < keep.length
  · have hl : j < (List.zip W keep).length := by simp; omega
    rw [List.take_succ_eq_append_getElem hl, List.filterMap_append]
    simp only [List.getElem_zip, keptAt, hk, decide_true, Bool.true_and]
    rw [show keep.getD j 0 = keep[j] by simp [hk]]
    cases h : oddZ keep[j] <;> simp [h]
  · have h1 : (List.zip W keep).take (j + 1) = List.zip W keep := List.take_of_length_le (by simp; omega)
    have h2 : (List.zip W keep).take j = List.zip W keep := List.take_of_length_le (by simp; omega)
    rw [h1, h2]
    simp [keptAt, hk]
theorem lays_snoc (K : List UInt8) (W : List (Nat × List UInt8)) (x : Nat × List UInt8) : lays K (W ++ [x]) = put (lays K W) x.1 x.2 := by
  rw [lays, List.foldl_append]
  rfl
theorem lays_chosen_take (K : List UInt8) (W : List (Nat × List UInt8)) (keep : List Int) {j : Nat} (hj : j < W.length) :
    lays K (chosen (W.take (j + 1)) keep) = if keptAt keep j then put (lays K (chosen (W.take j) keep)) (W[j]).1 (W[j]).2 else lays K (chosen (W.take j) keep) := by
  rw [chosen_take W keep hj]
  cases keptAt keep j
  · simp
  · simp only [if_true]
    exact lays_snoc _ _ _
theorem backs_take (N K : List UInt8) (W : List (Nat × List UInt8)) {j : Nat} (hj : j < W.length) : backs N K (W.take (j + 1)) = put (backs N K (W.take j)) (W[j]).1 (sec K (W[j]).1) := by
  rw [List.take_succ_eq_append_getElem hj, backs, List.foldl_append]
  rfl

set_option maxHeartbeats 400000 in
theorem disk_crash_nil (w : World) (v : Value) :
    Calls Try.prog 32 #[.pointer none, v] w fun e w' => e = .returned (.tuple #[]) ∧ w = w' := by
  go_enter Try.func32, Try.ntmps32
  go_wp2
  exact bodyPost_ret (results_none rfl _ _ _) rfl ⟨rfl, rfl⟩


set_option maxRecDepth 100000 in
set_option maxHeartbeats 1000000 in
theorem disk_crash_ok {w : World} {p gn gk : Nat} {vw : Value} {D : DS} (h : DiskAt w p gn gk vw D) (ko : Option Addr) (kc : Nat) (keep : List Int) (hk : SlIO w (Foot p gn gk vw) ko keep) (hkr : ∀ z ∈ keep, -9223372036854775808 ≤ z ∧ z ≤ 9223372036854775807) (hW : D.W.length ≤ 1000000) :
    Calls Try.prog 32 #[.pointer (some ⟨p, 0, none⟩), .slice ko keep.length kc] w fun e w' => e = .returned (.tuple #[]) ∧ DiskAt w' p gn gk (.slice none 0 0) (D.crash keep) ∧ Only (Foot p gn gk vw) w w' := by
  have hc2 : w.cell? ⟨p, 2, none⟩ = some vw := h.cell 2
  obtain ⟨ao, cap, rfl⟩ := own_shapeN h.row
  obtain ⟨m, hm⟩ : ∃ m, m = D.W.length := ⟨_, rfl⟩
  rw [← hm] at hc2 hW
  have H := Lib.hid h
  have HM := Lib.hid hm
  have HKR := Lib.hid hkr
  have HK := Lib.hid hk
  clear h hkr hk
  rw [← hm] at H HK ⊢
  clear hm
  go_enter Try.func32, Try.ntmps32
  go_wp2_with fail
  go_loopw [15] (fun i wr => ∃ j : Nat, j ≤ m ∧ i = .int .i64 j ∧ Hid (DiskAt wr p gn gk (.slice ao m cap) { D with K := lays D.K (chosen (D.W.take j) keep) }) ∧ Hid (Only (Foot p gn gk (.slice ao m cap)) w wr)) (fun i _ => m - (intOf i).toNat)
  case atStart => exact ⟨0, Nat.zero_le _, rfl, H.out, Lib.hid (Only.refl _ _)⟩
  case round =>
    obtain ⟨j, hj, rfl, HQ, HO⟩ := hrel
    by_cases hlt : j < m
    · have hj' : j < D.W.length := by rw [← HM.out]; exact hlt
      obtain ⟨gw, rfl, hr0⟩ := HQ.out.wait hj'
      obtain ⟨hx1, hx2⟩ := H.out.ok.W _ (List.getElem_mem hj')
      have HLT := Lib.hid (lays_chosen_take D.K D.W keep hj')
      change wr.rangeAt gw (j * 65) (.int .i64 (D.W[j]).1 :: u8s (D.W[j]).2) at hr0
      obtain ⟨q, hq⟩ : ∃ q, q = (D.W[j]).1 := ⟨_, rfl⟩
      obtain ⟨s, hs⟩ : ∃ s, s = (D.W[j]).2 := ⟨_, rfl⟩
      rw [← hq, ← hs] at hr0 HLT
      rw [← hq] at hx1
      rw [← hs] at hx2
      clear hq hs hj'
      have hcs1 := u8s_oneCell s
      have hcs2 : (u8s s).length = 64 := by rw [u8s_length, hx2]
      obtain ⟨cs, hcs⟩ : ∃ cs, cs = u8s s := ⟨_, rfl⟩
      rw [← hcs] at hcs1 hcs2 hr0
      have HCS := Lib.hid hcs
      clear hcs
      obtain ⟨L, hL⟩ : ∃ L, L = Value.int .i64 (q : Int) :: cs := ⟨_, rfl⟩
      rw [← hL] at hr0
      have hL65 : L.length = 65 := by rw [hL, List.length_cons, hcs2]
      have HL1 : Hid (L.toArray.size = 65) := Lib.hid (by rw [List.size_toArray, hL65])
      have HL2 : Hid (L.toArray.all (·.oneCell') = true) := Lib.hid (by
        rw [hL]
        exact all_oneCell_toArray (fun v hv => by
          rcases List.mem_cons.1 hv with rfl | hv
          · rfl
          · exact hcs1 v hv))
      have HL3 : Hid ((Try.prog.info? 99).map (·.size) = some L.length) := Lib.hid (by rw [(zero_of_info Try.infoWr).2, hL65])
      have HLL := Lib.hid hL
      have HR0 := Lib.hid hr0
      have hn := H.out.ok.n
      have hjI : (j : Int) < (m : Int) := by omega
      have hj0 : (0 : Int) ≤ (j : Int) := by omega
      obtain ⟨Z, hZ⟩ : ∃ Z : Array Value, Z = #[.int .i64 0] ++ Array.replicate 64 (.int .u8 0) := ⟨_, rfl⟩
      have HZ1 : Hid ((Try.prog.info? 99).map (fun i => (i.zero, i.size)) = some (some (.agg Z), 65)) := Lib.hid (by rw [hZ]; exact Try.infoWr)
      have HZ2 : Hid (Z.size = L.toArray.size) := Lib.hid (by rw [hZ, HL1.out]; rfl)
      have HZ3 : Hid ((Try.prog.info? 99).map (·.size) = some L.toArray.size) := Lib.hid (by rw [(zero_of_info Try.infoWr).2, HL1.out])
      clear hL65 hL hr0 hj hc2 hZ
      go_upto_region 4 with (first | (refine wpList_load_mid rfl 99 (.tmp 18) rfl gw (j * 65) rfl L _ HR0.out Try.underlying99 rfl HL3.out ?_) | (refine wpList_alloc_agg rfl 99 rfl Z 65 HZ1.out ?_) | (refine wpList_store_agg rfl 99 (.tmp 5) (.tmp 19) rfl Z L.toArray rfl rfl HZ3.out HZ2.out HL2.out ?_))
      have h2 := HQ.out.alloc (.cells L.toArray 99)
      have hg := heap_alloc_new wr (.cells L.toArray 99)
      have o2 := HO.out.alloc (.cells L.toArray 99)
      have HK2 : Hid (∀ hk : j < keep.length, ∃ kg koff, ko = some ⟨kg, koff, none⟩ ∧ (wr.alloc (.cells L.toArray 99)).cell? ⟨kg, koff + j, none⟩ = some (.int .i64 (keep.getD j 0))) := Lib.hid (fun hk => HK.out.at' o2 hk)
      generalize wr.alloc (.cells L.toArray 99) = w2 at *
      generalize wr.heap.size = g at *
      by_cases hkj : j < keep.length
      · obtain ⟨kg, koff, rfl, hck⟩ := HK2.out hkj
        have hzr := HKR.out (keep.getD j 0) (by rw [show keep.getD j 0 = keep[j] by simp [hkj]]; exact List.getElem_mem hkj)
        have HODD := Lib.hid (disk_odd w2 (keep.getD j 0) hzr)
        obtain ⟨z, hz⟩ : ∃ z, z = keep.getD j 0 := ⟨_, rfl⟩
        rw [← hz] at hck HODD
        obtain ⟨b, hb⟩ : ∃ b, b = oddZ z := ⟨_, rfl⟩
        rw [← hb] at HODD
        have hkb : keptAt keep j = b := by rw [hb, keptAt, decide_eq_true hkj, ← hz]; rfl
        rw [hkb] at HLT
        have hkjI : (j : Int) < (keep.length : Int) := by omega
        have H5 := Lib.hid h2
        have H7 := Lib.hid o2
        clear hb hz hkb hzr HK2
        cases b with
        | true =>
          have HLT' : Hid (lays D.K (chosen (D.W.take (j + 1)) keep) = put (lays D.K (chosen (D.W.take j) keep)) q s) := HLT
          have hqI : (q : Int) < (D.n : Int) := by omega
          have hq0 : (0 : Int) ≤ (q : Int) := by omega
          have hc1 : w2.cell? ⟨p, 1, none⟩ = some (.slice (some ⟨gk, 0, none⟩) D.n D.n) := h2.cell 1
          have hcg : w2.cell? ⟨g, 0, none⟩ = some (.int .i64 q) := by simp [World.cell?, hg, HLL.out]
          have hr : w2.rangeAt g 1 cs := by
            have := range_of_list (L := L) hg 1 64
            rw [HLL.out, List.drop_succ_cons, List.drop_zero, List.take_of_length_le (by omega)] at this
            exact this
          have ht : w2.there gk (q * 64) 64 := there_of_row h2.kept (by have := h2.ok.K; simp [u8s_length]; simp at this; omega)
          have hu := Try.underlying97
          have hsz : (Try.prog.info? 97).map (·.size) = some cs.length := by rw [Try.sizeSec, hcs2]
          have hggk : g ≠ gk := fun e => by have b := h2.kept; rw [← e, hg] at b; simp at b
          have hpgk : p ≠ gk := fun e => h2.np.2 e.symm
          have HS0 : Hid (w2.drew.cell? ⟨p, 1, none⟩ = some (.slice (some ⟨gk, 0, none⟩) D.n D.n) ∧ w2.drew.cell? ⟨g, 0, none⟩ = some (.int .i64 q) ∧ w2.drew.rangeAt g 1 cs ∧ w2.drew.there gk (q * 64) 64) := Lib.hid ⟨hc1, hcg, hr, ht⟩
          have HS1 : Hid ((w2.drew.setCells gk (q * 64) cs).cell? ⟨p, 1, none⟩ = some (.slice (some ⟨gk, 0, none⟩) D.n D.n) ∧ (w2.drew.setCells gk (q * 64) cs).cell? ⟨g, 0, none⟩ = some (.int .i64 q) ∧ (w2.drew.setCells gk (q * 64) cs).rangeAt g 1 cs ∧ (w2.drew.setCells gk (q * 64) cs).there gk (q * 64) 64) := Lib.hid
            ⟨by rw [World.cell?_of_block (heap_setCells_other gk cs (q * 64) w2.drew p hpgk)]; exact hc1, by rw [World.cell?_of_block (heap_setCells_other gk cs (q * 64) w2.drew g hggk)]; exact hcg, World.rangeAt_setCells_apart (w := w2.drew) hr _ _ _ (.inl hggk), World.there_setCells (w := w2.drew) ht _ _ _⟩
          clear h2 hg o2 hggk hpgk HQ HO
          go_upto_region 5 with (go_at_call 49; refine HODD.out.mono ?_; rintro e w' ⟨rfl, rfl⟩)
          go_region_held3 (fun w' => w'.cell? ⟨p, 1, none⟩ = some (.slice (some ⟨gk, 0, none⟩) D.n D.n) ∧ w'.cell? ⟨g, 0, none⟩ = some (.int .i64 q) ∧ w'.rangeAt g 1 cs ∧ w'.there gk (q * 64) 64) (first | exact HS0.out | exact HS1.out) (fail)
          have HF : Hid (DiskAt (w2.drew.setCells gk (q * 64) cs) p gn gk (.slice (some ⟨gw, 0, none⟩) m cap) { D with K := lays D.K (chosen (D.W.take (j + 1)) keep) }) := Lib.hid (by
            have h3 := (H5.out.keep (w' := w2.drew) (fun _ _ => rfl)).layK (i := q) (s := s) hx1 hx2
            rw [HCS.out, HLT'.out]
            exact h3)
          have HO : Hid (Only (Foot p gn gk (.slice (some ⟨gw, 0, none⟩) m cap)) w (w2.drew.setCells gk (q * 64) cs)) := Lib.hid
            ((H7.out.drew).trans (Only.setCells w2.drew gk (q * 64) cs) (fun k _ e => .inr (.inr (.inl e))))
          generalize w2.drew.setCells gk (q * 64) cs = w3 at *
          clear hc1 hcg hr ht HS0 HS1 H5 H7 hck
          go_wp2
          go_roundw
          case rel => exact ⟨j + 1, by omega, by go_num, HF, HO⟩
          case measure => simp [intOf]; omega
        | false =>
          have HLT' : Hid (lays D.K (chosen (D.W.take (j + 1)) keep) = lays D.K (chosen (D.W.take j) keep)) := HLT
          have HF : Hid (DiskAt w2 p gn gk (.slice (some ⟨gw, 0, none⟩) m cap) { D with K := lays D.K (chosen (D.W.take (j + 1)) keep) }) := Lib.hid (by rw [HLT'.out]; exact H5.out)
          clear h2 hg o2 HQ HO
          go_wp2_with (go_at_call 49; refine HODD.out.mono ?_; rintro e w' ⟨rfl, rfl⟩)
          go_roundw
          case rel => exact ⟨j + 1, by omega, by go_num, HF, H7⟩
          case measure => simp [intOf]; omega
      · have hkb : keptAt keep j = false := by rw [keptAt, decide_eq_false hkj]; rfl
        rw [hkb] at HLT
        have HLT' : Hid (lays D.K (chosen (D.W.take (j + 1)) keep) = lays D.K (chosen (D.W.take j) keep)) := HLT
        have HF : Hid (DiskAt w2 p gn gk (.slice (some ⟨gw, 0, none⟩) m cap) { D with K := lays D.K (chosen (D.W.take (j + 1)) keep) }) := Lib.hid (by rw [HLT'.out]; exact h2)
        have H7 := Lib.hid o2
        have hkjI : decide ((j : Int) < (keep.length : Int)) = false := decide_eq_false (by omega)
        have hkjJ : ¬ (j : Int) < (keep.length : Int) := by omega
        clear h2 hg o2 HQ HO hkb HK2
        go_wp2_with fail
        go_roundw
        case rel => exact ⟨j + 1, by omega, by go_num, HF, H7⟩
        case measure => simp [intOf]; omega
    · obtain rfl : j = m := by omega
      have hE : D.W.take j = D.W := List.take_of_length_le (by rw [← HM.out]; exact Nat.le_refl _)
      have h2 := HQ.out
      rw [hE] at h2
      have c2 : wr.cell? ⟨p, 2, none⟩ = some (.slice ao j cap) := h2.cell 2
      obtain ⟨K1, hK1⟩ : ∃ K1, K1 = lays D.K (chosen D.W keep) := ⟨_, rfl⟩
      rw [← hK1] at h2
      have HK1 := Lib.hid hK1
      have H2 := Lib.hid h2
      have hlK := h2.ok.K
      have HLK : Hid (K1.length = D.n * 64) := Lib.hid hlK
      clear hK1 h2 hE HQ hlt hc2 hlK
      go_wp2_with fail
      obtain ⟨wo, rfl⟩ : ∃ wo : World, wo = wr := ⟨_, rfl⟩
      go_loopw [46] (fun i wr => ∃ l : Nat, l ≤ j ∧ i = .int .i64 l ∧ Hid (DiskAt wr p gn gk (.slice ao j cap) { D with N := backs D.N K1 (D.W.take l), K := K1 }) ∧ Hid (Only (Foot p gn gk (.slice ao j cap)) w wr)) (fun i _ => j - (intOf i).toNat)
      case atStart => exact ⟨0, Nat.zero_le _, rfl, H2.out, HO⟩
      case round =>
        clear c2 HO
        obtain ⟨l, hl, rfl, HQ, HO⟩ := hrel
        by_cases hlt : l < j
        · have hl' : l < D.W.length := by rw [← HM.out]; exact hlt
          obtain ⟨gw, rfl, hr0⟩ := HQ.out.wait hl'
          obtain ⟨hx1, hx2⟩ := H.out.ok.W _ (List.getElem_mem hl')
          have HLT := Lib.hid (backs_take D.N K1 D.W hl')
          change wr.rangeAt gw (l * 65) (.int .i64 (D.W[l]).1 :: u8s (D.W[l]).2) at hr0
          obtain ⟨q, hq⟩ : ∃ q, q = (D.W[l]).1 := ⟨_, rfl⟩
          obtain ⟨s, hs⟩ : ∃ s, s = (D.W[l]).2 := ⟨_, rfl⟩
          rw [← hq, ← hs] at hr0
          rw [← hq] at hx1 HLT
          rw [← hs] at hx2
          clear hq hs hl'
          obtain ⟨L, hL⟩ : ∃ L, L = Value.int .i64 (q : Int) :: u8s s := ⟨_, rfl⟩
          rw [← hL] at hr0
          have hL65 : L.length = 65 := by rw [hL, List.length_cons, u8s_length, hx2]
          have HL1 : Hid (L.toArray.size = 65) := Lib.hid (by rw [List.size_toArray, hL65])
          have HL2 : Hid (L.toArray.all (·.oneCell') = true) := Lib.hid (by
            rw [hL]
            exact all_oneCell_toArray (fun v hv => by
              rcases List.mem_cons.1 hv with rfl | hv
              · rfl
              · exact u8s_oneCell s v hv))
          have HL3 : Hid ((Try.prog.info? 99).map (·.size) = some L.length) := Lib.hid (by rw [(zero_of_info Try.infoWr).2, hL65])
          have HLL := Lib.hid hL
          have HR0 := Lib.hid hr0
          have hn := H.out.ok.n
          have hlI : (l : Int) < (j : Int) := by omega
          have hl0 : (0 : Int) ≤ (l : Int) := by omega
          have hs64 := sec_length HLK.out hx1
          have hcs1 := u8s_oneCell (sec K1 q)
          have hcs2 : (u8s (sec K1 q)).length = 64 := by rw [u8s_length, hs64]
          obtain ⟨cs, hcs⟩ : ∃ cs, cs = u8s (sec K1 q) := ⟨_, rfl⟩
          rw [← hcs] at hcs1 hcs2
          have HCS := Lib.hid hcs
          have HS64 := Lib.hid hs64
          clear hL65 hL hr0 hl hcs hs64
          go_upto_region 10 with (first | (refine wpList_load_mid rfl 99 (.tmp 48) rfl gw (l * 65) rfl L _ HR0.out Try.underlying99 rfl HL3.out ?_) | (refine wpList_alloc_store rfl rfl 99 (.tmp 7) (.tmp 49) rfl rfl _ 65 Try.infoWr rfl L.toArray HL1.out HL2.out rfl rfl ?_))
          (try simp only [Act.put, List.setIfInBounds_toArray, List.set_cons_succ, List.set_cons_zero])
          have h2 := HQ.out.alloc (.cells L.toArray 99)
          have hg := heap_alloc_new wr (.cells L.toArray 99)
          have o2 := HO.out.alloc (.cells L.toArray 99)
          generalize wr.alloc (.cells L.toArray 99) = w2 at *
          generalize wr.heap.size = g at *
          have hqI : (q : Int) < (D.n : Int) := by omega
          have hq0 : (0 : Int) ≤ (q : Int) := by omega
          have hc0 : w2.cell? ⟨p, 0, none⟩ = some (.slice (some ⟨gn, 0, none⟩) D.n D.n) := h2.cell 0
          have hc1 : w2.cell? ⟨p, 1, none⟩ = some (.slice (some ⟨gk, 0, none⟩) D.n D.n) := h2.cell 1
          have hcg : w2.cell? ⟨g, 0, none⟩ = some (.int .i64 q) := by simp [World.cell?, hg, HLL.out]
          have hr : w2.rangeAt gk (q * 64) cs := by
            rw [HCS.out]
            exact range_of_row (xs := K1) h2.kept _ _
          have ht : w2.there gn (q * 64) 64 := there_of_row h2.now (by have := h2.ok.N; simp [u8s_length]; simp at this; omega)
          have hu := Try.underlying97
          have hsz : (Try.prog.info? 97).map (·.size) = some cs.length := by rw [Try.sizeSec, hcs2]
          have hggn : g ≠ gn := fun e => by have b := h2.now; rw [← e, hg] at b; simp at b
          have hpgn : p ≠ gn := fun e => h2.np.1 e.symm
          have hkn : gk ≠ gn := fun e => h2.ne e.symm
          have HS0 : Hid (w2.drew.cell? ⟨p, 0, none⟩ = some (.slice (some ⟨gn, 0, none⟩) D.n D.n) ∧ w2.drew.cell? ⟨p, 1, none⟩ = some (.slice (some ⟨gk, 0, none⟩) D.n D.n) ∧ w2.drew.cell? ⟨g, 0, none⟩ = some (.int .i64 q) ∧ w2.drew.rangeAt gk (q * 64) cs ∧ w2.drew.there gn (q * 64) 64) := Lib.hid ⟨hc0, hc1, hcg, hr, ht⟩
          have HS1 : Hid ((w2.drew.setCells gn (q * 64) cs).cell? ⟨p, 0, none⟩ = some (.slice (some ⟨gn, 0, none⟩) D.n D.n) ∧ (w2.drew.setCells gn (q * 64) cs).cell? ⟨p, 1, none⟩ = some (.slice (some ⟨gk, 0, none⟩) D.n D.n) ∧ (w2.drew.setCells gn (q * 64) cs).cell? ⟨g, 0, none⟩ = some (.int .i64 q) ∧ (w2.drew.setCells gn (q * 64) cs).rangeAt gk (q * 64) cs ∧ (w2.drew.setCells gn (q * 64) cs).there gn (q * 64) 64) := Lib.hid
            ⟨by rw [World.cell?_of_block (heap_setCells_other gn cs (q * 64) w2.drew p hpgn)]; exact hc0, by rw [World.cell?_of_block (heap_setCells_other gn cs (q * 64) w2.drew p hpgn)]; exact hc1, by rw [World.cell?_of_block (heap_setCells_other gn cs (q * 64) w2.drew g hggn)]; exact hcg, World.rangeAt_setCells_apart (w := w2.drew) hr _ _ _ (.inl hkn), World.there_setCells (w := w2.drew) ht _ _ _⟩
          have H5 := Lib.hid h2
          have H7 := Lib.hid o2
          clear h2 hg o2 hggn hpgn hkn HQ HO
          go_region_held3 (fun w' => w'.cell? ⟨p, 0, none⟩ = some (.slice (some ⟨gn, 0, none⟩) D.n D.n) ∧ w'.cell? ⟨p, 1, none⟩ = some (.slice (some ⟨gk, 0, none⟩) D.n D.n) ∧ w'.cell? ⟨g, 0, none⟩ = some (.int .i64 q) ∧ w'.rangeAt gk (q * 64) cs ∧ w'.there gn (q * 64) 64) (first | exact HS0.out | exact HS1.out) (fail)
          have HF : Hid (DiskAt (w2.drew.setCells gn (q * 64) cs) p gn gk (.slice (some ⟨gw, 0, none⟩) j cap) { D with N := backs D.N K1 (D.W.take (l + 1)), K := K1 }) := Lib.hid (by
            have h3 := (H5.out.keep (w' := w2.drew) (fun _ _ => rfl)).layN (i := q) (s := sec K1 q) hx1 HS64.out
            rw [HCS.out, HLT.out]
            exact h3)
          have HO : Hid (Only (Foot p gn gk (.slice (some ⟨gw, 0, none⟩) j cap)) w (w2.drew.setCells gn (q * 64) cs)) := Lib.hid
            ((H7.out.drew).trans (Only.setCells w2.drew gn (q * 64) cs) (fun k _ e => .inr (.inl e)))
          generalize w2.drew.setCells gn (q * 64) cs = w3 at *
          clear hc0 hc1 hcg hr ht HS0 HS1 H5 H7
          go_wp2
          go_roundw
          case rel => exact ⟨l + 1, by omega, by go_num, HF, HO⟩
          case measure => simp [intOf]; omega
        · obtain rfl : l = j := by omega
          have hE : D.W.take l = D.W := List.take_of_length_le (by rw [← HM.out]; exact Nat.le_refl _)
          have h2 := HQ.out
          rw [hE] at h2
          have h3 := h2.none
          have c2 : wr.cell? ⟨p, 2, none⟩ = some (.slice ao l cap) := h2.cell 2
          have f2 := h2.free 2
          have e3 := h3.ok
          have c3 : (wr.setCell ⟨p, 2, none⟩ (.slice none 0 0)).cell? ⟨p, 3, none⟩ = some (.int .i64 D.fuse) := h3.cell 3
          have f3 := h3.free 3
          have h4 := h3.set (D' := { D with N := backs D.N K1 D.W, K := K1, W := [], fuse := -1 }) 3 (.int .i64 (-1)) ⟨e3.n, e3.N, e3.K, by simp, by simp⟩ rfl rfl rfl rfl
          have e4 := h4.ok
          have c4 : ((wr.setCell ⟨p, 2, none⟩ (.slice none 0 0)).setCell ⟨p, 3, none⟩ (.int .i64 (-1))).cell? ⟨p, 4, none⟩ = some (.bool D.down) := h4.cell 4
          have f4 := h4.free 4
          have h5 := h4.set (D' := { D with N := backs D.N K1 D.W, K := K1, W := [], fuse := -1, down := false }) 4 (.bool false) ⟨e4.n, e4.N, e4.K, by simp, by simp⟩ rfl rfl rfl rfl
          have H5 := Lib.hid h5
          have HO1 := Lib.hid (((HO.out.trans (Only.cell wr p 2 (.slice none 0 0)) (fun k _ e => .inl e)).trans (Only.cell _ p 3 (.int .i64 (-1))) (fun k _ e => .inl e)).trans (Only.cell _ p 4 (.bool false)) (fun k _ e => .inl e))
          clear h2 h3 h4 h5 e3 e4 hE HQ HO
          go_wp2
          go_end0
          refine ⟨rfl, ?_, HO1.out⟩
          rw [DS.crash, ← HK1.out]
          exact H5.out

end Go.Proofs.Ytbimhiffcdhcaaa

namespace Go.Proofs.Ytbimhiffcdhcaaa
open Go Go.RowKit
set_option linter.unusedVariables false
set_option linter.unusedSimpArgs false
set_option maxRecDepth 100000

theorem Own.disk {w0 w : World} {p : Nat} {D : DS} {J : Res} (h : Own w0 w (Sep (DiskR p D) J)) : ∃ gn gk vw, DiskAt w p gn gk vw D := by
  obtain ⟨F, ⟨gn, gk, vw, h1, _⟩, _⟩ := h.fst
  exact ⟨gn, gk, vw, h1⟩
theorem foot_iff {F : Nat → Prop} {p gn gk : Nat} {vw : Value} (h : ∀ k, F k ↔ Foot p gn gk vw k) : F = Foot p gn gk vw := funext fun k => propext (h k)

theorem own_new {w0 w : World} {I : Res} [Stab I] (h : Own w0 w I) (n : Nat) (h8 : 8 ≤ n) (hn : n ≤ 4096) :
    Calls Try.prog 12 #[.int .i64 n] w fun e w' => ∃ p, e = .returned (.tuple #[.pointer (some ⟨p, 0, none⟩), .int .i64 0]) ∧ Own w0 w' (Sep (DiskR p (DS.new n)) I) := by
  refine (disk_new n w h8 hn).mono ?_
  rintro e w' ⟨rfl, gn, gk, hD, h1, h2, ho⟩
  refine ⟨_, rfl, h.fresh ho (B := Foot (w.heap.size + 2) gn gk (.slice none 0 0)) ⟨gn, gk, _, hD, fun _ => Iff.rfl⟩ ?_⟩
  rintro k (rfl | rfl | rfl | hk)
  · omega
  · exact h1
  · exact h2
  · cases hk

theorem own_write {w0 w : World} {p : Nat} {D : DS} {J : Res} [Stab J] (h : Own w0 w (Sep (DiskR p D) J)) (i : Int) (v : Value) (b : List UInt8)
    (hv : ∀ F B : Nat → Prop, J w B → (∀ k, F k → ¬ B k) → (∀ k, F k → w0.heap.size ≤ k) → (∀ k, F k → k < w.heap.size) → SlO w F v b) (hW : D.W.length ≤ 1000000) (hwr : D.wr ≤ 1000000) :
    Calls Try.prog 30 #[.pointer (some ⟨p, 0, none⟩), .int .i64 i, v] w fun e w' => e = .returned (.int .i64 (D.wrE i b)) ∧ Own w0 w' (Sep (DiskR p (D.write i b)) J) := by
  refine (Own.call (val := fun _ : Unit => .int .i64 (D.wrE i b)) (Q := fun _ => DiskR p (D.write i b)) h ?_).mono ?_
  · rintro F B hI hJ hd h0
    have hlt := Stab.lt hI
    obtain ⟨gn, gk, vw, hD, hF⟩ := hI
    obtain rfl := foot_iff hF
    refine (disk_write hD i v b (hv _ B hJ hd h0 hlt) hW hwr).mono ?_
    rintro e w' ⟨rfl, v1, h1, hr, ho⟩
    refine ⟨(), Foot p gn gk v1, rfl, ⟨gn, gk, v1, h1, fun _ => Iff.rfl⟩, ?_, ho⟩
    rintro k (rfl | rfl | rfl | hk)
    · exact .inl (.inl rfl)
    · exact .inl (.inr (.inl rfl))
    · exact .inl (.inr (.inr (.inl rfl)))
    · rcases hr with hr | ⟨g, hg, hge⟩
      · exact .inl (.inr (.inr (.inr (hr ▸ hk))))
      · rw [hg] at hk; simp at hk; exact .inr (by omega)
  · rintro e w' ⟨_, rfl, hq⟩
    exact ⟨rfl, hq⟩

theorem own_sync {w0 w : World} {p : Nat} {D : DS} {J : Res} [Stab J] (h : Own w0 w (Sep (DiskR p D) J)) (hW : D.W.length ≤ 1000000) (hsy : D.sy ≤ 1000000) :
    Calls Try.prog 26 #[.pointer (some ⟨p, 0, none⟩)] w fun e w' => e = .returned (.int .i64 (syE D)) ∧ Own w0 w' (Sep (DiskR p D.sync) J) := by
  refine (Own.call (val := fun _ : Unit => .int .i64 (syE D)) (Q := fun _ => DiskR p D.sync) h ?_).mono ?_
  · rintro F B hI hJ hd h0
    obtain ⟨gn, gk, vw, hD, hF⟩ := hI
    obtain rfl := foot_iff hF
    cases hdn : D.down with
    | true =>
      have e1 : D.sync = D := by simp [DS.sync, hdn]
      have e2 : syE D = 4 := by simp [syE, hdn]
      rw [e1, e2]
      refine (disk_sync_gone hD hdn).mono ?_
      rintro e w' ⟨rfl, rfl⟩
      exact ⟨(), _, rfl, ⟨gn, gk, vw, hD, fun _ => Iff.rfl⟩, fun k hk => .inl hk, Only.refl _ _⟩
    | false =>
      have e2 : syE D = 0 := by simp [syE, hdn]
      rw [e2]
      refine (disk_sync_ok hD hdn hW hsy).mono ?_
      rintro e w' ⟨rfl, h1, ho⟩
      refine ⟨(), _, rfl, ⟨gn, gk, _, h1, fun _ => Iff.rfl⟩, ?_, ho⟩
      rintro k (rfl | rfl | rfl | hk)
      · exact .inl (.inl rfl)
      · exact .inl (.inr (.inl rfl))
      · exact .inl (.inr (.inr (.inl rfl)))
      · cases hk
  · rintro e w' ⟨_, rfl, hq⟩
    exact ⟨rfl, hq⟩

theorem own_crash {w0 w : World} {p : Nat} {D : DS} {J : Res} [Stab J] (h : Own w0 w (Sep (DiskR p D) J)) (ko : Option Addr) (kc : Nat) (keep : List Int)
    (hk : ∀ F B : Nat → Prop, J w B → (∀ k, F k → ¬ B k) → (∀ k, F k → w0.heap.size ≤ k) → (∀ k, F k → k < w.heap.size) → SlIO w F ko keep) (hkr : ∀ z ∈ keep, -9223372036854775808 ≤ z ∧ z ≤ 9223372036854775807) (hW : D.W.length ≤ 1000000) :
    Calls Try.prog 32 #[.pointer (some ⟨p, 0, none⟩), .slice ko keep.length kc] w fun e w' => e = .returned (.tuple #[]) ∧ Own w0 w' (Sep (DiskR p (D.crash keep)) J) := by
  refine (Own.call (val := fun _ : Unit => .tuple #[]) (Q := fun _ => DiskR p (D.crash keep)) h ?_).mono ?_
  · rintro F B hI hJ hd h0
    have hlt := Stab.lt hI
    obtain ⟨gn, gk, vw, hD, hF⟩ := hI
    obtain rfl := foot_iff hF
    refine (disk_crash_ok hD ko kc keep (hk _ B hJ hd h0 hlt) hkr hW).mono ?_
    rintro e w' ⟨rfl, h1, ho⟩
    refine ⟨(), _, rfl, ⟨gn, gk, _, h1, fun _ => Iff.rfl⟩, ?_, ho⟩
    rintro k (rfl | rfl | rfl | hk)
    · exact .inl (.inl rfl)
    · exact .inl (.inr (.inl rfl))
    · exact .inl (.inr (.inr (.inl rfl)))
    · cases hk
  · rintro e w' ⟨_, rfl, hq⟩
    exact ⟨rfl, hq⟩
theorem SlIO.nil (w : World) (F : Nat → Prop) : SlIO w F none [] := ⟨fun j hj => by simp at hj, fun a h => by cases h⟩

theorem own_fuse {w0 w : World} {p : Nat} {D : DS} {J : Res} [Stab J] (h : Own w0 w (Sep (DiskR p D) J)) (n : Int) (hn : -9223372036854775808 ≤ n ∧ n ≤ 9223372036854775807) :
    Calls Try.prog 28 #[.pointer (some ⟨p, 0, none⟩), .int .i64 n] w fun e w' => e = .returned (.tuple #[]) ∧ Own w0 w' (Sep (DiskR p (D.fused n)) J) := by
  refine (Own.call (val := fun _ : Unit => .tuple #[]) (Q := fun _ => DiskR p (D.fused n)) h ?_).mono ?_
  · rintro F B hI hJ hd h0
    obtain ⟨gn, gk, vw, hD, hF⟩ := hI
    obtain rfl := foot_iff hF
    refine (disk_fuse hD n hn).mono ?_
    rintro e w' ⟨rfl, h1, ho⟩
    exact ⟨(), _, rfl, ⟨gn, gk, _, h1, fun _ => Iff.rfl⟩, fun k hk => .inl hk, ho.mono (fun _ _ e => .inl e)⟩
  · rintro e w' ⟨_, rfl, hq⟩
    exact ⟨rfl, hq⟩

/-- Read: the sector's bytes in a new block. -/
theorem own_read {w0 w : World} {p : Nat} {D : DS} {J : Res} [Stab J] (h : Own w0 w (Sep (DiskR p D) J)) (i : Nat) (hi : i < D.n) :
    Calls Try.prog 35 #[.pointer (some ⟨p, 0, none⟩), .int .i64 i] w fun e w' => ∃ g, e = .returned (.tuple #[.slice (some ⟨g, 0, none⟩) 64 64, .int .i64 0]) ∧ Own w0 w' (Sep (Row g 97 (sec D.N i)) (Sep (DiskR p D) J)) := by
  obtain ⟨gn, gk, vw, hD⟩ := h.disk
  refine (disk_read hD i hi).mono ?_
  rintro e w' ⟨rfl, rfl⟩
  exact ⟨_, rfl, h.alloc _⟩
end Go.Proofs.Ytbimhiffcdhcaaa

namespace Go.Proofs.Ytbimhiffcdhcaaa
open Go Go.RowKit
set_option linter.unusedVariables false
set_option linter.unusedSimpArgs false
set_option maxRecDepth 100000

def awD1 : DS := (DS.new 8).write 3 [97, 98]
def awD2 : DS := awD1.sync
def awD3 : DS := awD2.write 3 [99]
def awD4 : DS := awD3.crash []
theorem aw1 : (DS.new 8).wrE 3 [97, 98] = 0 := by decide
theorem aw2 : syE awD1 = 0 := by decide
theorem aw3 : awD2.wrE 3 [99] = 0 := by decide
theorem aw4 : (sec awD4.N 3).take 3 = [97, 98, 0] ∧ (sec awD4.N 3).length = 64 ∧ awD4.n = 8 ∧ awD1.W.length = 1 ∧ awD3.W.length = 1 ∧ awD2.W.length = 0 ∧ awD2.wr = 1 ∧ awD1.sy = 0 := by decide +kernel


end Go.Proofs.Ytbimhiffcdhcaaa

namespace Go.Proofs.Ytbimhiffcdhcaaa
open Go Go.RowKit
set_option linter.unusedVariables false
set_option linter.unusedSimpArgs false
set_option maxRecDepth 100000

def modN (m : Nat) (z : Int) : Nat := ((wrap64 (z.tmod m + m)).tmod m).toNat
theorem modN_spec (m : Nat) (h0 : 0 < m) (hm : m ≤ 1000) (z : Int) : modN m z < m ∧ (wrap64 (z.tmod m + m)).tmod m = (modN m z : Int) := by
  have h1 : -(m : Int) < z.tmod m ∧ z.tmod m < m := by
    have a := Int.tmod_lt_of_pos z (show (0 : Int) < m by omega)
    have b := Int.lt_tmod_of_pos z (show (0 : Int) < m by omega)
    exact ⟨by omega, a⟩
  have h2 : wrap64 (z.tmod m + m) = z.tmod m + m := IntWalk.wrap64_in _ ⟨by omega, by omega⟩
  unfold modN
  rw [h2]
  have h3 : 0 ≤ (z.tmod m + m).tmod m := Int.tmod_nonneg _ (by omega)
  have h4 : (z.tmod m + m).tmod m < m := Int.tmod_lt_of_pos _ (by omega)
  exact ⟨by omega, by omega⟩

theorem DS.write_free {D : DS} (hd : D.down = false) (hf : D.fuse < 0) {i : Nat} (hi : i < D.n) {b : List UInt8} (hb : b.length ≤ 64) : D.write i b = D.lay i (pad b) ∧ D.wrE i b = 0 := by
  have h1 := DS.last_free hd hf
  have h2 : D.has i = true := by simp [DS.has]; omega
  have h3 : decide (64 < b.length) = false := decide_eq_false (by omega)
  simp [DS.write, DS.wrE, h1, h2, h3]


theorem sec_zero (n i : Nat) (hi : i < n) : sec (List.replicate (n * 64) 0) i = List.replicate 64 0 := by
  rw [sec, List.drop_replicate, List.take_replicate]
  congr 1
  omega
theorem pad_get (b : List UInt8) (k : Nat) (hk : k < 64) (hb : b.length ≤ 64) : (pad b).getD k 0 = if k < b.length then b.getD k 0 else 0 := by
  by_cases h : k < b.length
  · simp [pad, h, List.getD_eq_getElem?_getD, List.getElem?_append]
  · have h2 : k - b.length < 64 - b.length := by omega
    simp [pad, h, List.getD_eq_getElem?_getD, List.getElem?_append, h2]
theorem SlC.cell {w : World} {ao : Option Addr} {n c : Nat} {xs : List UInt8} (h : SlC w (.slice ao n c) xs) {j : Nat} (hj : j < xs.length) :
    ∃ g off, ao = some ⟨g, off, none⟩ ∧ w.cell? ⟨g, off + j, none⟩ = some (.int .u8 (xs.getD j 0).toNat) := by
  rcases h with ⟨_, rfl⟩ | ⟨a, cap, e, hc⟩
  · simp at hj
  · simp at e
    obtain ⟨rfl, _, _⟩ := e
    have h1 := hc j hj
    obtain ⟨b, off, spot⟩ := a
    have hspot : spot = none := by simpa [Addr.add] using World.cell?_spot (hc 0 (by omega))
    subst hspot
    exact ⟨b, off, rfl, by rw [← add_lit]; exact h1⟩
/-- What DiskPads reads. -/
theorem pads_read (at' : Nat) (h8 : at' < 8) (a b : List UInt8) (ha : a.length ≤ 64) (hb : b.length ≤ 64) (i : Nat) (hi : i < 8) :
    sec (((DS.new 8).lay at' (pad a)).lay at' (pad b)).N i = if i = at' then pad b else List.replicate 64 0 := by
  have l1 : (put (List.replicate (8 * 64) 0) at' (pad a)).length = 8 * 64 := put_length List.length_replicate h8 (pad_length ha)
  show sec (put (put (List.replicate (8 * 64) 0) at' (pad a)) at' (pad b)) i = _
  by_cases h : i = at'
  · subst h
    rw [sec_put_same l1 hi (pad_length hb), if_pos rfl]
  · rw [sec_put_other l1 h8 (pad_length hb) h, sec_put_other (n := 8) List.length_replicate h8 (pad_length ha) h, sec_zero 8 i hi, if_neg h]


end Go.Proofs.Ytbimhiffcdhcaaa

namespace Go.Proofs.Ytbimhiffcdhcaaa
open Go Go.RowKit
set_option linter.unusedVariables false
set_option linter.unusedSimpArgs false
set_option maxRecDepth 100000

theorem SlO.nil (w : World) (F : Nat → Prop) : SlO w F (.slice none 0 0) [] := ⟨.inl ⟨rfl, rfl⟩, fun a n c e => by simp at e⟩
/-- The disk behind so many writes of a fuse of n. -/
structure FS (n done : Nat) (D : DS) : Prop where
  sz : D.n = 16
  wr : D.wr = done
  le : done ≤ n
  st : (D.down = false ∧ D.fuse = (n : Int) - done) ∨ (D.down = true ∧ done = n)
  sy : D.sy = 0
  W : D.W.length ≤ done

def rightB (x : OpT) : Bool := decide (0 ≤ x.I) && decide (x.I < 16) && decide (x.B.length ≤ 64)
theorem FS.has {n done : Nat} {D : DS} (h : FS n done D) (i : Int) : D.has i = (decide (0 ≤ i) && decide (i < 16)) := by
  rw [DS.has, h.sz, Bool.eq_iff_iff]
  simp
theorem FS.wrong {n done : Nat} {D : DS} (h : FS n done D) {x : OpT} (hx : rightB x = false) : D.write x.I x.B = D ∧ D.wrE x.I x.B = 1 := by
  have e : (!D.has x.I || decide (64 < x.B.length)) = true := by
    rw [h.has, Bool.or_eq_true]
    simp [rightB] at hx
    simp
    omega
  simp only [DS.write, DS.wrE, e, if_true]
  exact ⟨trivial, trivial⟩
theorem FS.goes {n done : Nat} {D : DS} (h : FS n done D) {x : OpT} (hx : rightB x = true) (hd : done < n) : FS n (done + 1) (D.write x.I x.B) ∧ D.wrE x.I x.B = 0 ∧ (D.write x.I x.B).down = false := by
  have e : (!D.has x.I || decide (64 < x.B.length)) = false := by
    rw [h.has]
    simp [rightB] at hx
    simp
    omega
  rcases h.st with ⟨h1, h2⟩ | ⟨_, h2⟩
  · have hl := DS.last_burns h1 (by omega)
    simp only [DS.write, DS.wrE, e, hl.1, hl.2, if_true, Bool.false_eq_true, if_false]
    refine ⟨⟨h.sz, ?_, by omega, .inl ⟨h1, ?_⟩, h.sy, ?_⟩, trivial, h1⟩
    · show D.wr + 1 = _; rw [h.wr]
    · show D.fuse - 1 = _; omega
    · show (D.W ++ _).length ≤ _
      have := h.W
      simp
      omega
  · omega
theorem FS.gone {n done : Nat} {D : DS} (h : FS n done D) {x : OpT} (hx : rightB x = true) (hd : ¬ done < n) : FS n done (D.write x.I x.B) ∧ D.wrE x.I x.B = 4 ∧ (D.write x.I x.B).down = true := by
  have e : (!D.has x.I || decide (64 < x.B.length)) = false := by
    rw [h.has]
    simp [rightB] at hx
    simp
    omega
  have hle := h.le
  rcases h.st with ⟨h1, h2⟩ | ⟨h1, h2⟩
  · have hl := DS.last_goes h1 (by omega)
    simp only [DS.write, DS.wrE, e, hl.1, hl.2, if_true, Bool.false_eq_true, if_false]
    exact ⟨⟨h.sz, h.wr, h.le, .inr ⟨rfl, by omega⟩, h.sy, h.W⟩, trivial, trivial⟩
  · have hl := DS.last_gone h1
    simp only [DS.write, DS.wrE, e, hl.1, hl.2, if_true, Bool.false_eq_true, if_false]
    exact ⟨h, trivial, h1⟩


end Go.Proofs.Ytbimhiffcdhcaaa

namespace Go.Proofs.Ytbimhiffcdhcaaa
open Go Go.RowKit
set_option linter.unusedVariables false
set_option linter.unusedSimpArgs false
set_option maxRecDepth 100000

theorem Sep.swap {I J K : Res} {w : World} {F : Nat → Prop} (h : Sep I (Sep J K) w F) : Sep J (Sep I K) w F := by
  have h1 : Sep (Sep I J) K w F := Sep.comm (Sep.assoc (Sep.comm (Sep.assoc (Sep.comm h))))
  exact Sep.assoc (h1.imp (fun _ h => Sep.comm h) (fun _ h => h))
theorem Own.rot {w0 w : World} {I J K L : Res} (h : Own w0 w (Sep I (Sep J (Sep K L)))) : Own w0 w (Sep I (Sep K (Sep J L))) := h.imp fun _ h => h.imp (fun _ h => h) (fun _ h => Sep.swap h)
theorem Own.rot2 {w0 w : World} {I J K L M : Res} (h : Own w0 w (Sep I (Sep J (Sep K (Sep L M))))) : Own w0 w (Sep I (Sep J (Sep L (Sep K M)))) :=
  h.imp fun _ h => h.imp (fun _ h => h) (fun _ h => h.imp (fun _ h => h) (fun _ h => Sep.swap h))
theorem Own.rot3 {w0 w : World} {I J K L M N : Res} (h : Own w0 w (Sep I (Sep J (Sep K (Sep L (Sep M N)))))) : Own w0 w (Sep I (Sep J (Sep K (Sep M (Sep L N))))) :=
  h.imp fun _ h => h.imp (fun _ h => h) (fun _ h => h.imp (fun _ h => h) (fun _ h => h.imp (fun _ h => h) (fun _ h => Sep.swap h)))

end Go.Proofs.Ytbimhiffcdhcaaa

namespace Go.Proofs.Ytbimhiffcdhcaaa
open Go Go.ChangeShapes Go.WideShapes Go.ChangeAt Go.RowKit
set_option linter.unusedVariables false
set_option linter.unusedSimpArgs false
set_option maxRecDepth 100000

theorem Try.infoInt : (Try.prog.info? 3).map (fun i => (i.zero, i.size, i.bytes)) = some (some (.int .i64 0), 1, 8) := by kernel_rfl

/-- An argument without memory has no room. -/
theorem nil_room {H : Type} {enc : TypeId × Value → H} {W : World} {n c : Nat} {ao : Option Addr} {d : DataW H} {ps : List MemPlace} (h : DataW.Trod enc Try.prog W 0 (fun _ => true) true 49 (.slice ao n c) d ps) : ao = none → c = 0 := by
  rintro rfl
  obtain ⟨fuel, hf⟩ := h
  rcases open_ints Try.underlying49 Try.underlying3 Try.cellsInt hf with ⟨hcs, _⟩ | ⟨a, len', cap', zs, hcs, _⟩
  · simp [Value.cells] at hcs; exact hcs.2
  · simp [Value.cells] at hcs

def i64s (ks : List Int) : List Value := ks.map (Value.int .i64)
theorem i64s_oneCell (ks : List Int) : ∀ u ∈ i64s ks, u.oneCell' = true := by
  intro u hu; simp [i64s] at hu; obtain ⟨b, _, rfl⟩ := hu; rfl
/-- The same numbers in new memory (or none). -/
def FreshI (w0 : World) (ao : Option Addr) (ks : List Int) (w : World) : Prop := SlI w ao ks ∧ (∀ a, ao = some a → w0.heap.size ≤ a.block ∧ a.block < w.heap.size) ∧ Only (fun _ => False) w0 w

theorem wp_freshI {ops : Array Oper} {rest : List Oper} {o : Oper} {a : Act} {Q : Exit → Act → World → Prop} (w : World) (ao : Option Addr) (c : Nat) (ks : List Int) (hI : SlI w ao ks) (hc : ao = none → c = 0) (hlen : ks.length * 8 ≤ 140737488355328)
    (hgd : o.guard = none) (s x : Operand) (ho : o.op = .call { callee := .builtin .append, args := #[s, x], argTypes := #[49, 49] })
    (hs : a.eval s = .slice (some ⟨w.heap.size, 0, none⟩) 0 0) (hx : a.eval x = .slice ao ks.length c)
    (h : ∀ bo cap w', Hid (FreshI w bo ks w') → wpList Try.prog ops Q rest (a.put o.dst (.slice bo ks.length cap)) w') :
    wpList Try.prog ops Q (o :: rest) a (w.alloc (.cells #[] 3)) := by
  obtain ⟨i0, hi, hz0, hz1, hz2⟩ := info_parts Try.infoInt
  have hmade := World.ownsRow_made (base := w.heap.size) (e := 3) (size := 1) w #[] 0 (Nat.le_refl _) (by decide) rfl
  have hOnly := (Only.refl (fun _ => False) w).alloc (.cells #[] 3)
  cases ao with
  | none =>
    obtain rfl := hc rfl
    have hk : ks = [] := by
      cases ks with
      | nil => rfl
      | cons z ks => obtain ⟨g, off, e, _⟩ := hI 0 (by simp); cases e
    subst hk
    refine wpList_append_own_none hgd s x 49 ho w.heap.size 3 i0 1 Try.underlying49 hi _ 0 [] hs hmade hx ?_
    exact h (some ⟨w.heap.size, 0, none⟩) 0 _ ⟨fun j hj => by simp at hj, fun a e => by simp at e; subst e; exact ⟨Nat.le_refl _, by simp⟩, hOnly⟩
  | some ad =>
    refine wpList_append_own _ hgd s x 49 ho w.heap.size 3 i0 (.int .i64 0) 1 8 Try.underlying49 hi hz0 hz1 hz2 rfl (by decide) _ 0 [] hs hmade ad ks.length c (i64s ks) hx ?_ ?_ (i64s_oneCell ks) ?_ ?_ ?_ ?_
    · simp [i64s]
    · intro j u hu
      simp only [i64s, List.getElem?_map, Option.map_eq_some_iff] at hu
      obtain ⟨z, hz, rfl⟩ := hu
      obtain ⟨hj, rfl⟩ := List.getElem?_eq_some_iff.1 hz
      obtain ⟨g, off, e, hcell⟩ := hI j hj
      simp at e
      subst e
      rw [add_lit]
      have hb := World.block_lt_of_cell? w _ hcell
      rw [World.cell?_of_block (Below.heap_alloc w _ _ hb), hcell]
      simp [hj]
    · unfold maxLen; omega
    · omega
    · simp
    · intro v' w1 hown hg _
      rw [Nat.zero_add, List.nil_append] at hown
      obtain ⟨bo, cap', rfl⟩ := own_shape hown
      refine h bo cap' w1 ⟨fun j hj => ?_, fun b e => ?_, hOnly.grown hg (fun k hk e => by simp [Value.ownBlock] at e; omega)⟩
      · have hrow : ∃ g, bo = some ⟨g, 0, none⟩ := by
          rcases hown.2 with ⟨hv, h0⟩ | ⟨g, cap, cur, hv, _⟩
          · omega
          · simp at hv; exact ⟨g, hv.1⟩
        obtain ⟨g, rfl⟩ := hrow
        refine ⟨g, 0, rfl, ?_⟩
        rw [Nat.zero_add, hown.cellAt j (by simpa [i64s] using hj)]
        simp [i64s, hj]
      · rcases hown.2 with ⟨hv, h0⟩ | ⟨g, cap, cur, hv, hge, _⟩
        · simp at hv; rw [e] at hv; simp at hv
        · simp at hv; rw [e] at hv; simp at hv; rw [hv.1]; exact ⟨hge, own_lt hown (by rw [e, hv.1]; rfl)⟩

/-- Numbers in a block of their own. -/
def IntR (ao : Option Addr) (ks : List Int) : Res := fun w F => SlI w ao ks ∧ (∀ a, ao = some a → a.block < w.heap.size) ∧ ∀ k, F k ↔ ∃ a, ao = some a ∧ a.block = k
instance {ao : Option Addr} {ks : List Int} : Stab (IntR ao ks) where
  lt := by
    rintro w F ⟨h1, h2, h3⟩ k hk
    obtain ⟨a, e, rfl⟩ := (h3 k).1 hk
    exact h2 a e
  keep := by
    rintro w w' F ⟨h1, h2, h3⟩ hk
    have hb : ∀ a, ao = some a → w'.heap[a.block]? = w.heap[a.block]? := fun a e => hk _ ((h3 _).2 ⟨a, e, rfl⟩)
    refine ⟨fun j hj => ?_, fun a e => ?_, h3⟩
    · obtain ⟨g, off, e, hc⟩ := h1 j hj
      exact ⟨g, off, e, (World.cell?_of_block (a := ⟨g, off + j, none⟩) (show w'.heap[g]? = w.heap[g]? from hb ⟨g, off, none⟩ e)).trans hc⟩
    · have h := h2 a e
      have e2 := hb a e
      rw [Array.getElem?_eq_getElem h] at e2
      exact lt_of_some e2
theorem fresh_own {w0 w w' : World} {I : Res} [Stab I] {ao : Option Addr} {ks : List Int} (h : Own w0 w I) (hf : FreshI w ao ks w') : Own w0 w' (Sep (IntR ao ks) I) :=
  h.fresh hf.2.2 (B := fun k => ∃ a, ao = some a ∧ a.block = k) ⟨hf.1, fun a e => (hf.2.1 a e).2, fun _ => Iff.rfl⟩ (fun k ⟨a, e, hk⟩ => hk ▸ (hf.2.1 a e).1)
theorem IntR.apart {w : World} {ao : Option Addr} {ks : List Int} {J : Res} {F B : Nat → Prop} (hJ : Sep (IntR ao ks) J w B) (hd : ∀ k, F k → ¬ B k) : SlI w ao ks ∧ ∀ a, ao = some a → ks ≠ [] → ¬ F a.block := by
  obtain ⟨A, C, hA, hC, hac, hB⟩ := hJ
  exact ⟨hA.1, fun a e _ hk => hd _ hk ((hB _).2 (.inl ((hA.2.2 _).2 ⟨a, e, rfl⟩)))⟩
end Go.Proofs.Ytbimhiffcdhcaaa

namespace Go.Proofs.Ytbimhiffcdhcaaa
open Go Go.RowKit
set_option linter.unusedVariables false
set_option linter.unusedSimpArgs false
set_option maxRecDepth 100000

/-- A disk of 16 sectors with at most k of each. -/
structure Few (m k : Nat) (D : DS) : Prop where
  sz : D.n = m
  W : D.W.length ≤ k
  wr : D.wr ≤ k
  sy : D.sy ≤ k
theorem last_few {m k : Nat} {D : DS} (h : Few m k D) : Few m k D.last := by
  obtain ⟨h1, _, _, h4, h5, h6⟩ := DS.last_same D
  exact ⟨h1.trans h.sz, by rw [h4]; exact h.W, by rw [h5]; exact h.wr, by rw [h6]; exact h.sy⟩
theorem Few.up {m k : Nat} {D : DS} (h : Few m k D) : Few m (k + 1) D := ⟨h.sz, Nat.le_succ_of_le h.W, Nat.le_succ_of_le h.wr, Nat.le_succ_of_le h.sy⟩
theorem Few.write {m k : Nat} {D : DS} (h : Few m k D) (i : Int) (b : List UInt8) : Few m (k + 1) (D.write i b) := by
  unfold DS.write
  split
  · exact h.up
  · split
    · have g := last_few h
      refine ⟨g.sz, ?_, ?_, Nat.le_succ_of_le g.sy⟩
      · show (D.last.W ++ _).length ≤ _
        have := g.W
        simp
        omega
      · show D.last.wr + 1 ≤ _
        have := g.wr
        omega
    · exact (last_few h).up
theorem Few.sync {m k : Nat} {D : DS} (h : Few m k D) : Few m (k + 1) D.sync := by
  unfold DS.sync
  split
  · exact h.up
  · exact ⟨h.sz, Nat.zero_le _, Nat.le_succ_of_le h.wr, Nat.succ_le_succ h.sy⟩
theorem Few.crash {m k : Nat} {D : DS} (h : Few m k D) (l : List Int) : Few m k (D.crash l) := ⟨h.sz, Nat.zero_le _, h.wr, h.sy⟩

/-- Slices of sectors that were read, in an array of m. -/
def secV (g : Nat) : Value := .slice (some ⟨g, 0, none⟩) 64 64
def WasR (ga m : Nat) (t : TypeId) (N : List UInt8) (k : Nat) : Res := fun w F => ∃ gs : List Nat, gs.length = k ∧ k ≤ m ∧
  w.heap[ga]? = some (.cells (gs.map secV ++ List.replicate (m - k) (Value.slice none 0 0)).toArray t (0, 0)) ∧
  (∀ j (hj : j < gs.length), w.heap[gs[j]]? = some (.cells (u8s (sec N j)).toArray 97 (0, 0))) ∧ ∀ i, F i ↔ i = ga ∨ i ∈ gs
instance {ga m k : Nat} {t : TypeId} {N : List UInt8} : Stab (WasR ga m t N k) where
  lt := by
    rintro w F ⟨gs, h1, h2, h3, h4, h5⟩ k hk
    rcases (h5 k).1 hk with rfl | hk
    · exact lt_of_some h3
    · obtain ⟨j, hj, rfl⟩ := List.getElem_of_mem hk
      exact lt_of_some (h4 j hj)
  keep := by
    rintro w w' F ⟨gs, h1, h2, h3, h4, h5⟩ hk
    exact ⟨gs, h1, h2, (hk ga ((h5 ga).2 (.inl rfl))).trans h3, fun j hj => (hk _ ((h5 _).2 (.inr (List.getElem_mem hj)))).trans (h4 j hj), h5⟩
theorem was_new {w0 w : World} {J : Res} [Stab J] {m : Nat} {t : TypeId} {N : List UInt8} (h : Own w0 w J) : Own w0 (w.alloc (.cells (List.replicate m (Value.slice none 0 0)).toArray t)) (Sep (WasR w.heap.size m t N 0) J) :=
  h.fresh ((Only.refl _ w).alloc _) (B := fun k => k = w.heap.size) ⟨[], rfl, Nat.zero_le _, heap_alloc_new w _, fun j hj => by simp at hj, fun i => by simp⟩ (fun k e => by omega)
theorem WasR.cell {w : World} {ga m k : Nat} {t : TypeId} {N : List UInt8} {F : Nat → Prop} (h : WasR ga m t N k w F) {j : Nat} (hj : j < m) : ∃ v, w.cell? ⟨ga, j, none⟩ = some v ∧ w.frozen? ⟨ga, j, none⟩ = false := by
  obtain ⟨gs, h1, h2, h3, h4, h5⟩ := h
  refine ⟨_, by simp only [World.cell?, h3]; rw [if_neg (by simp), List.getElem?_toArray, List.getElem?_eq_getElem (by simp; omega)], by simp [World.frozen?, h3]⟩
/-- The next one read is laid into the array. -/
theorem WasR.put {w0 w : World} {ga m k g : Nat} {t : TypeId} {N : List UInt8} {J : Res} [Stab J] (h : Own w0 w (Sep (Row g 97 (sec N k)) (Sep (WasR ga m t N k) J))) (hk : k < m) :
    Own w0 (w.setCell ⟨ga, k, none⟩ (secV g)) (Sep (WasR ga m t N (k + 1)) J) := by
  obtain ⟨F, ⟨A, BC, hA, ⟨B, C, ⟨gs, h1, h2, h3, h4, h5⟩, hC, hBC, hBCi⟩, hABC, hF⟩, hF0, hO⟩ := h
  have hg : A g := (hA.2 g).2 rfl
  have hB : ∀ i, B i → i ≠ g := fun i hi e => hABC g hg ((hBCi g).2 (.inl (e ▸ hi)))
  have hga : B ga := (h5 ga).2 (.inl rfl)
  have hne : g ≠ ga := fun e => hB ga hga e.symm
  have hkeep : ∀ i, i ≠ ga → (w.setCell ⟨ga, k, none⟩ (secV g)).heap[i]? = w.heap[i]? := fun i hi => Below.heap_setCell _ _ _ _ hi
  refine ⟨fun i => (i = ga ∨ i ∈ gs ++ [g]) ∨ C i, ⟨fun i => i = ga ∨ i ∈ gs ++ [g], C, ⟨gs ++ [g], by simp [h1], by omega, ?_, ?_, fun i => Iff.rfl⟩, Stab.keep hC (fun i hi => hkeep i (fun e => hBC ga hga (e ▸ hi))), ?_, fun i => Iff.rfl⟩, ?_, ?_⟩
  · rw [heap_set h3]
    congr 2
    apply Array.toList_inj.1
    simp only [List.setIfInBounds_toArray]
    rw [List.set_append_right _ _ (by simp; omega)]
    have e1 : k - (gs.map secV).length = 0 := by simp; omega
    rw [e1, show m - k = (m - (k + 1)) + 1 by omega, List.replicate_succ, List.set_cons_zero]
    simp
  · intro j hj
    by_cases hjk : j < gs.length
    · rw [List.getElem_append_left hjk, hkeep _ (fun e => ?_)]
      · exact h4 j hjk
      · have a := h4 j hjk
        rw [e, h3] at a
        simp only [Option.some.injEq, Obj.cells.injEq] at a
        have hl := congrArg (fun x => x.toList) a.1
        simp only at hl
        have h0 : 0 < m := by omega
        have hx : ∀ v ∈ (gs.map secV ++ List.replicate (m - k) (Value.slice none 0 0)), ∃ q n c, v = .slice q n c := by
          intro v hv
          rcases List.mem_append.1 hv with hv | hv
          · obtain ⟨x, _, rfl⟩ := List.mem_map.1 hv
            exact ⟨_, _, _, rfl⟩
          · rw [(List.mem_replicate.1 hv).2]
            exact ⟨_, _, _, rfl⟩
        have hm : (gs.map secV ++ List.replicate (m - k) (Value.slice none 0 0)).length = m := by simp; omega
        obtain ⟨v, hv⟩ : ∃ v, v ∈ (gs.map secV ++ List.replicate (m - k) (Value.slice none 0 0)) := ⟨_, List.getElem_mem (n := 0) (by omega)⟩
        obtain ⟨q, n, c, rfl⟩ := hx v hv
        rw [hl] at hv
        simp [u8s] at hv
    · have e2 : j = gs.length := by simp at hj; omega
      subst e2
      rw [List.getElem_append_right (by omega), hkeep _ (by simpa using hne)]
      simp only [Nat.sub_self, List.getElem_singleton]
      rw [h1]
      exact hA.1
  · rintro i (rfl | hi) hCi
    · exact hBC _ hga hCi
    · rcases List.mem_append.1 hi with hi | hi
      · exact hBC i ((h5 i).2 (.inr hi)) hCi
      · rw [List.mem_singleton.1 hi] at hCi
        exact hABC g hg ((hBCi g).2 (.inr hCi))
  · rintro i ((rfl | hi) | hi)
    · exact hF0 _ ((hF _).2 (.inr ((hBCi _).2 (.inl hga))))
    · rcases List.mem_append.1 hi with hi | hi
      · exact hF0 i ((hF i).2 (.inr ((hBCi i).2 (.inl ((h5 i).2 (.inr hi))))))
      · rw [List.mem_singleton.1 hi]
        exact hF0 g ((hF g).2 (.inl hg))
    · exact hF0 i ((hF i).2 (.inr ((hBCi i).2 (.inr hi))))
  · exact hO.trans (Only.cell w ga k _) (fun i hi e => by have := hF0 ga ((hF ga).2 (.inr ((hBCi ga).2 (.inl hga)))); omega)
/-- One of them read again. -/
theorem WasR.read {w : World} {ga m k : Nat} {t : TypeId} {N : List UInt8} {F : Nat → Prop} (h : WasR ga m t N k w F) {j : Nat} (hj : j < k) (hl : (sec N j).length = 64) : ∃ g, w.cell? ⟨ga, j, none⟩ = some (secV g) ∧ SlC w (secV g) (sec N j) := by
  obtain ⟨gs, h1, h2, h3, h4, h5⟩ := h
  refine ⟨gs[j], ?_, row_bytes' (h4 j (by omega)) hl.symm⟩
  simp only [World.cell?, h3]
  rw [if_neg (by simp), List.getElem?_toArray, List.getElem?_append_left (by simp; omega)]
  simp [show j < gs.length by omega]




end Go.Proofs.Ytbimhiffcdhcaaa

namespace Go.Proofs.Ytbimhiffcdhcaaa
open Go Go.RowKit
set_option linter.unusedVariables false
set_option linter.unusedSimpArgs false
set_option maxRecDepth 100000

theorem sec_get {N : List UInt8} {n i j : Nat} (h : N.length = n * 64) (hi : i < n) (hj : j < 64) : (sec N i)[j]? = N[i * 64 + j]? := by
  rw [sec, List.getElem?_take, if_pos hj, List.getElem?_drop]
theorem sec_ext {N M : List UInt8} {n : Nat} (hN : N.length = n * 64) (hM : M.length = n * 64) (h : ∀ i, i < n → sec N i = sec M i) : N = M := by
  apply List.ext_getElem?
  intro t
  by_cases ht : t < n * 64
  · have h1 : t / 64 < n := by omega
    have h2 : t % 64 < 64 := Nat.mod_lt _ (by omega)
    have e : t = t / 64 * 64 + t % 64 := by omega
    rw [e, ← sec_get hN h1 h2, ← sec_get hM h1 h2, h _ h1]
  · rw [List.getElem?_eq_none (by omega), List.getElem?_eq_none (by omega)]

theorem lays_length {n : Nat} : ∀ (W : List (Nat × List UInt8)) (K : List UInt8), K.length = n * 64 → (∀ x ∈ W, x.1 < n ∧ x.2.length = 64) → (lays K W).length = n * 64
  | [], K, hK, _ => hK
  | x :: W, K, hK, hW => by
    have hx := hW x (by simp)
    exact lays_length W (put K x.1 x.2) (put_length hK hx.1 hx.2) (fun y hy => hW y (by simp [hy]))
theorem lays_other {n i : Nat} : ∀ (W : List (Nat × List UInt8)) (K : List UInt8), K.length = n * 64 → (∀ x ∈ W, x.1 < n ∧ x.2.length = 64) → (∀ x ∈ W, x.1 ≠ i) → sec (lays K W) i = sec K i
  | [], K, hK, _, _ => rfl
  | x :: W, K, hK, hW, hi => by
    have hx := hW x (by simp)
    have h1 := lays_other W (put K x.1 x.2) (put_length hK hx.1 hx.2) (fun y hy => hW y (by simp [hy])) (fun y hy => hi y (by simp [hy]))
    exact h1.trans (sec_put_other hK hx.1 hx.2 (fun e => hi x (by simp) e.symm))
theorem backs_sec {n i : Nat} (K : List UInt8) (hK : K.length = n * 64) : ∀ (W : List (Nat × List UInt8)) (N : List UInt8), N.length = n * 64 → (∀ x ∈ W, x.1 < n) →
    (backs N K W).length = n * 64 ∧ ((∃ x ∈ W, x.1 = i) → sec (backs N K W) i = sec K i) ∧ ((∀ x ∈ W, x.1 ≠ i) → sec (backs N K W) i = sec N i)
  | [], N, hN, _ => ⟨hN, fun ⟨x, hx, _⟩ => by simp at hx, fun _ => rfl⟩
  | x :: W, N, hN, hW => by
    have hx := hW x (by simp)
    have hl := sec_length hK hx
    obtain ⟨h1, h2, h3⟩ := backs_sec (i := i) K hK W (put N x.1 (sec K x.1)) (put_length hN hx hl) (fun y hy => hW y (by simp [hy]))
    refine ⟨h1, ?_, ?_⟩
    · rintro ⟨y, hy, hyi⟩
      by_cases hin : ∃ z ∈ W, z.1 = i
      · exact h2 hin
      · have hno : ∀ z ∈ W, z.1 ≠ i := fun z hz e => hin ⟨z, hz, e⟩
        have e := h3 hno
        have hxi : x.1 = i := by
          rcases List.mem_cons.1 hy with rfl | hy
          · exact hyi
          · exact absurd hyi (hno y hy)
        subst hxi
        exact e.trans (sec_put_same hN hx hl)
    · intro hno
      exact (h3 (fun y hy => hno y (by simp [hy]))).trans (sec_put_other hN hx hl (fun e => hno x (by simp) e.symm))

theorem chosen_sub (W : List (Nat × List UInt8)) (keep : List Int) : ∀ x ∈ chosen W keep, x ∈ W := by
  intro x hx
  obtain ⟨y, hy, e⟩ := List.mem_filterMap.1 hx
  split at e
  · simp at e
    subst e
    exact (List.of_mem_zip (a := y.1) (b := y.2) (by simpa using hy)).1
  · cases e

/-- What is seen is what is kept with what waits laid over it. -/
def Coh (D : DS) : Prop := D.N = lays D.K D.W
theorem Coh.new (n : Nat) : Coh (DS.new n) := rfl
theorem Coh.fused {D : DS} (h : Coh D) (n : Int) : Coh (D.fused n) := by
  unfold DS.fused
  split
  · exact h
  · exact h
theorem Coh.last {D : DS} (h : Coh D) : Coh D.last := by
  obtain ⟨_, h2, h3, h4, _⟩ := DS.last_same D
  show D.last.N = lays D.last.K D.last.W
  rw [h2, h3, h4]
  exact h
theorem Coh.lay {D : DS} (h : Coh D) (i : Nat) (s : List UInt8) : Coh (D.lay i s) := by
  show put D.N i s = lays D.K (D.W ++ [(i, s)])
  rw [lays_snoc, ← h]
theorem Coh.write {D : DS} (h : Coh D) (i : Int) (b : List UInt8) : Coh (D.write i b) := by
  unfold DS.write
  split
  · exact h
  · split
    · exact h.last.lay _ _
    · exact h.last
theorem Coh.sync {D : DS} (h : Coh D) : Coh D.sync := by
  unfold DS.sync
  split
  · exact h
  · exact h
/-- A Crash leaves the same to be seen as is kept: what was kept with the chosen ones laid over it. -/
theorem Coh.crashed {D : DS} (h : Coh D) (ok : D.Ok) (keep : List Int) : (D.crash keep).N = lays D.K (chosen D.W keep) := by
  have hcW : ∀ x ∈ chosen D.W keep, x.1 < D.n ∧ x.2.length = 64 := fun x hx => ok.W x (chosen_sub _ _ x hx)
  have hl := lays_length (chosen D.W keep) D.K ok.K hcW
  refine sec_ext (n := D.n) (backs_sec (i := 0) _ hl D.W D.N ok.N (fun x hx => (ok.W x hx).1)).1 hl (fun i hi => ?_)
  obtain ⟨_, h2, h3⟩ := backs_sec (i := i) _ hl D.W D.N ok.N (fun x hx => (ok.W x hx).1)
  by_cases hin : ∃ x ∈ D.W, x.1 = i
  · exact h2 hin
  · have hno : ∀ x ∈ D.W, x.1 ≠ i := fun x hx e => hin ⟨x, hx, e⟩
    rw [show (D.crash keep).N = backs D.N (lays D.K (chosen D.W keep)) D.W from rfl, h3 hno, h, lays_other D.W D.K ok.K ok.W hno, lays_other (chosen D.W keep) D.K ok.K hcW (fun x hx => hno x (chosen_sub _ _ x hx))]
theorem Coh.crash {D : DS} (h : Coh D) (ok : D.Ok) (keep : List Int) : Coh (D.crash keep) := h.crashed ok keep
theorem chosen_nil (W : List (Nat × List UInt8)) : chosen W [] = [] := by simp [chosen]
theorem chosen_snoc (W : List (Nat × List UInt8)) (x : Nat × List UInt8) (keep : List Int) : chosen (W ++ [x]) keep = if keptAt keep W.length then chosen W keep ++ [x] else chosen W keep := by
  have h := chosen_take (W ++ [x]) keep (j := W.length) (by simp)
  rw [List.take_of_length_le (by simp), List.take_append_of_le_length (Nat.le_refl _), List.take_length] at h
  simpa using h

end Go.Proofs.Ytbimhiffcdhcaaa

namespace Go.Proofs.Ytbimhiffcdhcaaa
open Go
set_option linter.unusedVariables false
set_option linter.unusedSimpArgs false
set_option maxRecDepth 100000
def cntN (n : Nat) : Nat := if n ≤ 50 then 1 else (n + 49) / 50
def cnt (n : Int) : Nat := if n < 0 ∨ 32768 < n then 0 else cntN n.toNat
theorem cntN_pos (n : Nat) : 1 ≤ cntN n := by unfold cntN; split <;> omega
theorem cntN_max {n : Nat} (h : n ≤ 32768) : cntN n ≤ 656 := by unfold cntN; split <;> omega
theorem cntN_fits (n : Nat) : n ≤ 50 * cntN n ∧ (1 < cntN n → 50 * (cntN n - 1) < n) := by unfold cntN; split <;> omega
theorem cnt_nat {n : Nat} (h : n ≤ 32768) : cnt n = cntN n := by unfold cnt; rw [if_neg (by omega)]; simp
theorem cnt_zero (z : Int) : cnt z = 0 ↔ z < 0 ∨ 32768 < z := by
  unfold cnt
  split
  · simp [*]
  · have := cntN_pos z.toNat; constructor <;> intro h <;> omega
def pieceN (xs : List UInt8) (j : Nat) : List UInt8 := (xs.drop (j * 50)).take 50
def bwR (b : Bool) : Nat := if b then 4 else 0
theorem pieceN_length (xs : List UInt8) (j : Nat) : (pieceN xs j).length ≤ 50 := by simp [pieceN]; omega
theorem write_sz (D : DS) (i : Int) (b : List UInt8) : (D.write i b).n = D.n := by
  unfold DS.write DS.lay DS.last
  split
  · rfl
  · split <;> (split <;> (try split <;> (try split <;> rfl)) <;> rfl)
theorem write_few (D : DS) (i : Int) (b : List UInt8) : (D.write i b).W.length ≤ D.W.length + 1 ∧ (D.write i b).wr ≤ D.wr + 1 := by
  have hl : D.last.W = D.W ∧ D.last.wr = D.wr := by
    unfold DS.last
    split
    · exact ⟨rfl, rfl⟩
    · split
      · exact ⟨rfl, rfl⟩
      · split <;> exact ⟨rfl, rfl⟩
  unfold DS.write DS.lay
  split
  · exact ⟨by omega, by omega⟩
  · split
    · simp [hl.1, hl.2]
    · rw [hl.1, hl.2]; exact ⟨by omega, by omega⟩
theorem write_here {D : DS} {i : Int} {b : List UInt8} (hi : 0 ≤ i ∧ i < D.n) (hb : b.length ≤ 64) :
    (D.lastB = true → D.wrE i b = 0 ∧ (D.write i b).down = false) ∧ (D.lastB = false → D.wrE i b = 4 ∧ (D.write i b).down = true) := by
  have e0 : (!D.has i || decide (64 < b.length)) = false := by simp [DS.has, hi]; omega
  refine ⟨fun h => ?_, fun h => ?_⟩
  · have hd : D.down = false := by cases hd : D.down <;> simp [DS.lastB, hd] at h ⊢
    have hf : (D.fuse == 0) = false := by cases hf : (D.fuse == 0) <;> simp [DS.lastB, hf] at h ⊢
    refine ⟨by simp [DS.wrE, e0, h], ?_⟩
    simp only [DS.write, e0, h, DS.lay, DS.last, hd, hf]
    simp
    split <;> first | exact hd | rfl
  · refine ⟨by simp [DS.wrE, e0, h], ?_⟩
    simp only [DS.write, e0, h]
    simp
    unfold DS.last
    cases hd : D.down
    · have hf : (D.fuse == 0) = true := by cases hf : (D.fuse == 0) <;> simp [DS.lastB, hf, hd] at h ⊢
      simp [hf]
    · simp [hd]
theorem take_l {α : Type} {l r : List α} {n : Nat} (h : l.length = n) : (l ++ r).take n = l := by subst h; simp
theorem drop_l {α : Type} {l r : List α} {n : Nat} (h : l.length = n) : (l ++ r).drop n = r := by subst h; simp
theorem numB_be' (x k : Nat) (h : x < 256 ^ k) : numB (beB k x) = x := by rw [numB_be, Nat.mod_eq_of_lt h]

end Go.Proofs.Ytbimhiffcdhcaaa
