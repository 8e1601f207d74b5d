/-
  Contracts of package disk: New, Read.
-/
import Derived.Test.YtidkeglldmbfeaaDisk1
import Derived.Test.YtidkeglldmbfeaaWide
import Derived.Deep.RegionHeld3
import Derived.Laws.MakeOwn
namespace Go.Proofs.Ytidkeglldmbfeaa
open Go Go.RowKit
set_option linter.unusedVariables false
set_option linter.unusedSimpArgs false
set_option maxRecDepth 100000

theorem Try.infoSec : (Try.prog.info? 69).map (fun i => (i.zero, i.size)) = some (some (.agg (Array.replicate 64 (.int .u8 0))), 64) := by kernel_rfl
theorem Try.sizeSec : (Try.prog.info? 69).map (·.size) = some 64 := by kernel_rfl

set_option maxRecDepth 100000 in
set_option maxHeartbeats 400000 in
theorem disk_read {w : World} {p gn gk : Nat} {vw : Value} {D : DS} (h : DiskAt w p gn gk vw D) (i : Nat) (hi : i < D.n) :
    Calls Try.prog 12 #[.pointer (some ⟨p, 0, none⟩), .int .i64 i] w fun e w' => e = .returned (.tuple #[.slice (some ⟨w.heap.size, 0, none⟩) 64 64, .int .i64 0]) ∧ w.alloc (.cells (u8s (sec D.N i)).toArray 69) = w' := by
  have hc : w.cell? ⟨p, 0, none⟩ = some (.slice (some ⟨gn, 0, none⟩) D.n D.n) := h.cell 0
  have hn := h.ok.n
  have hh := disk_has h i
  have e1 : D.has i = true := by simp [DS.has]; omega
  rw [e1] at hh
  have hk0 : (0 : Int) ≤ (i : Int) := by omega
  have hk1 : (i : Int) < (D.n : Int) := by omega
  have hl := sec_length h.ok.N hi
  have HR : Hid (w.rangeAt gn (i * 64) (u8s (sec D.N i))) := Lib.hid (range_of_row h.now _ _)
  have H1 : Hid ((u8s (sec D.N i)).length = 64) := Lib.hid (by rw [u8s_length, hl])
  have H2 := Lib.hid hh
  have H3 : Hid ((u8s (sec D.N i)).toArray.all (·.oneCell') = true) := Lib.hid (all_oneCell_toArray (u8s_oneCell _))
  generalize u8s (sec D.N i) = cs at *
  clear h e1 hl hh
  go_enter Try.func12, Try.ntmps12
  go_wp2_with (first | (go_at_call 38; refine H2.out.mono ?_; rintro e w' ⟨rfl, rfl⟩) | (refine wpList_load_mid rfl 69 (.tmp 18) rfl gn (i * 64) rfl cs _ HR.out Try.underlying69 rfl (by rw [Try.sizeSec, H1.out]) ?_) |
     (refine wpList_alloc_store rfl rfl 69 (.tmp 6) (.tmp 19) rfl rfl _ 64 Try.infoSec rfl cs.toArray (by rw [List.size_toArray, H1.out]) H3.out rfl rfl ?_))
  go_ret2
  exact ⟨rfl, rfl⟩


set_option maxHeartbeats 400000 in
theorem disk_read_nil (w : World) (i : Int) :
    Calls Try.prog 12 #[.pointer none, .int .i64 i] w fun e w' => e = .returned (.tuple #[.slice none 0 0, .int .i64 11]) ∧ w = w' := by
  go_enter Try.func12, Try.ntmps12
  go_wp2
  go_ret2
  exact ⟨rfl, rfl⟩

set_option maxHeartbeats 400000 in
theorem disk_read_arg {w : World} {p gn gk : Nat} {vw : Value} {D : DS} (h : DiskAt w p gn gk vw D) (i : Int) (hi : D.has i = false) :
    Calls Try.prog 12 #[.pointer (some ⟨p, 0, none⟩), .int .i64 i] w fun e w' => e = .returned (.tuple #[.slice none 0 0, .int .i64 1]) ∧ w = w' := by
  have hh := disk_has h i
  rw [hi] at hh
  have H2 := Lib.hid hh
  clear h hh hi
  go_enter Try.func12, Try.ntmps12
  go_wp2_with (go_at_call 38; refine H2.out.mono ?_; rintro e w' ⟨rfl, rfl⟩)
  go_ret2
  exact ⟨rfl, rfl⟩

set_option maxHeartbeats 400000 in
theorem disk_new_arg (n : Int) (w : World) (hn : n < 8 ∨ 4096 < n) :
    Calls Try.prog 10 #[.int .i64 n] w fun e w' => e = .returned (.tuple #[.pointer none, .int .i64 1]) ∧ w = w' := by
  rcases hn with h | h
  · go_enter Try.func10, Try.ntmps10
    go_wp2
    go_ret2
    exact ⟨rfl, rfl⟩
  · have h' : ¬ n < 8 := by omega
    go_enter Try.func10, Try.ntmps10
    go_wp2
    go_ret2
    exact ⟨rfl, rfl⟩

theorem made_sectors (n : Nat) : madeCells (Array.replicate 64 (Value.int .u8 0)) (n * 64) = (u8s (List.replicate (n * 64) 0)).toArray := by
  apply Array.ext_getElem?
  intro j
  by_cases h : j < n * 64
  · have h1 : j % 64 < 64 := Nat.mod_lt _ (by omega)
    simp [madeCells, u8s, h, h1]
  · simp [madeCells, u8s, h]
theorem run_make_sectors (n : Nat) (hn : n ≤ 4096) (w : World) : (Instr.makeSlice 64 (.int .i64 (n : Int)) (.int .i64 (n : Int))).run Try.prog w =
    .ok (.slice (some ⟨w.heap.size, 0, none⟩) n n) (w.alloc (.cells (u8s (List.replicate (n * 64) 0)).toArray 69)) := by
  have h0 : (Try.prog.info? 69).map (fun i => (i.zero, i.size, i.bytes)) = some (some (.agg (Array.replicate 64 (.int .u8 0))), 64, 64) := by kernel_rfl
  obtain ⟨i, hi, hz, hs, hb⟩ := info_parts h0
  have := run_make (P := Try.prog) w 64 69 i (.agg (Array.replicate 64 (.int .u8 0))) Try.underlying64 hi hz .i64 .i64 (n : Int) (n : Int) (by omega) (Int.le_refl _) (by rw [hb]; omega) (by omega)
  rw [this]
  simp only [Int.toNat_natCast, hs, Value.cells, made_sectors]

theorem DS.new_ok {n : Nat} (hn : n ≤ 4096) : (DS.new n).Ok := ⟨hn, by simp [DS.new], by simp [DS.new], by simp [DS.new], by simp [DS.new]⟩
theorem disk_made {w : World} {n : Nat} (hn : n ≤ 4096) {C : Array Value} (hC : C = (u8s (List.replicate (n * 64) 0)).toArray) (a b : Nat) (hab : a = w.heap.size ∧ b = w.heap.size + 1 ∨ a = w.heap.size + 1 ∧ b = w.heap.size) :
    DiskAt (((w.alloc (.cells C 69)).alloc (.cells C 69)).alloc (.cells #[.slice (some ⟨a, 0, none⟩) n n, .slice (some ⟨b, 0, none⟩) n n, .slice none 0 0, .int .i64 (-1), .bool false, .int .i64 0, .int .i64 0] 67)) (w.heap.size + 2) a b (.slice none 0 0) (DS.new n) := by
  subst hC
  have h1 := heap_alloc_new w (.cells (u8s (List.replicate (n * 64) 0)).toArray 69)
  have h2 := heap_alloc_new (w.alloc (.cells (u8s (List.replicate (n * 64) 0)).toArray 69)) (.cells (u8s (List.replicate (n * 64) 0)).toArray 69)
  have s1 : (w.alloc (.cells (u8s (List.replicate (n * 64) 0)).toArray 69)).heap.size = w.heap.size + 1 := by simp
  rw [s1] at h2
  have h3 := fun o => heap_alloc_new ((w.alloc (.cells (u8s (List.replicate (n * 64) 0)).toArray 69)).alloc (.cells (u8s (List.replicate (n * 64) 0)).toArray 69)) o
  have s2 : ((w.alloc (.cells (u8s (List.replicate (n * 64) 0)).toArray 69)).alloc (.cells (u8s (List.replicate (n * 64) 0)).toArray 69)).heap.size = w.heap.size + 2 := by simp
  rw [s2] at h3
  have k1 : ∀ o, (((w.alloc (.cells (u8s (List.replicate (n * 64) 0)).toArray 69)).alloc (.cells (u8s (List.replicate (n * 64) 0)).toArray 69)).alloc o).heap[w.heap.size]? = some (.cells (u8s (List.replicate (n * 64) 0)).toArray 69 (0, 0)) := fun o => by
    rw [Below.heap_alloc _ _ _ (by omega), Below.heap_alloc _ _ _ (by omega)]; exact h1
  have k2 : ∀ o, (((w.alloc (.cells (u8s (List.replicate (n * 64) 0)).toArray 69)).alloc (.cells (u8s (List.replicate (n * 64) 0)).toArray 69)).alloc o).heap[w.heap.size + 1]? = some (.cells (u8s (List.replicate (n * 64) 0)).toArray 69 (0, 0)) := fun o => by
    rw [Below.heap_alloc _ _ _ (by omega)]; exact h2
  rcases hab with ⟨rfl, rfl⟩ | ⟨rfl, rfl⟩
  · exact ⟨DS.new_ok hn, h3 _, k1 _, k2 _, World.ownsRow_nil _ _ _ _, by omega⟩
  · exact ⟨DS.new_ok hn, h3 _, k2 _, k1 _, World.ownsRow_nil _ _ _ _, by omega⟩

set_option maxRecDepth 100000 in
set_option maxHeartbeats 400000 in
theorem disk_new (n : Nat) (w : World) (h8 : 8 ≤ n) (hn : n ≤ 4096) :
    Calls Try.prog 10 #[.int .i64 n] w fun e w' => e = .returned (.tuple #[.pointer (some ⟨w.heap.size + 2, 0, none⟩), .int .i64 0]) ∧ ∃ gn gk, DiskAt w' (w.heap.size + 2) gn gk (.slice none 0 0) (DS.new n) ∧ w.heap.size ≤ gn ∧ w.heap.size ≤ gk ∧ Only (fun _ => False) w w' := by
  have h8' : ¬ (n : Int) < 8 := by omega
  have hn' : ¬ 4096 < (n : Int) := by omega
  have hmk := run_make_sectors n hn
  have HM := fun (a b : Nat) hab => disk_made (w := w.drew) hn (C := (u8s (List.replicate (n * 64) 0)).toArray) rfl a b hab
  generalize (u8s (List.replicate (n * 64) 0)).toArray = C at hmk HM
  have HM := Lib.hid HM
  go_enter Try.func10, Try.ntmps10
  go_wp2
  go_region
  all_goals
    go_wp2
    go_ret2
    have hO := ((((Only.refl (fun _ => False) w).drew).alloc (.cells C 69)).alloc (.cells C 69))
    first
      | exact ⟨rfl, w.heap.size, w.heap.size + 1, HM.out _ _ (.inl ⟨rfl, rfl⟩), Nat.le_refl _, Nat.le_succ _, hO.alloc _⟩
      | exact ⟨rfl, w.heap.size + 1, w.heap.size, HM.out _ _ (.inr ⟨rfl, rfl⟩), Nat.le_succ _, Nat.le_refl _, hO.alloc _⟩

end Go.Proofs.Ytidkeglldmbfeaa
