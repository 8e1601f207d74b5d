/-
  Contracts of package disk: the small calls.
-/
import Derived.Test.YtidkeglldmbfeaaRows
import Derived.Test.YtidkeglldmbfeaaDiskSt
import Derived.Deep.QuietTactic
import Derived.BigQuiet
import Derived.Laws.IdiomStrings
namespace Go.Proofs.Ytidkeglldmbfeaa
open Go Go.RowKit
set_option linter.unusedVariables false
set_option linter.unusedSimpArgs false
set_option maxRecDepth 100000

set_option maxHeartbeats 400000 in
theorem disk_has {w : World} {p gn gk : Nat} {vw : Value} {D : DS} (h : DiskAt w p gn gk vw D) (i : Int) :
    Calls Try.prog 38 #[.pointer (some ⟨p, 0, none⟩), .int .i64 i] w fun e w' => e = .returned (.bool (D.has i)) ∧ w = w' := by
  have hc : w.cell? ⟨p, 0, none⟩ = some (.slice (some ⟨gn, 0, none⟩) D.n D.n) := h.cell 0
  have hn := h.ok.n
  unfold DS.has
  generalize D.n = n at *
  clear h
  by_cases h0 : 0 ≤ i
  · by_cases h1 : i < (n : Int)
    · rw [decide_eq_true (show 0 ≤ i ∧ i < (n : Int) from ⟨h0, h1⟩)]
      go_enter Try.func38, Try.ntmps38
      go_wp2
      go_ret
      exact ⟨rfl, rfl⟩
    · rw [decide_eq_false (show ¬ (0 ≤ i ∧ i < (n : Int)) from fun h => h1 h.2)]
      go_enter Try.func38, Try.ntmps38
      go_wp2
      go_ret
      exact ⟨rfl, rfl⟩
  · rw [decide_eq_false (show ¬ (0 ≤ i ∧ i < (n : Int)) from fun h => h0 h.1)]
    have h0' : i < 0 := by omega
    go_enter Try.func38, Try.ntmps38
    go_wp2
    go_ret
    exact ⟨rfl, rfl⟩

set_option maxHeartbeats 400000 in
theorem disk_size {w : World} {p gn gk : Nat} {vw : Value} {D : DS} (h : DiskAt w p gn gk vw D) :
    Calls Try.prog 17 #[.pointer (some ⟨p, 0, none⟩)] w fun e w' => e = .returned (.int .i64 D.n) ∧ w = w' := by
  have hc : w.cell? ⟨p, 0, none⟩ = some (.slice (some ⟨gn, 0, none⟩) D.n D.n) := h.cell 0
  clear h
  go_enter Try.func17, Try.ntmps17
  go_wp2
  go_ret
  exact ⟨rfl, rfl⟩
set_option maxHeartbeats 400000 in
theorem disk_size_nil (w : World) :
    Calls Try.prog 17 #[.pointer none] w fun e w' => e = .returned (.int .i64 0) ∧ w = w' := by
  go_enter Try.func17, Try.ntmps17
  go_wp2
  go_ret
  exact ⟨rfl, rfl⟩

set_option maxHeartbeats 400000 in
theorem disk_waiting {w : World} {p gn gk : Nat} {vw : Value} {D : DS} (h : DiskAt w p gn gk vw D) :
    Calls Try.prog 18 #[.pointer (some ⟨p, 0, none⟩)] w fun e w' => e = .returned (.int .i64 D.W.length) ∧ w = w' := by
  have hc : w.cell? ⟨p, 2, none⟩ = some vw := h.cell 2
  obtain ⟨ao, cap, rfl⟩ := own_shapeN h.row
  clear h
  go_enter Try.func18, Try.ntmps18
  go_wp2
  go_ret
  exact ⟨rfl, rfl⟩
set_option maxHeartbeats 400000 in
theorem disk_waiting_nil (w : World) :
    Calls Try.prog 18 #[.pointer none] w fun e w' => e = .returned (.int .i64 0) ∧ w = w' := by
  go_enter Try.func18, Try.ntmps18
  go_wp2
  go_ret
  exact ⟨rfl, rfl⟩

set_option maxHeartbeats 400000 in
theorem disk_writes {w : World} {p gn gk : Nat} {vw : Value} {D : DS} (h : DiskAt w p gn gk vw D) :
    Calls Try.prog 19 #[.pointer (some ⟨p, 0, none⟩)] w fun e w' => e = .returned (.int .i64 D.wr) ∧ w = w' := by
  have hc : w.cell? ⟨p, 5, none⟩ = some (.int .i64 D.wr) := h.cell 5
  clear h
  go_enter Try.func19, Try.ntmps19
  go_wp2
  go_ret
  exact ⟨rfl, rfl⟩
set_option maxHeartbeats 400000 in
theorem disk_writes_nil (w : World) :
    Calls Try.prog 19 #[.pointer none] w fun e w' => e = .returned (.int .i64 0) ∧ w = w' := by
  go_enter Try.func19, Try.ntmps19
  go_wp2
  go_ret
  exact ⟨rfl, rfl⟩

set_option maxHeartbeats 400000 in
theorem disk_syncs {w : World} {p gn gk : Nat} {vw : Value} {D : DS} (h : DiskAt w p gn gk vw D) :
    Calls Try.prog 20 #[.pointer (some ⟨p, 0, none⟩)] w fun e w' => e = .returned (.int .i64 D.sy) ∧ w = w' := by
  have hc : w.cell? ⟨p, 6, none⟩ = some (.int .i64 D.sy) := h.cell 6
  clear h
  go_enter Try.func20, Try.ntmps20
  go_wp2
  go_ret
  exact ⟨rfl, rfl⟩
set_option maxHeartbeats 400000 in
theorem disk_syncs_nil (w : World) :
    Calls Try.prog 20 #[.pointer none] w fun e w' => e = .returned (.int .i64 0) ∧ w = w' := by
  go_enter Try.func20, Try.ntmps20
  go_wp2
  go_ret
  exact ⟨rfl, rfl⟩

set_option maxHeartbeats 400000 in
theorem disk_down {w : World} {p gn gk : Nat} {vw : Value} {D : DS} (h : DiskAt w p gn gk vw D) :
    Calls Try.prog 21 #[.pointer (some ⟨p, 0, none⟩)] w fun e w' => e = .returned (.bool D.down) ∧ w = w' := by
  have hc : w.cell? ⟨p, 4, none⟩ = some (.bool D.down) := h.cell 4
  clear h
  go_enter Try.func21, Try.ntmps21
  go_wp2
  go_ret
  exact ⟨rfl, rfl⟩
set_option maxHeartbeats 400000 in
theorem disk_down_nil (w : World) :
    Calls Try.prog 21 #[.pointer none] w fun e w' => e = .returned (.bool false) ∧ w = w' := by
  go_enter Try.func21, Try.ntmps21
  go_wp2
  go_ret
  exact ⟨rfl, rfl⟩

/-- A store into the disk's struct. -/
theorem DiskAt.set {w : World} {p gn gk : Nat} {vw : Value} {D D' : DS} (h : DiskAt w p gn gk vw D) (j : Nat) (u : Value) (ok : D'.Ok) (hN : D'.N = D.N) (hK : D'.K = D.K) (hW : D'.W = D.W)
    (hc : (#[.slice (some ⟨gn, 0, none⟩) D.n D.n, .slice (some ⟨gk, 0, none⟩) D.n D.n, vw, .int .i64 D.fuse, .bool D.down, .int .i64 D.wr, .int .i64 D.sy] : Array Value).setIfInBounds j u =
      #[.slice (some ⟨gn, 0, none⟩) D'.n D'.n, .slice (some ⟨gk, 0, none⟩) D'.n D'.n, vw, .int .i64 D'.fuse, .bool D'.down, .int .i64 D'.wr, .int .i64 D'.sy]) :
    DiskAt (w.setCell ⟨p, j, none⟩ u) p gn gk vw D' := by
  obtain ⟨n1, n2⟩ := h.np
  refine ⟨ok, by rw [heap_set h.at', hc], ?_, ?_, ?_, h.ne⟩
  · rw [Below.heap_setCell _ _ _ _ n1, hN]; exact h.now
  · rw [Below.heap_setCell _ _ _ _ n2, hK]; exact h.kept
  · rw [hW]; exact own_keepAt h.row (fun k e => Below.heap_setCell _ _ _ _ (fun e2 => h.nw.2.2 (by rw [e]; exact congrArg some e2)))

set_option maxHeartbeats 400000 in
theorem disk_fuse {w : World} {p gn gk : Nat} {vw : Value} {D : DS} (h : DiskAt w p gn gk vw D) (n : Int) (hn : -9223372036854775808 ≤ n ∧ n ≤ 9223372036854775807) :
    Calls Try.prog 14 #[.pointer (some ⟨p, 0, none⟩), .int .i64 n] w fun e w' => e = .returned (.tuple #[]) ∧ DiskAt w' p gn gk vw (D.fused n) ∧ Only (fun k => k = p) w w' := by
  have hc : w.cell? ⟨p, 4, none⟩ = some (.bool D.down) := h.cell 4
  have hc3 : w.cell? ⟨p, 3, none⟩ = some (.int .i64 D.fuse) := h.cell 3
  have hf := h.free 3
  by_cases hd : D.down = true
  · have H := Lib.hid h
    have HL : Hid (D.fused n = D) := Lib.hid (by simp [DS.fused, hd])
    rw [hd] at hc
    clear h hd
    go_enter Try.func14, Try.ntmps14
    go_wp2
    refine bodyPost_ret (results_none rfl _ _ _) rfl ⟨rfl, ?_, Only.refl _ _⟩
    rw [HL.out]
    exact H.out
  · have hd' : D.down = false := by simpa using hd
    have H := Lib.hid (h.set (D' := { D with fuse := n }) 3 (.int .i64 n) ⟨h.ok.n, h.ok.N, h.ok.K, h.ok.W, hn⟩ rfl rfl rfl rfl)
    have HL : Hid (D.fused n = { D with fuse := n }) := Lib.hid (by simp [DS.fused, hd'])
    rw [hd'] at hc
    clear h hd hd'
    go_enter Try.func14, Try.ntmps14
    go_wp2
    go_end0
    refine ⟨rfl, ?_, Only.cell _ _ _ _⟩
    rw [HL.out]
    exact H.out
set_option maxHeartbeats 400000 in
theorem disk_fuse_nil (w : World) (n : Int) :
    Calls Try.prog 14 #[.pointer none, .int .i64 n] w fun e w' => e = .returned (.tuple #[]) ∧ w = w' := by
  go_enter Try.func14, Try.ntmps14
  go_wp2
  exact bodyPost_ret (results_none rfl _ _ _) rfl ⟨rfl, rfl⟩

theorem DS.last_gone {D : DS} (h : D.down = true) : D.lastB = false ∧ D.last = D := by simp [DS.lastB, DS.last, h]
theorem DS.last_goes {D : DS} (h : D.down = false) (h0 : D.fuse = 0) : D.lastB = false ∧ D.last = { D with down := true } := by simp [DS.lastB, DS.last, h, h0]
theorem DS.last_burns {D : DS} (h : D.down = false) (h0 : 0 < D.fuse) : D.lastB = true ∧ D.last = { D with fuse := D.fuse - 1 } := by
  have h1 : D.fuse ≠ 0 := by omega
  simp [DS.lastB, DS.last, h, h0, h1]
theorem DS.last_free {D : DS} (h : D.down = false) (h0 : D.fuse < 0) : D.lastB = true ∧ D.last = D := by
  have h1 : D.fuse ≠ 0 := by omega
  have h2 : ¬ 0 < D.fuse := by omega
  simp [DS.lastB, DS.last, h, h1, h2]

set_option maxHeartbeats 400000 in
theorem disk_lasts {w : World} {p gn gk : Nat} {vw : Value} {D : DS} (h : DiskAt w p gn gk vw D) :
    Calls Try.prog 40 #[.pointer (some ⟨p, 0, none⟩)] w fun e w' => e = .returned (.bool D.lastB) ∧ DiskAt w' p gn gk vw D.last ∧ Only (fun k => k = p) w w' := by
  have hc : w.cell? ⟨p, 4, none⟩ = some (.bool D.down) := h.cell 4
  have hc3 : w.cell? ⟨p, 3, none⟩ = some (.int .i64 D.fuse) := h.cell 3
  have hf3 := h.free 3
  have hf4 := h.free 4
  have hr := h.ok.fuse
  by_cases hd : D.down = true
  · have H := Lib.hid h
    have HL := Lib.hid (DS.last_gone hd)
    rw [hd] at hc
    clear h hd
    go_enter Try.func40, Try.ntmps40
    go_wp2
    go_ret
    refine ⟨by rw [HL.out.1]; rfl, ?_, Only.refl _ _⟩
    rw [HL.out.2]
    exact H.out
  · have hd' : D.down = false := by simpa using hd
    clear hd
    rw [hd'] at hc
    by_cases h0 : D.fuse = 0
    · have H := Lib.hid (h.set (D' := { D with down := true }) 4 (.bool true) ⟨h.ok.n, h.ok.N, h.ok.K, h.ok.W, h.ok.fuse⟩ rfl rfl rfl rfl)
      have HL := Lib.hid (DS.last_goes hd' h0)
      rw [h0] at hc3
      clear h hd' h0 hr
      go_enter Try.func40, Try.ntmps40
      go_wp2
      go_ret
      refine ⟨by rw [HL.out.1]; rfl, ?_, Only.cell _ _ _ _⟩
      rw [HL.out.2]
      exact H.out
    · have he : (D.fuse == 0) = false := by simpa using h0
      by_cases hp : 0 < D.fuse
      · have H := Lib.hid (h.set (D' := { D with fuse := D.fuse - 1 }) 3 (.int .i64 (D.fuse - 1)) ⟨h.ok.n, h.ok.N, h.ok.K, h.ok.W, by show _ ≤ D.fuse - 1 ∧ D.fuse - 1 ≤ _; omega⟩ rfl rfl rfl rfl)
        have HL := Lib.hid (DS.last_burns hd' hp)
        clear h hd' h0
        go_enter Try.func40, Try.ntmps40
        go_wp2
        go_ret
        refine ⟨by rw [HL.out.1]; rfl, ?_, Only.cell _ _ _ _⟩
        rw [HL.out.2]
        exact H.out
      · have H := Lib.hid h
        have HL := Lib.hid (DS.last_free hd' (by omega))
        clear h hd' h0
        go_enter Try.func40, Try.ntmps40
        go_wp2
        go_ret
        refine ⟨by rw [HL.out.1]; rfl, ?_, Only.refl _ _⟩
        rw [HL.out.2]
        exact H.out

set_option maxHeartbeats 400000 in
theorem disk_odd (w : World) (z : Int) (hz : -9223372036854775808 ≤ z ∧ z ≤ 9223372036854775807) :
    Calls Try.prog 39 #[.int .i64 z] w fun e w' => e = .returned (.bool (oddZ z)) ∧ w = w' := by
  go_enter Try.func39, Try.ntmps39
  go_wp2
  go_ret
  exact ⟨rfl, rfl⟩

end Go.Proofs.Ytidkeglldmbfeaa
