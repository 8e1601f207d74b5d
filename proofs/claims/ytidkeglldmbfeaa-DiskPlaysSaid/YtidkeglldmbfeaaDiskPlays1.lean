/-
  The walk of the statements' DiskPlays, where New refuses: each call on no disk.
-/
import Derived.Test.YtidkeglldmbfeaaDiskRef9
import Derived.Test.YtidkeglldmbfeaaDisk8
import Derived.Test.YtidkeglldmbfeaaDiskArg
namespace Go.Proofs.Ytidkeglldmbfeaa
open Go Go.RowKit
set_option linter.unusedVariables false
set_option linter.unusedSimpArgs false
set_option maxRecDepth 100000

set_option maxRecDepth 100000 in
set_option maxHeartbeats 2000000 in
theorem plays_refused (n : Int) (v : Value) (w : World) (hn : n < 8 ∨ 4096 < n) :
    Calls Try.prog 3 #[.int .i64 n, v] w fun e w' => e = .returned (.bool true) ∧ Quiet w w' := by
  have hc : ¬ (64 < n ∧ n ≤ 4096) := by omega
  rcases hn with h | h
  · have h1 : ¬ 64 < n := by omega
    go_enter Try.func3, Try.ntmps3
    go_wp2_with fail
    refine (awake_any w).mono ?_
    rintro e w0 ⟨rfl, hq⟩
    have HQ := Lib.hid hq; clear hq
    go_wp2_with (first
      | (go_at_call 10; refine (disk_new_arg n _ (.inl h)).mono ?_; rintro e w' ⟨rfl, rfl⟩)
      | (go_at_call 11; refine (ref_new_arg n _ (.inl h)).mono ?_; rintro e w' ⟨rfl, rfl⟩)
      | (go_at_call 12; refine (disk_read_nil _ _).mono ?_; rintro e w' ⟨rfl, rfl⟩)
      | (go_at_call 13; refine (disk_crash_nil _ _).mono ?_; rintro e w' ⟨rfl, rfl⟩)
      | (go_at_call 14; refine (disk_fuse_nil _ _).mono ?_; rintro e w' ⟨rfl, rfl⟩)
      | (go_at_call 15; refine (disk_write_nil _ _ _).mono ?_; rintro e w' ⟨rfl, rfl⟩)
      | (go_at_call 16; refine (disk_sync_nil _).mono ?_; rintro e w' ⟨rfl, rfl⟩)
      | (go_at_call 17; refine (disk_size_nil _).mono ?_; rintro e w' ⟨rfl, rfl⟩)
      | (go_at_call 18; refine (disk_waiting_nil _).mono ?_; rintro e w' ⟨rfl, rfl⟩)
      | (go_at_call 19; refine (disk_writes_nil _).mono ?_; rintro e w' ⟨rfl, rfl⟩)
      | (go_at_call 20; refine (disk_syncs_nil _).mono ?_; rintro e w' ⟨rfl, rfl⟩)
      | (go_at_call 21; refine (disk_down_nil _).mono ?_; rintro e w' ⟨rfl, rfl⟩))
    go_ret
    exact ⟨rfl, HQ.out⟩
  · have h1 : 64 < n := by omega
    have h2 : ¬ n ≤ 4096 := by omega
    go_enter Try.func3, Try.ntmps3
    go_wp2_with fail
    refine (awake_any w).mono ?_
    rintro e w0 ⟨rfl, hq⟩
    have HQ := Lib.hid hq; clear hq
    go_wp2_with (first
      | (go_at_call 10; refine (disk_new_arg n _ (.inr h)).mono ?_; rintro e w' ⟨rfl, rfl⟩)
      | (go_at_call 11; refine (ref_new_arg n _ (.inr h)).mono ?_; rintro e w' ⟨rfl, rfl⟩)
      | (go_at_call 12; refine (disk_read_nil _ _).mono ?_; rintro e w' ⟨rfl, rfl⟩)
      | (go_at_call 13; refine (disk_crash_nil _ _).mono ?_; rintro e w' ⟨rfl, rfl⟩)
      | (go_at_call 14; refine (disk_fuse_nil _ _).mono ?_; rintro e w' ⟨rfl, rfl⟩)
      | (go_at_call 15; refine (disk_write_nil _ _ _).mono ?_; rintro e w' ⟨rfl, rfl⟩)
      | (go_at_call 16; refine (disk_sync_nil _).mono ?_; rintro e w' ⟨rfl, rfl⟩)
      | (go_at_call 17; refine (disk_size_nil _).mono ?_; rintro e w' ⟨rfl, rfl⟩)
      | (go_at_call 18; refine (disk_waiting_nil _).mono ?_; rintro e w' ⟨rfl, rfl⟩)
      | (go_at_call 19; refine (disk_writes_nil _).mono ?_; rintro e w' ⟨rfl, rfl⟩)
      | (go_at_call 20; refine (disk_syncs_nil _).mono ?_; rintro e w' ⟨rfl, rfl⟩)
      | (go_at_call 21; refine (disk_down_nil _).mono ?_; rintro e w' ⟨rfl, rfl⟩))
    go_ret
    exact ⟨rfl, HQ.out⟩

end Go.Proofs.Ytidkeglldmbfeaa
