/-
  The statements' awake: it answers true, and changes nothing that was there.
-/
import Derived.Test.YtidkeglldmbfeaaDisk7
import Derived.Lib.SlBytesConst
namespace Go.Proofs.Ytidkeglldmbfeaa
open Go Go.RowKit
set_option linter.unusedVariables false
set_option linter.unusedSimpArgs false
set_option maxRecDepth 100000

def awD1 : DS := (DS.new 8).write 3 [97, 98]
def awD2 : DS := awD1.sync
def awD3 : DS := awD2.write 3 [99]
def awD4 : DS := awD3.crash []
theorem aw1 : (DS.new 8).wrE 3 [97, 98] = 0 := by decide
theorem aw2 : syE awD1 = 0 := by decide
theorem aw3 : awD2.wrE 3 [99] = 0 := by decide
theorem aw4 : (sec awD4.N 3).take 3 = [97, 98, 0] ∧ (sec awD4.N 3).length = 64 ∧ awD4.n = 8 ∧ awD1.W.length = 1 ∧ awD3.W.length = 1 ∧ awD2.W.length = 0 ∧ awD2.wr = 1 ∧ awD1.sy = 0 := by decide +kernel

set_option maxHeartbeats 1000000 in
theorem awake_any (w : World) :
    Calls Try.prog 9 #[] w fun e w' => e = .returned (.bool true) ∧ Quiet w w' := by
  have H0 := Lib.hid (Own.start w)
  have kc := fun (w : World) (C : Array Value) (n c : Nat) => Lib.run_convert_bytes_const (P := Try.prog) w 31 5 C n c Try.underlying31 Try.underlying5
  go_enter Try.func9, Try.ntmps9
  go_wp2_with fail
  refine (own_new H0.out 8 (by decide) (by decide)).mono ?_
  rintro e w1 ⟨p, rfl, h1⟩
  have H1 := Lib.hid h1; clear h1 H0
  go_wp2_with fail
  have H1a : Hid (Own w _ (Sep (DiskR p (DS.new 8)) (Sep (Row w1.heap.size 5 [97, 98] (2, 3)) Emp))) := Lib.hid (H1.out.lend (.cells #[.int .u8 97, .int .u8 98] 5 (2, 3)))
  refine (own_write H1a.out 3 (.slice (some ⟨w1.heap.size, 0, none⟩) 2 2) [97, 98] (fun F B hJ hd _ _ => Row.apart hJ hd rfl) (by decide) (by decide)).mono ?_
  rintro e w2 ⟨rfl, h2⟩
  rw [aw1]
  have H2 : Hid (Own w w2 (Sep (DiskR p awD1) Emp)) := Lib.hid h2.drop2
  clear h2 H1 H1a
  go_wp2_with fail
  refine (own_sync H2.out (by rw [aw4.2.2.2.1]; decide) (by rw [aw4.2.2.2.2.2.2.2]; decide)).mono ?_
  rintro e w3 ⟨rfl, h3⟩
  rw [aw2]
  have H3 : Hid (Own w w3 (Sep (DiskR p awD2) Emp)) := Lib.hid h3
  clear h3 H2
  go_wp2_with fail
  have H3a : Hid (Own w _ (Sep (DiskR p awD2) (Sep (Row w3.heap.size 5 [99] (1, 2)) Emp))) := Lib.hid (H3.out.lend (.cells #[.int .u8 99] 5 (1, 2)))
  refine (own_write H3a.out 3 (.slice (some ⟨w3.heap.size, 0, none⟩) 1 1) [99] (fun F B hJ hd _ _ => Row.apart hJ hd rfl) (by rw [aw4.2.2.2.2.2.1]; decide) (by rw [aw4.2.2.2.2.2.2.1]; decide)).mono ?_
  rintro e w4 ⟨rfl, h4⟩
  rw [aw3]
  have H4 : Hid (Own w w4 (Sep (DiskR p awD3) Emp)) := Lib.hid h4.drop2
  clear h4 H3 H3a
  go_wp2_with fail
  refine (own_crash H4.out none 0 [] (fun _ _ _ _ _ _ => SlIO.nil _ _) (by simp) (by rw [aw4.2.2.2.2.1]; decide)).mono ?_
  rintro e w5 ⟨rfl, h5⟩
  have H5 : Hid (Own w w5 (Sep (DiskR p awD4) Emp)) := Lib.hid h5
  clear h5 H4
  go_wp2_with fail
  refine (own_read H5.out 3 (by rw [aw4.2.2.1]; decide)).mono ?_
  rintro e w6 ⟨g, rfl, h6⟩
  obtain ⟨gn, gk, vw, hD⟩ := h6.snd.disk
  have hs := disk_size hD
  rw [aw4.2.2.1] at hs
  have HS := Lib.hid hs
  have hcv := run_strC (row_bytes (n := 3) (cap := 64) h6.fst.row (by rw [aw4.2.1]; decide))
  have H6 := Lib.hid h6.only
  clear h6 hD hs H5
  go_wp2_with (go_at_call 17; refine HS.out.mono ?_; rintro e w' ⟨rfl, rfl⟩)
  go_ret
  exact ⟨rfl, H6.out⟩

end Go.Proofs.Ytidkeglldmbfeaa
