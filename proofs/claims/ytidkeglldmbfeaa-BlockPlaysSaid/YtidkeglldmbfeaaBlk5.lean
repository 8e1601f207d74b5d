/-
  Package block's calls on a disk that the statement has made, beside what else it has made; and the statements' awake.
-/
import Derived.Test.YtidkeglldmbfeaaBlk4
import Derived.Lib.SlBytesConst
namespace Go.Proofs.Ytidkeglldmbfeaa
open Go Go.RowKit
set_option linter.unusedVariables false
set_option linter.unusedSimpArgs false
set_option maxRecDepth 100000

theorem own_bread_ok {w0 w : World} {p : Nat} {D : DS} {J : Res} [Stab J] (h : Own w0 w (Sep (DiskR p D) J)) (z : Int) (id : Nat) (xs : List UInt8) (hz : D.has z = true) (h0 : id ≠ 0) (hr : D.rd z.toNat id = some xs) :
    Calls Try.prog 35 #[.pointer (some ⟨p, 0, none⟩), .int .i64 z, .int .u64 id] w fun e w' => ∃ ao cap, e = .returned (.tuple #[.slice ao xs.length cap, .int .i64 0]) ∧ Own w0 w' (Sep (OwnB (.slice ao xs.length cap) xs) (Sep (DiskR p D) J)) := by
  obtain ⟨gn, gk, vw, hD⟩ := h.disk
  have hz' : 0 ≤ z ∧ z < D.n := by simpa [DS.has] using hz
  obtain ⟨s, rfl⟩ := Int.eq_ofNat_of_zero_le hz'.1
  have hr' : D.rd s id = some xs := by simpa using hr
  refine (blk_read_go hD s id (by omega) h0).mono ?_
  intro e w' he
  rw [hr'] at he
  obtain ⟨v, rfl, hv, ho⟩ := he
  obtain ⟨ao, cap, rfl⟩ := own_shape hv
  exact ⟨ao, cap, rfl, h.fresh ho (ownB_of hv) (fun k hk => (hv.lt k hk).1)⟩

theorem own_bread_bad {w0 w : World} {p : Nat} {D : DS} {J : Res} [Stab J] (h : Own w0 w (Sep (DiskR p D) J)) (z : Int) (id : Nat) (hz : D.has z = true) (h0 : id ≠ 0) (hr : D.rd z.toNat id = none) :
    Calls Try.prog 35 #[.pointer (some ⟨p, 0, none⟩), .int .i64 z, .int .u64 id] w fun e w' => e = .returned (.tuple #[.slice none 0 0, .int .i64 2]) ∧ Own w0 w' (Sep (DiskR p D) J) := by
  obtain ⟨gn, gk, vw, hD⟩ := h.disk
  have hz' : 0 ≤ z ∧ z < D.n := by simpa [DS.has] using hz
  obtain ⟨s, rfl⟩ := Int.eq_ofNat_of_zero_le hz'.1
  have hr' : D.rd s id = none := by simpa using hr
  refine (blk_read_go hD s id (by omega) h0).mono ?_
  intro e w' he
  rw [hr'] at he
  exact ⟨he.1, h.quiet he.2⟩

def aw3data : List UInt8 := [49, 50, 51, 52, 53, 54, 55, 56, 57, 32, 49, 50, 51, 52, 53, 54, 55, 56, 57, 32, 49, 50, 51, 52, 53, 54, 55, 56, 57, 32, 49, 50, 51, 52, 53, 54, 55, 56, 57, 32, 49, 50, 51, 52, 53, 54, 55, 56, 57, 32, 49]
def aw3D : DS := (DS.new 8).bwrite 2 7 aw3data
theorem aw3a : (DS.new 8).bwE 2 7 aw3data = 0 := by decide +kernel
theorem aw3b : aw3D.rd 2 7 = some aw3data ∧ aw3D.rd 3 7 = none ∧ aw3D.n = 8 := by decide +kernel

set_option maxHeartbeats 2000000 in
theorem awake3_any (w : World) :
    Calls Try.prog 30 #[] w fun e w' => e = .returned (.bool true) ∧ Quiet w w' := by
  have H0 := Lib.hid (Own.start w)
  have kc := fun (w : World) (C : Array Value) (n c : Nat) => Lib.run_convert_bytes_const (P := Try.prog) w 31 5 C n c Try.underlying31 Try.underlying5
  go_enter Try.func30, Try.ntmps30
  go_wp2_with fail
  refine (own_new H0.out 8 (by decide) (by decide)).mono ?_
  rintro e w1 ⟨p, rfl, h1⟩
  have H1 := Lib.hid h1; clear h1 H0
  go_wp2_with fail
  have H1a : Hid (Own w _ (Sep (DiskR p (DS.new 8)) (Sep (Row w1.heap.size 5 aw3data (51, 52)) Emp))) := Lib.hid (H1.out.lend (.cells #[.int .u8 49, .int .u8 50, .int .u8 51, .int .u8 52, .int .u8 53, .int .u8 54, .int .u8 55, .int .u8 56, .int .u8 57, .int .u8 32, .int .u8 49, .int .u8 50, .int .u8 51, .int .u8 52, .int .u8 53, .int .u8 54, .int .u8 55, .int .u8 56, .int .u8 57, .int .u8 32, .int .u8 49, .int .u8 50, .int .u8 51, .int .u8 52, .int .u8 53, .int .u8 54, .int .u8 55, .int .u8 56, .int .u8 57, .int .u8 32, .int .u8 49, .int .u8 50, .int .u8 51, .int .u8 52, .int .u8 53, .int .u8 54, .int .u8 55, .int .u8 56, .int .u8 57, .int .u8 32, .int .u8 49, .int .u8 50, .int .u8 51, .int .u8 52, .int .u8 53, .int .u8 54, .int .u8 55, .int .u8 56, .int .u8 57, .int .u8 32, .int .u8 49] 5 (51, 52)))
  obtain ⟨g, hg⟩ : ∃ g, g = w1.heap.size := ⟨_, rfl⟩
  rw [← hg] at H1a ⊢
  refine (own_bwrite H1a.out 2 (by decide) 7 (by decide) _ aw3data (fun w' B hJ _ => .inr ⟨_, _, rfl, by decide, by
    obtain ⟨A, C, hA, _⟩ := hJ
    exact row_bytes' hA.1 (by decide)⟩) (by decide) (by decide) (by decide)).mono ?_
  rintro e w2 ⟨rfl, h2⟩
  rw [aw3a]
  have H2 : Hid (Own w w2 (Sep (DiskR p aw3D) (Sep (Row g 5 aw3data (51, 52)) Emp))) := Lib.hid h2
  clear h2 H1 H1a hg
  go_wp2_with fail
  refine (own_bread_ok H2.out 2 7 aw3data (by decide) (by decide) aw3b.1).mono ?_
  rintro e w3 ⟨ao, cap, rfl, h3⟩
  have H3 := Lib.hid h3.swap
  clear h3 H2
  go_wp2_with fail
  refine (own_bread_bad H3.out 3 7 (by decide) (by decide) aw3b.2.1).mono ?_
  rintro e w4 ⟨rfl, h4⟩
  have hsb : SlC w4 (.slice ao aw3data.length cap) aw3data := by
    obtain ⟨F, h5, _⟩ := h4.snd.fst
    exact (own_toB h5.1).toC
  have hsd : SlC w4 (.slice (some ⟨g, 0, none⟩) 51 51) aw3data := row_bytes' h4.snd.snd.fst.row (by decide)
  have c1 := run_strC hsb
  have c2 := run_strC hsd
  have H4 := Lib.hid h4.only
  clear h4 H3 hsb hsd kc
  go_wp2_with (go_at_call 31; refine (count_any 51 (by decide) _).mono ?_; rintro e w' ⟨rfl, rfl⟩; rw [show ((cnt 51 : Nat) : Int) = 2 by decide])
  go_ret
  exact ⟨rfl, H4.out⟩

end Go.Proofs.Ytidkeglldmbfeaa
