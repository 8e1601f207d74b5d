/-
  The walk of the statement DiskPads.
-/
import Derived.Test.YtidkeglldmbfeaaDisk8
namespace Go.Proofs.Ytidkeglldmbfeaa
open Go Go.RowKit
set_option linter.unusedVariables false
set_option linter.unusedSimpArgs false
set_option maxRecDepth 100000

def modN (m : Nat) (z : Int) : Nat := ((wrap64 (z.tmod m + m)).tmod m).toNat
theorem modN_spec (m : Nat) (h0 : 0 < m) (hm : m ≤ 1000) (z : Int) : modN m z < m ∧ (wrap64 (z.tmod m + m)).tmod m = (modN m z : Int) := by
  have h1 : -(m : Int) < z.tmod m ∧ z.tmod m < m := by
    have a := Int.tmod_lt_of_pos z (show (0 : Int) < m by omega)
    have b := Int.lt_tmod_of_pos z (show (0 : Int) < m by omega)
    exact ⟨by omega, a⟩
  have h2 : wrap64 (z.tmod m + m) = z.tmod m + m := IntWalk.wrap64_in _ ⟨by omega, by omega⟩
  unfold modN
  rw [h2]
  have h3 : 0 ≤ (z.tmod m + m).tmod m := Int.tmod_nonneg _ (by omega)
  have h4 : (z.tmod m + m).tmod m < m := Int.tmod_lt_of_pos _ (by omega)
  exact ⟨by omega, by omega⟩

theorem DS.write_free {D : DS} (hd : D.down = false) (hf : D.fuse < 0) {i : Nat} (hi : i < D.n) {b : List UInt8} (hb : b.length ≤ 64) : D.write i b = D.lay i (pad b) ∧ D.wrE i b = 0 := by
  have h1 := DS.last_free hd hf
  have h2 : D.has i = true := by simp [DS.has]; omega
  have h3 : decide (64 < b.length) = false := decide_eq_false (by omega)
  simp [DS.write, DS.wrE, h1, h2, h3]


theorem sec_zero (n i : Nat) (hi : i < n) : sec (List.replicate (n * 64) 0) i = List.replicate 64 0 := by
  rw [sec, List.drop_replicate, List.take_replicate]
  congr 1
  omega
theorem pad_get (b : List UInt8) (k : Nat) (hk : k < 64) (hb : b.length ≤ 64) : (pad b).getD k 0 = if k < b.length then b.getD k 0 else 0 := by
  by_cases h : k < b.length
  · simp [pad, h, List.getD_eq_getElem?_getD, List.getElem?_append]
  · have h2 : k - b.length < 64 - b.length := by omega
    simp [pad, h, List.getD_eq_getElem?_getD, List.getElem?_append, h2]
theorem SlC.cell {w : World} {ao : Option Addr} {n c : Nat} {xs : List UInt8} (h : SlC w (.slice ao n c) xs) {j : Nat} (hj : j < xs.length) :
    ∃ g off, ao = some ⟨g, off, none⟩ ∧ w.cell? ⟨g, off + j, none⟩ = some (.int .u8 (xs.getD j 0).toNat) := by
  rcases h with ⟨_, rfl⟩ | ⟨a, cap, e, hc⟩
  · simp at hj
  · simp at e
    obtain ⟨rfl, _, _⟩ := e
    have h1 := hc j hj
    obtain ⟨b, off, spot⟩ := a
    have hspot : spot = none := by simpa [Addr.add] using World.cell?_spot (hc 0 (by omega))
    subst hspot
    exact ⟨b, off, rfl, by rw [← add_lit]; exact h1⟩
/-- What DiskPads reads. -/
theorem pads_read (at' : Nat) (h8 : at' < 8) (a b : List UInt8) (ha : a.length ≤ 64) (hb : b.length ≤ 64) (i : Nat) (hi : i < 8) :
    sec (((DS.new 8).lay at' (pad a)).lay at' (pad b)).N i = if i = at' then pad b else List.replicate 64 0 := by
  have l1 : (put (List.replicate (8 * 64) 0) at' (pad a)).length = 8 * 64 := put_length List.length_replicate h8 (pad_length ha)
  show sec (put (put (List.replicate (8 * 64) 0) at' (pad a)) at' (pad b)) i = _
  by_cases h : i = at'
  · subst h
    rw [sec_put_same l1 hi (pad_length hb), if_pos rfl]
  · rw [sec_put_other l1 h8 (pad_length hb) h, sec_put_other (n := 8) List.length_replicate h8 (pad_length ha) h, sec_zero 8 i hi, if_neg h]


end Go.Proofs.Ytidkeglldmbfeaa
