/-
  Contracts of package disk: Write whole, Sync.
-/
import Derived.Test.YtidkeglldmbfeaaDisk3
namespace Go.Proofs.Ytidkeglldmbfeaa
open Go Go.RowKit
set_option linter.unusedVariables false
set_option linter.unusedSimpArgs false
set_option maxRecDepth 100000

set_option maxHeartbeats 400000 in
theorem disk_write_gone {w : World} {p gn gk : Nat} {vw : Value} {D : DS} (h : DiskAt w p gn gk vw D) (i : Nat) (v : Value) (b : List UInt8) (hi : i < D.n) (hb : b.length ≤ 64) (hl : D.lastB = false) (hv : SlC w v b) :
    Calls Try.prog 15 #[.pointer (some ⟨p, 0, none⟩), .int .i64 i, v] w fun e w' => e = .returned (.int .i64 4) ∧ DiskAt w' p gn gk vw D.last ∧ Only (fun k => k = p) w w' := by
  have hh := disk_has h i
  have e1 : D.has i = true := by simp [DS.has]; omega
  rw [e1] at hh
  have hla := disk_lasts h
  rw [hl] at hla
  obtain ⟨ao, c, rfl⟩ := hv.shape
  have hb' : ¬ (64 : Int) < (b.length : Int) := by omega
  have H2 := Lib.hid hh
  have H3 := Lib.hid hla
  have hbd : decide ((64 : Int) < (b.length : Int)) = false := decide_eq_false hb'
  clear h hh hla e1 hv hl hb
  go_enter Try.func15, Try.ntmps15
  go_wp2_with (first | (go_at_call 38; refine H2.out.mono ?_; rintro e w' ⟨rfl, rfl⟩) | (go_at_call 40; refine H3.out.mono ?_; rintro e w1 ⟨rfl, h1, o1⟩; have H1 := Lib.hid h1; have O1 := Lib.hid o1; clear h1 o1))
  go_ret
  exact ⟨rfl, H1.out, O1.out⟩

/-- Write, whatever is handed in. -/
theorem disk_write {w : World} {p gn gk : Nat} {vw : Value} {D : DS} (h : DiskAt w p gn gk vw D) (i : Int) (v : Value) (b : List UInt8) (hv : SlO w (Foot p gn gk vw) v b) (hW : D.W.length ≤ 1000000) (hwr : D.wr ≤ 1000000) :
    Calls Try.prog 15 #[.pointer (some ⟨p, 0, none⟩), .int .i64 i, v] w (WrotePost w p gn gk vw (D.write i b) (D.wrE i b)) := by
  by_cases hi : D.has i = true
  · obtain ⟨n, rfl⟩ : ∃ n : Nat, i = n := ⟨i.toNat, by simp [DS.has] at hi; omega⟩
    have hin : n < D.n := by simp [DS.has] at hi; omega
    by_cases hb : b.length ≤ 64
    · have hb' : decide (64 < b.length) = false := decide_eq_false (by omega)
      cases hl : D.lastB with
      | true =>
        have e1 : D.write n b = D.last.lay n (pad b) := by simp [DS.write, hi, hb', hl]
        have e2 : D.wrE n b = 0 := by simp [DS.wrE, hi, hb', hl]
        rw [e1, e2]
        exact disk_write_ok h n v b hin hb hl hv hW hwr
      | false =>
        have e1 : D.write n b = D.last := by simp [DS.write, hi, hb', hl]
        have e2 : D.wrE n b = 4 := by simp [DS.wrE, hi, hb', hl]
        rw [e1, e2]
        refine (disk_write_gone h n v b hin hb hl hv.1).mono ?_
        rintro e w' ⟨rfl, h1, o1⟩
        exact ⟨rfl, vw, h1, .inl rfl, o1.mono (fun _ _ e => .inl e)⟩
    · have hb' : decide (64 < b.length) = true := decide_eq_true (by omega)
      have e1 : D.write n b = D := by simp [DS.write, hi, hb']
      have e2 : D.wrE n b = 1 := by simp [DS.wrE, hi, hb']
      rw [e1, e2]
      obtain ⟨ao, c, rfl⟩ := hv.1.shape
      refine (disk_write_long h n ao b.length c hi (by omega)).mono ?_
      rintro e w' ⟨rfl, rfl⟩
      exact ⟨rfl, vw, h, .inl rfl, Only.refl _ _⟩
  · have hi' : D.has i = false := by simpa using hi
    have e1 : D.write i b = D := by simp [DS.write, hi']
    have e2 : D.wrE i b = 1 := by simp [DS.wrE, hi']
    rw [e1, e2]
    refine (disk_write_far h i v hi').mono ?_
    rintro e w' ⟨rfl, rfl⟩
    exact ⟨rfl, vw, h, .inl rfl, Only.refl _ _⟩

/-- The write number j that waits, in memory. -/
theorem DiskAt.wait {w : World} {p gn gk : Nat} {ao : Option Addr} {n cap : Nat} {D : DS} (h : DiskAt w p gn gk (.slice ao n cap) D) {j : Nat} (hj : j < D.W.length) :
    ∃ gw, ao = some ⟨gw, 0, none⟩ ∧ w.rangeAt gw (j * 65) (.int .i64 (D.W[j]).1 :: u8s (D.W[j]).2) := by
  rcases h.row.2 with ⟨hv, h0⟩ | ⟨g, cap', cur, hv, _, hg, hc, hm, hs, ht⟩
  · omega
  · simp at hv
    obtain ⟨rfl, _, _⟩ := hv
    refine ⟨g, rfl, fun k v hv => ?_⟩
    have hk : k < 65 := by
      have := (List.getElem?_eq_some_iff.1 hv).1
      simpa [u8s_length, (h.ok.W _ (List.getElem_mem hj)).2] using this
    rw [← wcells_at (fun x hx => (h.ok.W x hx).2) hj k hk, ← ht, List.getElem?_take] at hv
    rw [cell_of_row w g _ _ _ _ hg]
    split at hv
    · simpa using hv
    · cases hv

end Go.Proofs.Ytidkeglldmbfeaa
