/-
  Contracts of the reference's disk: Read, Fuse.
-/
import Derived.Test.YtidkeglldmbfeaaDiskRef1
namespace Go.Proofs.Ytidkeglldmbfeaa
open Go Go.RowKit
set_option linter.unusedVariables false
set_option linter.unusedSimpArgs false
set_option maxRecDepth 100000

set_option maxHeartbeats 400000 in
theorem ref_read {w : World} {r gk gs ck cs : Nat} {vw : Value} {f : Int} {kb sb : List Nat} {wb : List (Nat × Nat)} {D : DS} (h : RefAt w r gk gs ck cs vw f kb sb wb D) (i : Nat) (hi : i < D.n) :
    Calls Try.prog 25 #[.pointer (some ⟨r, 0, none⟩), .int .i64 i] w fun e w' => ∃ v, e = .returned (.tuple #[v, .int .i64 0]) ∧ w'.ownsRow w.heap.size 5 1 v 64 (u8s (sec D.N i)) ∧ Only (fun _ => False) w w' := by
  have hc1 : w.cell? ⟨r, 1, none⟩ = some (.slice (some ⟨gs, 0, none⟩) D.n cs) := h.cell 1
  have hcs := h.seenAt hi
  have HB := Lib.hid (h.hs i hi)
  have hk0 : (0 : Int) ≤ (i : Int) := by omega
  have hk1 : (i : Int) < (D.n : Int) := by omega
  obtain ⟨b, hb⟩ : ∃ b, b = sb.getD i 0 := ⟨_, rfl⟩
  rw [← hb] at hcs HB
  rw [sl64] at hcs
  clear h hb
  go_enter Try.func25, Try.ntmps25
  go_wp2_with fail
  refine (raw_copy _ _ _ HB.out.slc (by rw [HB.out.2]; omega)).mono ?_
  rintro e w1 ⟨v, rfl, hv, ho⟩
  rw [HB.out.2] at hv
  have HV := Lib.hid hv
  have HO := Lib.hid ho
  clear hv ho
  go_wp2_with fail
  go_ret2
  exact ⟨_, rfl, HV.out, HO.out⟩

set_option maxHeartbeats 400000 in
theorem ref_read_arg {w : World} {r gk gs ck cs : Nat} {vw : Value} {f : Int} {kb sb : List Nat} {wb : List (Nat × Nat)} {D : DS} (h : RefAt w r gk gs ck cs vw f kb sb wb D) (i : Int) (hi : D.has i = false) :
    Calls Try.prog 25 #[.pointer (some ⟨r, 0, none⟩), .int .i64 i] w fun e w' => e = .returned (.tuple #[.slice none 0 0, .int .i64 1]) ∧ w = w' := by
  have hc1 : w.cell? ⟨r, 1, none⟩ = some (.slice (some ⟨gs, 0, none⟩) D.n cs) := h.cell 1
  have hh : i < 0 ∨ (¬ i < 0 ∧ ¬ i < (D.n : Int)) := by simp [DS.has] at hi; omega
  clear h hi
  rcases hh with h | ⟨h1, h2⟩
  · go_enter Try.func25, Try.ntmps25
    go_wp2
    go_ret2
    exact ⟨rfl, rfl⟩
  · go_enter Try.func25, Try.ntmps25
    go_wp2
    go_ret2
    exact ⟨rfl, rfl⟩

theorem HasB.hold {w w' : World} {b : Nat} {s : List UInt8} (hb : HasB w b s) {r gk gs ck cs : Nat} {vw : Value} {f : Int} {dn : Bool} {wr sy n m : Nat} {kb sb : List Nat} {wb : List (Nat × Nat)} (h : RefM w r gk gs ck cs vw f dn wr sy n m kb sb wb)
    (ho : Only (RCore r gk gs vw) w w') : HasB w' b s := ⟨(ho.block b (lt_of_some hb.1) (h.bytes hb.1)).trans hb.1, hb.2⟩

set_option maxHeartbeats 400000 in
theorem ref_fuse {w : World} {r gk gs ck cs : Nat} {vw : Value} {f : Int} {kb sb : List Nat} {wb : List (Nat × Nat)} {D : DS} (h : RefAt w r gk gs ck cs vw f kb sb wb D) (n : Int) (hn : -9223372036854775808 ≤ n ∧ n ≤ 9223372036854775807) :
    Calls Try.prog 28 #[.pointer (some ⟨r, 0, none⟩), .int .i64 n] w fun e w' => e = .returned (.tuple #[]) ∧ (∃ f', RefAt w' r gk gs ck cs vw f' kb sb wb (D.fused n)) ∧ Only (RCore r gk gs vw) w w' := by
  have hc : w.cell? ⟨r, 4, none⟩ = some (.bool D.down) := h.cell 4
  have hc3 : w.cell? ⟨r, 3, none⟩ = some (.int .i64 f) := h.cell 3
  have hf := h.free 3
  by_cases hd : D.down = true
  · have H := Lib.hid h
    have HL : Hid (D.fused n = D) := Lib.hid (by simp [DS.fused, hd])
    rw [hd] at hc
    clear h hd
    go_enter Try.func28, Try.ntmps28
    go_wp2
    refine bodyPost_ret (results_none rfl _ _ _) rfl ⟨rfl, ⟨f, ?_⟩, Only.refl _ _⟩
    rw [HL.out]
    exact H.out
  · have hd' : D.down = false := by simpa using hd
    have HL : Hid (D.fused n = { D with fuse := n }) := Lib.hid (by simp [DS.fused, hd'])
    have HA : Hid (∀ w' f', RefM w' r gk gs ck cs vw f' D.down D.wr D.sy D.n D.W.length kb sb wb → Only (RCore r gk gs vw) w w' → (f' = if n < 0 then -1 else n) → RefAt w' r gk gs ck cs vw f' kb sb wb (D.fused n)) := Lib.hid (fun w' f' hm ho e => by
      rw [HL.out]
      exact ⟨⟨h.ok.n, h.ok.N, h.ok.K, h.ok.W, hn⟩, hm, fun _ => e, fun j hj => (h.hk j hj).hold h.m ho, fun j hj => (h.hs j hj).hold h.m ho, fun j hj => ⟨(h.hw j hj).1, (h.hw j hj).2.hold h.m ho⟩⟩)
    have HM := Lib.hid h.m
    rw [hd'] at hc
    clear h hd hd' HL
    have hO1 : Only (RCore r gk gs vw) w (w.setCell ⟨r, 3, none⟩ (.int .i64 n)) := (Only.cell w r 3 (.int .i64 n)).mono (fun k _ e => .inl e)
    have HO1 := Lib.hid hO1
    have HM1 := Lib.hid (HM.out.set (f' := n) (dn' := D.down) (wr' := D.wr) (sy' := D.sy) 3 (.int .i64 n) rfl)
    clear hO1
    by_cases h0 : n < 0
    · have hf1 : (w.setCell ⟨r, 3, none⟩ (.int .i64 n)).frozen? ⟨r, 3, none⟩ = false := by simp [World.frozen?, HM1.out.at']
      have hc1 : (w.setCell ⟨r, 3, none⟩ (.int .i64 n)).cell? ⟨r, 3, none⟩ = some (.int .i64 n) := by simp [World.cell?, HM1.out.at']
      have HM2 := Lib.hid (HM1.out.set (f' := -1) (dn' := D.down) (wr' := D.wr) (sy' := D.sy) 3 (.int .i64 (-1)) rfl)
      have HO2 := Lib.hid (HO1.out.setCell (p := ⟨r, 3, none⟩) (fun _ => .inl rfl) (.int .i64 (-1)))
      go_enter Try.func28, Try.ntmps28
      go_wp2
      go_end0
      exact ⟨rfl, ⟨_, HA.out _ _ HM2.out HO2.out (by rw [if_pos h0])⟩, HO2.out⟩
    · go_enter Try.func28, Try.ntmps28
      go_wp2
      go_end0
      exact ⟨rfl, ⟨_, HA.out _ _ HM1.out HO1.out (by rw [if_neg (by omega)])⟩, HO1.out⟩

end Go.Proofs.Ytidkeglldmbfeaa
