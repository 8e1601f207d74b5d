/-
  Contracts of the reference's disk: Write, where it lays nothing.
-/
import Derived.Test.YtidkeglldmbfeaaDiskRef3
namespace Go.Proofs.Ytidkeglldmbfeaa
open Go Go.RowKit
set_option linter.unusedVariables false
set_option linter.unusedSimpArgs false
set_option maxRecDepth 100000

set_option maxHeartbeats 1000000 in
theorem ref_write_arg {w : World} {r gk gs ck cs : Nat} {vw : Value} {f : Int} {kb sb : List Nat} {wb : List (Nat × Nat)} {D : DS} (h : RefAt w r gk gs ck cs vw f kb sb wb D) (i : Int) (vo : Option Addr) (l vc : Nat) (hi : D.has i = false ∨ 64 < l) :
    Calls Try.prog 23 #[.pointer (some ⟨r, 0, none⟩), .int .i64 i, .slice vo l vc] w fun e w' => e = .returned (.int .i64 1) ∧ w = w' := by
  have hc1 : w.cell? ⟨r, 1, none⟩ = some (.slice (some ⟨gs, 0, none⟩) D.n cs) := h.cell 1
  have hh : i < 0 ∨ (¬ i < 0 ∧ ¬ i < (D.n : Int)) ∨ (¬ i < 0 ∧ i < (D.n : Int) ∧ (64 : Int) < (l : Int)) := by simp [DS.has] at hi; omega
  clear h hi
  rcases hh with h | ⟨h1, h2⟩ | ⟨h1, h2, h3⟩
  · go_enter Try.func23, Try.ntmps23
    go_wp2
    go_ret
    exact ⟨rfl, rfl⟩
  · go_enter Try.func23, Try.ntmps23
    go_wp2
    go_ret
    exact ⟨rfl, rfl⟩
  · go_enter Try.func23, Try.ntmps23
    go_wp2
    go_ret
    exact ⟨rfl, rfl⟩

set_option maxHeartbeats 1000000 in
/-- The power is gone: whatever the fuse says, nothing is laid. -/
theorem ref_write_gone {w : World} {r gk gs ck cs : Nat} {vw : Value} {f : Int} {kb sb : List Nat} {wb : List (Nat × Nat)} {D : DS} (h : RefAt w r gk gs ck cs vw f kb sb wb D) (i : Nat) (hi : i < D.n) (vo : Option Addr) (l vc : Nat) (hl : l ≤ 64) (hg : D.lastB = false) :
    Calls Try.prog 23 #[.pointer (some ⟨r, 0, none⟩), .int .i64 i, .slice vo l vc] w fun e w' => e = .returned (.int .i64 4) ∧ (∃ f', RefAt w' r gk gs ck cs vw f' kb sb wb D.last) ∧ Only (RCore r gk gs vw) w w' := by
  have hc1 : w.cell? ⟨r, 1, none⟩ = some (.slice (some ⟨gs, 0, none⟩) D.n cs) := h.cell 1
  have hc3 : w.cell? ⟨r, 3, none⟩ = some (.int .i64 f) := h.cell 3
  have hc4 : w.cell? ⟨r, 4, none⟩ = some (.bool D.down) := h.cell 4
  have hf3 := h.free 3
  have hf4 := h.free 4
  have h0 : (0 : Int) ≤ (i : Int) := by omega
  have h1 : (i : Int) < (D.n : Int) := by omega
  have h2 : ¬ (64 : Int) < (l : Int) := by omega
  have hw : D.last = { D with down := true } ∧ (D.down = false → f = 0) := by
    cases hd : D.down with
    | true => exact ⟨by rw [(DS.last_gone hd).2, ← hd], fun e => by cases e⟩
    | false =>
      by_cases hz : D.fuse = 0
      · exact ⟨(DS.last_goes hd hz).2, fun _ => by rw [h.fuse hd, hz]; rfl⟩
      · have : D.lastB = true := by simp [DS.lastB, hd, hz]
        rw [this] at hg; cases hg
  have HA : Hid (∀ w' f', RefM w' r gk gs ck cs vw f' true D.wr D.sy D.n D.W.length kb sb wb → Only (RCore r gk gs vw) w w' → RefAt w' r gk gs ck cs vw f' kb sb wb D.last) := Lib.hid (fun w' f' hm ho => by
    rw [hw.1]
    exact ⟨⟨h.ok.n, h.ok.N, h.ok.K, h.ok.W, h.ok.fuse⟩, hm, (fun e => by cases e), fun j hj => (h.hk j hj).hold h.m ho, fun j hj => (h.hs j hj).hold h.m ho, fun j hj => ⟨(h.hw j hj).1, (h.hw j hj).2.hold h.m ho⟩⟩)
  have HM := Lib.hid h.m
  have HF := Lib.hid hw.2
  clear h hg hw
  by_cases hf : f = 0
  · subst hf
    have HM1 := Lib.hid (HM.out.set (f' := 0) (dn' := true) (wr' := D.wr) (sy' := D.sy) 4 (.bool true) rfl)
    have HM2 := Lib.hid (HM1.out.set (f' := -1) (dn' := true) (wr' := D.wr) (sy' := D.sy) 3 (.int .i64 (-1)) rfl)
    have HO2 := Lib.hid (((Only.refl (RCore r gk gs vw) w).setCell (p := ⟨r, 4, none⟩) (fun _ => .inl rfl) (.bool true)).setCell (p := ⟨r, 3, none⟩) (fun _ => .inl rfl) (.int .i64 (-1)))
    go_enter Try.func23, Try.ntmps23
    go_wp2
    go_ret
    exact ⟨rfl, ⟨_, HA.out _ _ HM2.out HO2.out⟩, HO2.out⟩
  · have hd : D.down = true := by
      cases hd : D.down with
      | true => rfl
      | false => exact absurd (HF.out hd) hf
    rw [hd] at hc4
    have HM0 := Lib.hid (show RefM w r gk gs ck cs vw f true D.wr D.sy D.n D.W.length kb sb wb by rw [← hd]; exact HM.out)
    clear HM HF hd
    go_enter Try.func23, Try.ntmps23
    go_wp2
    go_ret
    exact ⟨rfl, ⟨_, HA.out _ _ HM0.out (Only.refl _ _)⟩, Only.refl _ _⟩

end Go.Proofs.Ytidkeglldmbfeaa
