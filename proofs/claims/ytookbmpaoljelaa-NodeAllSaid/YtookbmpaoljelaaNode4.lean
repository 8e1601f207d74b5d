/-
  Package node: leafFits, bufFits, innerFits, Right.
-/
import Derived.Test.YtookbmpaoljelaaNode3
namespace Go.Proofs.Ytookbmpaoljelaa
open Go Go.RowKit
set_option linter.unusedVariables false
set_option linter.unusedSimpArgs false
set_option maxRecDepth 100000

set_option maxHeartbeats 2000000 in
theorem lfits_any (h : Nh) (n : Nd) (w : World) (H : NdAt w h n) :
    Calls Try.prog 24 #[ndv h n] w fun r w' => r = .returned (.bool (leafB n)) ∧ Only (fun _ => False) w w' := by
  have HS := Lib.hid (NbAt.start H)
  clear H
  obtain ⟨c0, c1, c2, c3, c4⟩ := HS.out.cells
  by_cases hp : n.ps.length = 0
  rotate_left
  · have hI : (0 : Int) < (n.ps.length : Int) := by omega
    have hd : decide (0 < n.ps.length) = true := decide_eq_true (by omega)
    have HE : Hid (leafB n = false) := Lib.hid (by simp [leafB, hp])
    clear hp
    go_enter Try.func24, Try.ntmps24
    go_wp2_with fail
    go_ret
    exact ⟨by rw [HE.out]; rfl, HS.out.only⟩
  have hpI : ¬ (0 : Int) < (n.ps.length : Int) := by omega
  have hpd : decide (0 < n.ps.length) = false := decide_eq_false (by omega)
  by_cases hk : n.ks.length = 0
  rotate_left
  · have hI : (0 : Int) < (n.ks.length : Int) := by omega
    have hd : decide (0 < n.ks.length) = true := decide_eq_true (by omega)
    have HE : Hid (leafB n = false) := Lib.hid (by simp [leafB, hk])
    clear hp hk
    go_enter Try.func24, Try.ntmps24
    go_wp2_with fail
    go_ret
    exact ⟨by rw [HE.out]; rfl, HS.out.only⟩
  have hkI : ¬ (0 : Int) < (n.ks.length : Int) := by omega
  have hkd : decide (0 < n.ks.length) = false := decide_eq_false (by omega)
  by_cases hb : n.bs.length = 0
  rotate_left
  · have hI : (0 : Int) < (n.bs.length : Int) := by omega
    have hd : decide (0 < n.bs.length) = true := decide_eq_true (by omega)
    have HE : Hid (leafB n = false) := Lib.hid (by simp [leafB, hb])
    clear hp hk hb
    go_enter Try.func24, Try.ntmps24
    go_wp2_with fail
    go_ret
    exact ⟨by rw [HE.out]; rfl, HS.out.only⟩
  have hbI : ¬ (0 : Int) < (n.bs.length : Int) := by omega
  have hbd : decide (0 < n.bs.length) = false := decide_eq_false (by omega)
  by_cases he : n.es.length ≤ 255
  rotate_left
  · have hI : (255 : Int) < (n.es.length : Int) := by omega
    have hd : decide (255 < n.es.length) = true := decide_eq_true (by omega)
    have HE : Hid (leafB n = false) := Lib.hid (by simp [leafB, he])
    clear hp hk hb he
    go_enter Try.func24, Try.ntmps24
    go_wp2_with fail
    go_ret
    exact ⟨by rw [HE.out]; rfl, HS.out.only⟩
  have heI : ¬ (255 : Int) < (n.es.length : Int) := by omega
  have hed : decide (255 < n.es.length) = false := decide_eq_false (by omega)
  have HE : Hid (leafB n = (riseB entryLt n.es && n.es.all entryB)) := Lib.hid (by
    unfold leafB
    rw [decide_eq_true hp, decide_eq_true hk, decide_eq_true hb, decide_eq_true he]
    rfl)
  have HR := Lib.hid (fun W (ho : Only (fun _ => False) (w.alloc (.cells (ndc h n) 27)) W) => rise_e h.eo n.es.length h.ec n.es W (HS.out.nd.e.keep ho) rfl HS.out.nd.le)
  have HA := Lib.hid (fun W (ho : Only (fun _ => False) (w.alloc (.cells (ndc h n) 27)) W) => all_e h.eo n.es.length h.ec n.es W (HS.out.nd.e.keep ho) rfl HS.out.nd.le)
  generalize leafB n = z at *
  obtain ⟨q1, hq1⟩ : ∃ q, riseB entryLt n.es = q := ⟨_, rfl⟩
  obtain ⟨q2, hq2⟩ : ∃ q, n.es.all entryB = q := ⟨_, rfl⟩
  rw [hq1] at HR HE
  rw [hq2] at HA HE
  clear hp hk hb he hq1 hq2
  go_enter Try.func24, Try.ntmps24
  go_wp2_with fail
  refine (HR.out _ (Only.refl _ _)).mono ?_
  rintro e w1 ⟨rfl, ho⟩
  have HO := Lib.hid ho
  have HS1 := Lib.hid (HS.out.keep ho)
  clear ho HR c0 c1 c2 c3 c4
  obtain ⟨c0, c1, c2, c3, c4⟩ := HS1.out.cells
  cases q1 with
  | false =>
    go_wp2_with fail
    go_ret
    exact ⟨by rw [HE.out]; rfl, HS1.out.only⟩
  | true =>
    go_wp2_with fail
    refine (HA.out _ HO.out).mono ?_
    rintro e w2 ⟨rfl, ho⟩
    have HS2 := Lib.hid (HS1.out.keep ho)
    clear ho HA c0 c1 c2 c3 c4
    go_wp2_with fail
    go_ret
    exact ⟨by rw [HE.out]; rfl, HS2.out.only⟩

end Go.Proofs.Ytookbmpaoljelaa
