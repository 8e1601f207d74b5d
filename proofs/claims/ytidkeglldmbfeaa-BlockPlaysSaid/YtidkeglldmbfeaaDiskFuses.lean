/-
  The walk of the statement DiskFuses.
-/
import Derived.Test.YtidkeglldmbfeaaDiskArg
import Derived.Test.YtidkeglldmbfeaaDiskPads
import Derived.Deep.RegionHeld3
namespace Go.Proofs.Ytidkeglldmbfeaa
open Go Go.RowKit
set_option linter.unusedVariables false
set_option linter.unusedSimpArgs false
set_option maxRecDepth 100000

theorem SlO.nil (w : World) (F : Nat → Prop) : SlO w F (.slice none 0 0) [] := ⟨.inl ⟨rfl, rfl⟩, fun a n c e => by simp at e⟩
/-- The disk behind so many writes of a fuse of n. -/
structure FS (n done : Nat) (D : DS) : Prop where
  sz : D.n = 16
  wr : D.wr = done
  le : done ≤ n
  st : (D.down = false ∧ D.fuse = (n : Int) - done) ∨ (D.down = true ∧ done = n)
  sy : D.sy = 0
  W : D.W.length ≤ done

def rightB (x : OpT) : Bool := decide (0 ≤ x.I) && decide (x.I < 16) && decide (x.B.length ≤ 64)
theorem FS.has {n done : Nat} {D : DS} (h : FS n done D) (i : Int) : D.has i = (decide (0 ≤ i) && decide (i < 16)) := by
  rw [DS.has, h.sz, Bool.eq_iff_iff]
  simp
theorem FS.wrong {n done : Nat} {D : DS} (h : FS n done D) {x : OpT} (hx : rightB x = false) : D.write x.I x.B = D ∧ D.wrE x.I x.B = 1 := by
  have e : (!D.has x.I || decide (64 < x.B.length)) = true := by
    rw [h.has, Bool.or_eq_true]
    simp [rightB] at hx
    simp
    omega
  simp only [DS.write, DS.wrE, e, if_true]
  exact ⟨trivial, trivial⟩
theorem FS.goes {n done : Nat} {D : DS} (h : FS n done D) {x : OpT} (hx : rightB x = true) (hd : done < n) : FS n (done + 1) (D.write x.I x.B) ∧ D.wrE x.I x.B = 0 ∧ (D.write x.I x.B).down = false := by
  have e : (!D.has x.I || decide (64 < x.B.length)) = false := by
    rw [h.has]
    simp [rightB] at hx
    simp
    omega
  rcases h.st with ⟨h1, h2⟩ | ⟨_, h2⟩
  · have hl := DS.last_burns h1 (by omega)
    simp only [DS.write, DS.wrE, e, hl.1, hl.2, if_true, Bool.false_eq_true, if_false]
    refine ⟨⟨h.sz, ?_, by omega, .inl ⟨h1, ?_⟩, h.sy, ?_⟩, trivial, h1⟩
    · show D.wr + 1 = _; rw [h.wr]
    · show D.fuse - 1 = _; omega
    · show (D.W ++ _).length ≤ _
      have := h.W
      simp
      omega
  · omega
theorem FS.gone {n done : Nat} {D : DS} (h : FS n done D) {x : OpT} (hx : rightB x = true) (hd : ¬ done < n) : FS n done (D.write x.I x.B) ∧ D.wrE x.I x.B = 4 ∧ (D.write x.I x.B).down = true := by
  have e : (!D.has x.I || decide (64 < x.B.length)) = false := by
    rw [h.has]
    simp [rightB] at hx
    simp
    omega
  have hle := h.le
  rcases h.st with ⟨h1, h2⟩ | ⟨h1, h2⟩
  · have hl := DS.last_goes h1 (by omega)
    simp only [DS.write, DS.wrE, e, hl.1, hl.2, if_true, Bool.false_eq_true, if_false]
    exact ⟨⟨h.sz, h.wr, h.le, .inr ⟨rfl, by omega⟩, h.sy, h.W⟩, trivial, trivial⟩
  · have hl := DS.last_gone h1
    simp only [DS.write, DS.wrE, e, hl.1, hl.2, if_true, Bool.false_eq_true, if_false]
    exact ⟨h, trivial, h1⟩


end Go.Proofs.Ytidkeglldmbfeaa
