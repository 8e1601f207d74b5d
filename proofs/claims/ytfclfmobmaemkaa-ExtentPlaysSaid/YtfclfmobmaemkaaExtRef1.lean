/-
  The reference's space: turn, set, Take, Free, New, Left.
-/
import Derived.Test.YtfclfmobmaemkaaExtSt4
import Derived.Test.YtfclfmobmaemkaaExt6
namespace Go.Proofs.Ytfclfmobmaemkaa
open Go Go.RowKit
set_option linter.unusedVariables false
set_option linter.unusedSimpArgs false
set_option maxRecDepth 100000

/-- The reference's flags tell what is free. -/
def flip (l : List Bool) : List Bool := l.map (!·)
theorem flip_length (l : List Bool) : (flip l).length = l.length := by simp [flip]
theorem flip_get (l : List Bool) (i : Nat) : (flip l)[i]? = l[i]?.map (!·) := by simp [flip]
theorem flip_setL (l : List Bool) (d n : Nat) (b : Bool) : flip (setL l d n b) = setL (flip l) d n (!b) := setL_map _ _ _ _ _
theorem mem_flip {l : List Bool} {b : Bool} : (!b) ∈ flip l ↔ b ∈ l := by
  simp [flip]
theorem flip_turn (a : Nat) (l : List Bool) (start n : Int) (b : Bool) : turnE a (flip l) start n (!b) = turnE a l start n b ∧ turnL a (flip l) start n (!b) = flip (turnL a l start n b) := by
  have e0 : ((flip l).drop (start - a).toNat).take n.toNat = flip ((l.drop (start - a).toNat).take n.toNat) := by simp [flip, List.map_take, List.map_drop]
  have e1 : turnE a (flip l) start n (!b) = turnE a l start n b := by
    unfold turnE
    rw [flip_length, e0]
    by_cases h : b ∈ (l.drop (start - a).toNat).take n.toNat
    · simp only [if_pos h, if_pos (mem_flip.2 h)]
    · simp only [if_neg h, if_neg (fun h' => h (mem_flip.1 h'))]
  refine ⟨e1, ?_⟩
  unfold turnL
  rw [e1]
  split
  · rw [flip_setL]
  · rfl

set_option maxHeartbeats 1000000 in
theorem ref_turn {w : World} {p g a : Nat} {o : List Bool} (h : SpaceAt 53 w p g a o) (d m : Nat) (hd : d + m ≤ o.length) (b : Bool) :
    Calls Try.prog 24 #[.pointer (some ⟨p, 0, none⟩), .int .i64 d, .int .i64 m, .bool b] w fun e w' => e = .returned (.tuple #[]) ∧ SpaceAt 53 w' p g a (setL o d m b) ∧ Only (fun k => k = g) w w' := by
  have hfit := h.fits
  have H := Lib.hid h
  obtain ⟨N, hN⟩ : ∃ N, N = o.length := ⟨_, rfl⟩
  have HN := Lib.hid hN
  rw [← hN] at hd hfit
  clear h hN
  go_enter Try.func24, Try.ntmps24
  go_wp2_with fail
  go_loopw [8] (fun i wr => ∃ k : Nat, d ≤ k ∧ k ≤ d + m ∧ i = .int .i64 k ∧ Hid (SpaceAt 53 wr p g a (setL o d (k - d) b)) ∧ Hid (Only (fun k => k = g) w wr)) (fun i _ => d + m - (intOf i).toNat)
  case atStart => exact ⟨d, Nat.le_refl _, by omega, rfl, Lib.hid (by rw [Nat.sub_self, setL_zero]; exact H.out), Lib.hid (Only.refl _ _)⟩
  case round =>
    obtain ⟨k, hk1, hk2, rfl, HS, HO⟩ := hrel
    by_cases hlt : k < d + m
    · have hltI : (k : Int) < (d : Int) + (m : Int) := by omega
      have hk0 : (0 : Int) ≤ (k : Int) := by omega
      have hon : d + m ≤ o.length := by rw [← HN.out]; exact hd
      have hlen : (setL o d (k - d) b).length = N := by rw [setL_length (by omega), HN.out]
      have hcN : wr.cell? ⟨p, 1, none⟩ = some (.slice (some ⟨g, 0, none⟩) N N) := by rw [← hlen]; exact HS.out.cell 1
      have hc := HS.out.flag (j := k) (by omega)
      have hz := HS.out.free k
      have hkN : (k : Int) < (N : Int) := by omega
      have hn := HS.out.set k b
      have hs := setL_succ (l := o) (a := d) (n := k - d) (by omega) b
      rw [show d + (k - d) = k by omega, show k - d + 1 = k + 1 - d by omega] at hs
      rw [hs] at hn
      have HNX := Lib.hid hn
      have HO2 : Hid (Only (fun k => k = g) w (wr.setCell ⟨g, k, none⟩ (.bool b))) := Lib.hid (HO.out.setCell (p := ⟨g, k, none⟩) (fun _ => rfl) _)
      generalize (setL o d (k - d) b).getD k false = u at *
      clear hn hs hlen hon HS HO
      go_wp2_with fail
      go_roundw
      case rel => exact ⟨k + 1, by omega, by omega, by go_num, HNX, HO2⟩
      case measure => simp [intOf]; omega
    · have hltI : ¬ (k : Int) < (d : Int) + (m : Int) := by omega
      have hke : k - d = m := by omega
      have H1 : Hid (SpaceAt 53 wr p g a (setL o d m b)) := Lib.hid (by have := HS.out; rwa [hke] at this)
      clear hke
      go_wp2_with fail
      go_end0
      exact ⟨rfl, H1.out, HO.out⟩

set_option maxRecDepth 100000 in
set_option maxHeartbeats 2000000 in
theorem ref_set_bad {w : World} {p g a : Nat} {o : List Bool} (h : SpaceAt 53 w p g a o) (start n : Int) (hs : i64R' start) (hn : i64R' n) (b : Bool) (hb : hasB a o.length start n = false) :
    Calls Try.prog 25 #[.pointer (some ⟨p, 0, none⟩), .int .i64 start, .int .i64 n, .bool b] w fun e w' => e = .returned (.int .i64 1) ∧ Quiet w w' := by
  have hc0 : w.cell? ⟨p, 0, none⟩ = some (.int .i64 (a : Int)) := h.cell 0
  have hc1 : w.cell? ⟨p, 1, none⟩ = some (.slice (some ⟨g, 0, none⟩) o.length o.length) := h.cell 1
  have hfit := h.fits
  generalize o.length = m at *
  have hb : n < 1 ∨ start < (a : Int) ∨ (m : Int) - n < start - a := by simp [hasB] at hb; omega
  unfold i64R' at hs hn
  clear h
  by_cases h1 : n < 1
  · have h1d : decide (n < 1) = true := decide_eq_true h1
    clear hb
    go_enter Try.func25, Try.ntmps25
    go_wp2
    go_quiet (fail)
    go_wp2
    go_ret
    exact ⟨rfl, (Only.refl _ _).drewN _⟩
  · have h1d : decide (n < 1) = false := decide_eq_false h1
    by_cases h2 : (m : Int) < n
    · have h2d : decide ((m : Int) < n) = true := decide_eq_true h2
      clear hb
      go_enter Try.func25, Try.ntmps25
      go_wp2
      go_quiet (fail)
      go_wp2
      go_ret
      exact ⟨rfl, (Only.refl _ _).drewN _⟩
    · have h2d : decide ((m : Int) < n) = false := decide_eq_false h2
      by_cases h3 : start < (a : Int)
      · have h3d : decide (start < (a : Int)) = true := decide_eq_true h3
        clear hb
        go_enter Try.func25, Try.ntmps25
        go_wp2
        go_quiet (fail)
        go_wp2
        go_ret
        exact ⟨rfl, (Only.refl _ _).drewN _⟩
      · have h3d : decide (start < (a : Int)) = false := decide_eq_false h3
        have h4 : (a : Int) + m - n < start := by omega
        have h4d : decide ((a : Int) + m - n < start) = true := decide_eq_true h4
        have e1 : IntKind.i64.wrap ((a : Int) + m) = (a : Int) + m := IntWalk.i64_in _ (by omega)
        have e2 : IntKind.i64.wrap ((a : Int) + m - n) = (a : Int) + m - n := IntWalk.i64_in _ (by omega)
        clear hb
        go_enter Try.func25, Try.ntmps25
        go_wp2
        go_quiet (fail)
        go_wp2
        go_ret
        exact ⟨rfl, (Only.refl _ _).drewN _⟩

end Go.Proofs.Ytfclfmobmaemkaa
