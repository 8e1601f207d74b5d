/-
  Contracts of package extent: turn, Take, Free, New.
-/
import Derived.Test.YtfclfmobmaemkaaExt1
import Derived.StillTailTactics
namespace Go.Proofs.Ytfclfmobmaemkaa
open Go Go.RowKit
set_option linter.unusedVariables false
set_option linter.unusedSimpArgs false
set_option maxRecDepth 100000

def i64R' (z : Int) : Prop := -9223372036854775808 ≤ z ∧ z ≤ 9223372036854775807
/-- What Take and Free answer, and what they leave of the flags. -/
def turnE (a : Nat) (l : List Bool) (start n : Int) (b : Bool) : Nat :=
  if hasB a l.length start n = false then 1 else if b ∈ (l.drop (start - a).toNat).take n.toNat then 6 else 0
def turnL (a : Nat) (l : List Bool) (start n : Int) (b : Bool) : List Bool :=
  if turnE a l start n b = 0 then setL l (start - a).toNat n.toNat b else l
theorem turnL_length (a : Nat) (l : List Bool) (start n : Int) (b : Bool) : (turnL a l start n b).length = l.length := by
  unfold turnL
  split
  · rename_i h
    refine setL_length ?_ b
    unfold turnE at h
    split at h
    · cases h
    · rename_i h2
      simp [hasB] at h2
      omega
  · rfl

set_option maxHeartbeats 400000 in
theorem ext_turn_nil (w : World) (start n : Int) (b : Bool) :
    Calls Try.prog 22 #[.pointer none, .int .i64 start, .int .i64 n, .bool b] w fun e w' => e = .returned (.int .i64 11) ∧ w = w' := by
  go_enter Try.func22, Try.ntmps22
  go_wp2
  go_ret
  exact ⟨rfl, rfl⟩

set_option maxHeartbeats 1000000 in
theorem ext_turn {w : World} {p g a : Nat} {l : List Bool} (h : SpaceAt 51 w p g a l) (start n : Int) (hs : i64R' start) (hn : i64R' n) (b : Bool) :
    Calls Try.prog 22 #[.pointer (some ⟨p, 0, none⟩), .int .i64 start, .int .i64 n, .bool b] w fun e w' => e = .returned (.int .i64 (turnE a l start n b)) ∧ SpaceAt 51 w' p g a (turnL a l start n b) ∧ Only (fun k => k = g) w w' := by
  have HH := Lib.hid (ext_has h start n hs hn)
  have H := Lib.hid h
  by_cases h1 : hasB a l.length start n = false
  · rw [h1] at HH
    have e1 : turnE a l start n b = 1 := by simp [turnE, h1]
    have e2 : turnL a l start n b = l := by simp [turnL, e1]
    rw [e1, e2]
    clear h h1 e1 e2
    go_enter Try.func22, Try.ntmps22
    go_wp2_with fail
    refine HH.out.mono ?_
    rintro e w1 ⟨rfl, hq⟩
    have HQ := Lib.hid hq
    clear hq
    go_wp2_with fail
    go_ret
    exact ⟨rfl, H.out.quiet HQ.out, HQ.out.mono (fun _ _ h => h.elim)⟩
  · have h1 : hasB a l.length start n = true := by simpa using h1
    rw [h1] at HH
    obtain ⟨d, m, rfl, rfl, hm1, hm2⟩ : ∃ d m : Nat, start = (a : Int) + d ∧ n = m ∧ 1 ≤ m ∧ d + m ≤ l.length := by
      simp [hasB] at h1
      exact ⟨(start - a).toNat, n.toNat, by omega, by omega, by omega, by omega⟩
    have hfit := h.fits
    have hE : turnE a l ((a : Int) + d) m b = if b ∈ (l.drop d).take m then 6 else 0 := by
      have : ((a : Int) + d - a).toNat = d := by omega
      simp [turnE, h1, this]
    have hL : turnL a l ((a : Int) + d) m b = if b ∈ (l.drop d).take m then l else setL l d m b := by
      have : ((a : Int) + d - a).toNat = d := by omega
      unfold turnL
      rw [hE, this]
      by_cases hb : b ∈ (l.drop d).take m <;> simp [hb]
    rw [hE, hL]
    have hlen : ((l.drop d).take m).length = m := by simp; omega
    have hc0 : ∀ w', Only (fun _ => False) w w' → w'.cell? ⟨p, 0, none⟩ = some (.int .i64 (a : Int)) := fun w' ho => (h.quiet ho).cell 0
    have hc1 : ∀ w', Only (fun _ => False) w w' → w'.cell? ⟨p, 1, none⟩ = some (.slice (some ⟨g, 0, none⟩) l.length l.length) := fun w' ho => (h.quiet ho).cell 1
    have HC0 := Lib.hid hc0
    have HC1 := Lib.hid hc1
    have HF : Hid (∀ w', Only (fun _ => False) w w' → Calls Try.prog 28 #[.slice (some ⟨g, d, none⟩) m (l.length - d), .bool b] w' fun e w'' => e = .returned (.bool (decide (b ∈ (l.drop d).take m))) ∧ w' = w'') := Lib.hid (fun w' ho => by
      have hcl : l.length ≤ 4096 := by omega
      have := contains_any (cap := l.length - d) ((h.quiet ho).flags d m hm2) (by rw [hlen]; omega) b
      rwa [hlen] at this)
    obtain ⟨len, hlenL⟩ : ∃ len, len = l.length := ⟨_, rfl⟩
    rw [← hlenL] at HC1 HF hfit hm2
    have HL := Lib.hid hlenL
    clear h h1 hc0 hc1 hlen hE hL hlenL
    by_cases hb : b ∈ (l.drop d).take m
    · rw [decide_eq_true hb] at HF
      rw [if_pos hb, if_pos hb]
      clear hb
      go_enter Try.func22, Try.ntmps22
      go_wp2_with fail
      refine HH.out.mono ?_
      rintro e w1 ⟨rfl, hq⟩
      have c0 := HC0.out w1 hq
      have c1 := HC1.out w1 hq
      have HT := Lib.hid (HF.out w1 hq)
      have HQ := Lib.hid hq
      clear hq
      go_wp2_with fail
      refine HT.out.mono ?_
      rintro e w2 ⟨rfl, rfl⟩
      clear c0 c1
      go_wp2_with fail
      go_ret
      exact ⟨rfl, H.out.quiet HQ.out, HQ.out.mono (fun _ _ h => h.elim)⟩
    · rw [decide_eq_false hb] at HF
      rw [if_neg hb, if_neg hb]
      clear hb
      go_enter Try.func22, Try.ntmps22
      go_wp2_with fail
      refine HH.out.mono ?_
      rintro e w1 ⟨rfl, hq⟩
      have c0 := HC0.out w1 hq
      have c1 := HC1.out w1 hq
      have HT := Lib.hid (HF.out w1 hq)
      have HQ := Lib.hid hq
      clear hq
      go_wp2_with fail
      refine HT.out.mono ?_
      rintro e w2 ⟨rfl, rfl⟩
      clear c0 c1 HT HF HC0 HC1
      go_wp2_with fail
      go_loopw [39] (fun i wr => ∃ k : Nat, k ≤ m ∧ i = .int .i64 k ∧ Hid (SpaceAt 51 wr p g a (setL l d k b)) ∧ Hid (Only (fun k => k = g) w wr)) (fun i _ => m - (intOf i).toNat)
      case atStart => exact ⟨0, Nat.zero_le _, rfl, Lib.hid (by rw [setL_zero]; exact H.out.quiet HQ.out), Lib.hid (HQ.out.mono (fun _ _ h => h.elim))⟩
      case round =>
        obtain ⟨k, hk, rfl, HS, HO⟩ := hrel
        by_cases hlt : k < m
        · have hcl : d + m ≤ l.length := by rw [← HL.out]; exact hm2
          have hc := HS.out.flag (j := d + k) (by rw [setL_length (by omega)]; omega)
          have hz := HS.out.free (d + k)
          have hn := HS.out.set (d + k) b
          rw [setL_succ (by omega)] at hn
          have HN := Lib.hid hn
          have HO2 : Hid (Only (fun k => k = g) w (wr.setCell ⟨g, d + k, none⟩ (.bool b))) := Lib.hid (HO.out.setCell (p := ⟨g, d + k, none⟩) (fun _ => rfl) _)
          clear hn hcl
          go_wp2_with fail
          go_roundw
          case rel => exact ⟨k + 1, by omega, by go_num, HN, HO2⟩
          case measure => simp [intOf]; omega
        · obtain rfl : k = m := by omega
          go_wp2_with fail
          go_ret
          exact ⟨rfl, HS.out, HO.out⟩

set_option maxHeartbeats 400000 in
theorem ext_take_nil (w : World) (start n : Int) :
    Calls Try.prog 11 #[.pointer none, .int .i64 start, .int .i64 n] w fun e w' => e = .returned (.int .i64 11) ∧ w = w' := by
  go_enter Try.func11, Try.ntmps11
  go_wp2_with fail
  refine (ext_turn_nil w start n true).mono ?_
  rintro e w1 ⟨rfl, rfl⟩
  go_wp2_with fail
  go_ret
  exact ⟨rfl, rfl⟩
set_option maxHeartbeats 400000 in
theorem ext_free_nil (w : World) (start n : Int) :
    Calls Try.prog 12 #[.pointer none, .int .i64 start, .int .i64 n] w fun e w' => e = .returned (.int .i64 11) ∧ w = w' := by
  go_enter Try.func12, Try.ntmps12
  go_wp2_with fail
  refine (ext_turn_nil w start n false).mono ?_
  rintro e w1 ⟨rfl, rfl⟩
  go_wp2_with fail
  go_ret
  exact ⟨rfl, rfl⟩
set_option maxHeartbeats 400000 in
theorem ext_take {w : World} {p g a : Nat} {l : List Bool} (h : SpaceAt 51 w p g a l) (start n : Int) (hs : i64R' start) (hn : i64R' n) :
    Calls Try.prog 11 #[.pointer (some ⟨p, 0, none⟩), .int .i64 start, .int .i64 n] w fun e w' => e = .returned (.int .i64 (turnE a l start n true)) ∧ SpaceAt 51 w' p g a (turnL a l start n true) ∧ Only (fun k => k = g) w w' := by
  have H := Lib.hid (ext_turn h start n hs hn true)
  clear h
  go_enter Try.func11, Try.ntmps11
  go_wp2_with fail
  refine H.out.mono ?_
  rintro e w1 ⟨rfl, h1, h2⟩
  have H1 := Lib.hid h1
  have H2 := Lib.hid h2
  clear h1 h2
  go_wp2_with fail
  go_ret
  exact ⟨rfl, H1.out, H2.out⟩
set_option maxHeartbeats 400000 in
theorem ext_free {w : World} {p g a : Nat} {l : List Bool} (h : SpaceAt 51 w p g a l) (start n : Int) (hs : i64R' start) (hn : i64R' n) :
    Calls Try.prog 12 #[.pointer (some ⟨p, 0, none⟩), .int .i64 start, .int .i64 n] w fun e w' => e = .returned (.int .i64 (turnE a l start n false)) ∧ SpaceAt 51 w' p g a (turnL a l start n false) ∧ Only (fun k => k = g) w w' := by
  have H := Lib.hid (ext_turn h start n hs hn false)
  clear h
  go_enter Try.func12, Try.ntmps12
  go_wp2_with fail
  refine H.out.mono ?_
  rintro e w1 ⟨rfl, h1, h2⟩
  have H1 := Lib.hid h1
  have H2 := Lib.hid h2
  clear h1 h2
  go_wp2_with fail
  go_ret
  exact ⟨rfl, H1.out, H2.out⟩

end Go.Proofs.Ytfclfmobmaemkaa
