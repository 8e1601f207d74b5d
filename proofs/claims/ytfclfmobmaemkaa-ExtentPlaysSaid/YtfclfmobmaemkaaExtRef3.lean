/-
  The reference's space: Alloc.
-/
import Derived.Test.YtfclfmobmaemkaaExtRef2
namespace Go.Proofs.Ytfclfmobmaemkaa
open Go Go.RowKit
set_option linter.unusedVariables false
set_option linter.unusedSimpArgs false
set_option maxRecDepth 100000

theorem run_more {l : List Bool} {i r : Nat} (hr : r ≤ i) (h : r ≤ runLen false (l.drop (i - r))) (hi : l[i]? = some false) : r + 1 ≤ runLen false (l.drop (i + 1 - (r + 1))) := by
  have hil : i < l.length := by
    rcases Nat.lt_or_ge i l.length with h1 | h1
    · exact h1
    · rw [List.getElem?_eq_none h1] at hi; cases hi
  rw [show i + 1 - (r + 1) = i - r by omega]
  refine runLen_ge (by simp; omega) (fun j hj => ?_)
  by_cases e : j < r
  · exact runLen_lt (by omega)
  · rw [List.getElem?_drop, show i - r + j = i by omega]
    exact hi
theorem run_stop {l : List Bool} {i r m : Nat} (hr : r ≤ i) (hrm : r < m) (h : ∀ x, x < i - r → runLen false (l.drop x) < m) (hi : l[i]? = some true) : ∀ x, x < i + 1 → runLen false (l.drop x) < m := by
  intro x hx
  by_cases e : x < i - r
  · exact h x e
  · have := runLen_cap (x := false) (l := l.drop x) (j := i - x) (by rw [List.getElem?_drop, show x + (i - x) = i by omega]; exact hi)
    omega

set_option maxRecDepth 100000 in
set_option maxHeartbeats 2000000 in
theorem ref_alloc {w : World} {p g a : Nat} {l : List Bool} (h : SpaceAt 53 w p g a (flip l)) (n : Int) (hn : i64R' n) :
    Calls Try.prog 15 #[.pointer (some ⟨p, 0, none⟩), .int .i64 n] w fun e w' => e = .returned (.tuple #[.int .i64 (allocV a l n), .int .i64 (allocE l n)]) ∧ SpaceAt 53 w' p g a (flip (allocL l n)) ∧ Only (fun k => k = g) w w' := by
  by_cases hn1 : n < 1
  · have e1 : allocE l n = 1 := by simp [allocE, hn1]
    have e2 : allocV a l n = 0 := by simp [allocV, hn1]
    have e3 : allocL l n = l := by simp [allocL, hn1]
    rw [e1, e2, e3]
    have H := Lib.hid h
    clear e1 e2 e3 h
    go_enter Try.func15, Try.ntmps15
    go_wp2_with fail
    go_ret2
    exact ⟨rfl, H.out, Only.refl _ _⟩
  · obtain ⟨m, rfl⟩ : ∃ m : Nat, n = m := ⟨n.toNat, by omega⟩
    have hm : 1 ≤ m := by omega
    have hmn : (m : Int).toNat = m := by omega
    have hfit := h.fits
    have hc0 : w.cell? ⟨p, 0, none⟩ = some (.int .i64 (a : Int)) := h.cell 0
    have hc1 : w.cell? ⟨p, 1, none⟩ = some (.slice (some ⟨g, 0, none⟩) l.length l.length) := by have := h.cell 1; rw [flip_length] at this; exact this
    rw [flip_length] at hfit
    have H := Lib.hid h
    obtain ⟨N, hN⟩ : ∃ N, N = l.length := ⟨_, rfl⟩
    rw [← hN] at hc1 hfit
    have HN := Lib.hid hN
    obtain ⟨E, hE⟩ : ∃ E, E = allocE l (m : Int) := ⟨_, rfl⟩
    obtain ⟨V, hV⟩ : ∃ V, V = allocV a l (m : Int) := ⟨_, rfl⟩
    obtain ⟨L, hL⟩ : ∃ L, L = allocL l (m : Int) := ⟨_, rfl⟩
    rw [← hE, ← hV, ← hL]
    have HE := Lib.hid hE
    have HV := Lib.hid hV
    have HL := Lib.hid hL
    have HMN := Lib.hid hmn
    have hm1I : ¬ (m : Int) < 1 := by omega
    have hmr := hn.2
    clear h hN hE hV hL hmn hn hn1
    go_enter Try.func15, Try.ntmps15
    go_wp2_with fail
    go_loop [6, 7] (fun c t => ∃ i r : Nat, i ≤ N ∧ r ≤ i ∧ r < m ∧ c = .int .i64 r ∧ t = .int .i64 i ∧ Hid (r ≤ runLen false (l.drop (i - r)) ∧ ∀ x, x < i - r → runLen false (l.drop x) < m)) (fun _ t => N - (intOf t).toNat)
    case atStart => exact ⟨0, 0, Nat.zero_le _, Nat.le_refl _, by omega, rfl, rfl, Lib.hid ⟨Nat.zero_le _, fun x hx => by omega⟩⟩
    case round =>
      obtain ⟨i, r, hi, hri, hrm, rfl, rfl, HR⟩ := hrel
      by_cases hlt : i < N
      · have hltI : (i : Int) < (N : Int) := by omega
        have hi0 : (0 : Int) ≤ (i : Int) := by omega
        have hil : i < l.length := by rw [← HN.out]; exact hlt
        have hc := H.out.flag (j := i) (by rw [flip_length]; exact hil)
        have hfg : (flip l).getD i false = !(l.getD i false) := by simp [flip, List.getD_eq_getElem?_getD, hil]
        rw [hfg] at hc
        have hg := getD_of hil
        clear hfg
        cases hx : l.getD i false with
        | true =>
          rw [hx] at hc hg
          simp only [Bool.not_true] at hc
          have HS : Hid (0 ≤ runLen false (l.drop (i + 1 - 0)) ∧ ∀ x, x < i + 1 - 0 → runLen false (l.drop x) < m) := Lib.hid ⟨Nat.zero_le _, by rw [Nat.sub_zero]; exact run_stop hri hrm HR.out.2 hg⟩
          clear hx hg hil HR
          go_wp2_with fail
          go_round
          case rel => exact ⟨i + 1, 0, by omega, by omega, by omega, rfl, by go_num, HS⟩
          case measure => simp [intOf]; omega
        | false =>
          rw [hx] at hc hg
          simp only [Bool.not_false] at hc
          have hmore := run_more hri HR.out.1 hg
          by_cases hfound : r + 1 = m
          · have hf : (((r : Int) + 1) == (m : Int)) = true := by simp; omega
            have hlow : low m l = some (i - r) := low_some hm (by rw [show i + 1 - (r + 1) = i - r by omega] at hmore; omega) HR.out.2
            obtain ⟨q1, q2, q3⟩ := alloc_some (n := (m : Int)) (by omega) (by rw [HMN.out]; exact hlow) a
            rw [HMN.out] at q3
            obtain ⟨d, hd⟩ : ∃ d, d = i - r := ⟨_, rfl⟩
            rw [← hd] at q2 q3 hlow
            have hdm : d + m ≤ N := by omega
            have hdI : (i : Int) - (m : Int) + 1 = (d : Int) := by omega
            have hdJ : (a : Int) + (i : Int) - (m : Int) + 1 = ((a + d : Nat) : Int) := by omega
            have HT := Lib.hid (ref_turn H.out d m (by rw [flip_length, ← HN.out]; exact hdm) false)
            have HF : Hid (setL (flip l) d m false = flip L) := Lib.hid (by rw [HL.out, q3, flip_setL]; rfl)
            have HE2 : Hid (E = 0) := Lib.hid (HE.out.trans q1)
            have HV2 : Hid (V = a + d) := Lib.hid (HV.out.trans q2)
            have hmi : (m : Int) ≤ (i : Int) + 1 := by omega
            have hcw : ∀ w', SpaceAt 53 w' p g a (setL (flip l) d m false) → w'.cell? ⟨p, 0, none⟩ = some (.int .i64 (a : Int)) := fun w' h => h.cell 0
            have HCW := Lib.hid hcw
            have HDJ := Lib.hid hdJ
            clear hx hg hil hmore hfound hlow q1 q2 q3 hd hdm hdJ hcw HR
            go_wp2_with fail
            refine HT.out.mono ?_
            rintro e w1 ⟨rfl, h1, h2⟩
            have c0 := HCW.out w1 h1
            rw [HF.out] at h1
            have H1 := Lib.hid h1
            have H2 := Lib.hid h2
            clear h1 h2 hdI
            go_wp2_with fail
            go_ret2
            refine ⟨?_, H1.out, H2.out⟩
            rw [HE2.out, HV2.out, ← HDJ.out]
            rfl
          · have hf : (((r : Int) + 1) == (m : Int)) = false := by simp; omega
            have HS : Hid (r + 1 ≤ runLen false (l.drop (i + 1 - (r + 1))) ∧ ∀ x, x < i + 1 - (r + 1) → runLen false (l.drop x) < m) := Lib.hid ⟨hmore, by rw [show i + 1 - (r + 1) = i - r by omega]; exact HR.out.2⟩
            clear hx hg hil hmore HR
            go_wp2_with fail
            go_round
            case rel => exact ⟨i + 1, r + 1, by omega, by omega, by omega, by go_num, by go_num, HS⟩
            case measure => simp [intOf]; omega
      · obtain rfl : i = N := by omega
        have hlow : low m l = none := low_none hm (fun j hj => by
          by_cases e : j < i - r
          · exact HR.out.2 j e
          · have h1 := runLen_le false (l.drop j)
            have h2 := HN.out
            simp at h1
            omega)
        obtain ⟨q1, q2, q3⟩ := alloc_full (n := (m : Int)) (by omega) (by rw [HMN.out]; exact hlow) a
        have HE2 : Hid (E = 3) := Lib.hid (HE.out.trans q1)
        have HV2 : Hid (V = 0) := Lib.hid (HV.out.trans q2)
        have HL2 : Hid (L = l) := Lib.hid (HL.out.trans q3)
        clear hlow q1 q2 q3
        go_wp2_with fail
        go_ret2
        refine ⟨by rw [HE2.out, HV2.out]; rfl, ?_, Only.refl _ _⟩
        rw [HL2.out]
        exact H.out

end Go.Proofs.Ytfclfmobmaemkaa
