/-
  The reference's Valid, Fits and Column.
-/
import Derived.Test.YtjkblmkgiiciaaaDoorValR0
import Derived.Test.YtjkblmkgiiciaaaDoorValR1
namespace Go.Proofs.YtjkblmkgiiciaaaDoor
open Go Go.RowKit
set_option linter.unusedVariables false
set_option linter.unusedSimpArgs false
set_option maxRecDepth 100000

theorem rutf_below (s : ByteArray) (w : World) (hs : s.size ≤ 4611686018427387904) :
    Calls Tryd.prog 24 #[.string s] w fun e w' => e = .returned (.bool (utf8B s.toList)) ∧ Below w.heap.size w w' := by
  refine (rutf_any s w hs).mono ?_
  rintro e w' ⟨rfl, rfl⟩
  exact ⟨rfl, Below.refl _ _⟩
theorem rvalid_any {K N : Int} {s : ByteArray} (hN : U64 N) (w : World) :
    Calls Tryd.prog 10 #[vlv K N s] w fun e w' => e = .returned (.bool (vl K N s).okB) ∧ Below w.heap.size w w' := by
  have h0 := hN.lo
  have HB := Lib.hid (fun o => (Below.refl w.heap.size w).alloc (Nat.le_refl _) o)
  have hsz := ba_size s
  by_cases k0 : K = 0
  · subst k0
    have hok : (vl 0 N s).okB = (decide (N.toNat = 0) && s.toList.isEmpty) := rfl
    by_cases hn : N = 0
    · subst hn
      have hr : (vl 0 0 s).okB = s.toList.isEmpty := rfl
      rw [hr]
      clear hok hr hsz
      go_enter Tryd.func10, Tryd.ntmps10
      go_wp2
      all_goals go_ret
      all_goals exact ⟨ret_b (by simp_all), HB.out _⟩
    · have hb : (N == 0) = false := by simpa using hn
      have hr : (vl 0 N s).okB = false := by rw [hok, decide_eq_false (show ¬ N.toNat = 0 by omega)]; rfl
      rw [hr]
      clear hok hr hsz hn
      go_enter Tryd.func10, Tryd.ntmps10
      go_wp2
      go_ret
      exact ⟨rfl, HB.out _⟩
  by_cases k1 : K = 1
  · subst k1
    have hr : (vl 1 N s).okB = s.toList.isEmpty := rfl
    rw [hr]
    clear hr hsz
    · skip
      go_enter Tryd.func10, Tryd.ntmps10
      go_wp2
      all_goals go_ret
      all_goals exact ⟨ret_b (by simp_all), HB.out _⟩
  by_cases k2 : K = 2
  · subst k2
    have hr : (vl 2 N s).okB = s.toList.isEmpty := rfl
    rw [hr]
    clear hr hsz
    · skip
      go_enter Tryd.func10, Tryd.ntmps10
      go_wp2
      all_goals go_ret
      all_goals exact ⟨ret_b (by simp_all), HB.out _⟩
  by_cases k3 : K = 3
  · subst k3
    have hok : (vl 3 N s).okB = (decide (N.toNat < 2) && s.toList.isEmpty) := rfl
    by_cases hn : N ≤ 1
    · have hr : (vl 3 N s).okB = s.toList.isEmpty := by rw [hok, decide_eq_true (show N.toNat < 2 by omega)]; rfl
      have hn2 : N < 2 := by omega
      rw [hr]
      clear hok hr hsz
      go_enter Tryd.func10, Tryd.ntmps10
      go_wp2
      all_goals go_ret
      all_goals exact ⟨ret_b (by simp_all), HB.out _⟩
    · have hr : (vl 3 N s).okB = false := by rw [hok, decide_eq_false (show ¬ N.toNat < 2 by omega)]; rfl
      have hn1 : 1 < N := by omega
      have hn2 : ¬ N < 2 := by omega
      rw [hr]
      clear hok hr hsz
      go_enter Tryd.func10, Tryd.ntmps10
      go_wp2
      go_ret
      exact ⟨rfl, HB.out _⟩
  by_cases k4 : K = 4
  · subst k4
    have hok : (vl 4 N s).okB = (decide (N.toNat = 0) && decide (s.toList.length ≤ 64)) := rfl
    by_cases hn : N = 0
    · subst hn
      by_cases hl : (s.size : Int) ≤ 64
      · have hr : (vl 4 0 s).okB = true := by rw [hok, decide_eq_true (show s.toList.length ≤ 64 by omega)]; rfl
        rw [hr]
        clear hok hr hsz
        go_enter Tryd.func10, Tryd.ntmps10
        go_wp2
        go_ret
        exact ⟨rfl, HB.out _⟩
      · have hr : (vl 4 0 s).okB = false := by rw [hok, decide_eq_false (show ¬ s.toList.length ≤ 64 by omega)]; rfl
        have hl2 : (64 : Int) < s.size := by omega
        rw [hr]
        clear hok hr hsz
        go_enter Tryd.func10, Tryd.ntmps10
        go_wp2
        go_ret
        exact ⟨rfl, HB.out _⟩
    · have hb : (N == 0) = false := by simpa using hn
      have hr : (vl 4 N s).okB = false := by rw [hok, decide_eq_false (show ¬ N.toNat = 0 by omega)]; rfl
      rw [hr]
      clear hok hr hsz hn
      go_enter Tryd.func10, Tryd.ntmps10
      go_wp2
      go_ret
      exact ⟨rfl, HB.out _⟩
  by_cases k5 : K = 5
  · subst k5
    have hok : (vl 5 N s).okB = (decide (N.toNat = 0) && (decide (s.toList.length ≤ 64) && utf8B s.toList)) := rfl
    by_cases hn : N = 0
    · subst hn
      by_cases hl : (s.size : Int) ≤ 64
      · have hr : (vl 5 0 s).okB = utf8B s.toList := by rw [hok, decide_eq_true (show s.toList.length ≤ 64 by omega)]; rfl
        obtain ⟨B, hB⟩ : ∃ B, utf8B s.toList = B := ⟨_, rfl⟩
        have HS : Hid (s.size ≤ 64) := Lib.hid (by omega)
        have HU := Lib.hid hB
        rw [hr, hB]
        clear hok hr hsz hB
        go_enter Tryd.func10, Tryd.ntmps10
        go_wp2_with fail
        refine (rutf_below s _ (by have := HS.out; omega)).mono ?_
        rintro e w1 ⟨rfl, hb1⟩
        rw [HU.out]
        have H1 := Lib.hid ((HB.out _).trans (hb1.mono (by simp)))
        clear hb1
        go_wp2
        all_goals go_ret
        all_goals exact ⟨ret_b (by simp_all), H1.out⟩
      · have hr : (vl 5 0 s).okB = false := by rw [hok, decide_eq_false (show ¬ s.toList.length ≤ 64 by omega)]; rfl
        have hl2 : (64 : Int) < s.size := by omega
        rw [hr]
        clear hok hr hsz
        go_enter Tryd.func10, Tryd.ntmps10
        go_wp2
        go_ret
        exact ⟨rfl, HB.out _⟩
    · have hb : (N == 0) = false := by simpa using hn
      have hr : (vl 5 N s).okB = false := by rw [hok, decide_eq_false (show ¬ N.toNat = 0 by omega)]; rfl
      rw [hr]
      clear hok hr hsz hn
      go_enter Tryd.func10, Tryd.ntmps10
      go_wp2
      go_ret
      exact ⟨rfl, HB.out _⟩
  have hr : (vl K N s).okB = false := by
    simp [Vl.okB, k0, k1, k2, k3, k4, k5]
  have b0 : (K == 0) = false := by simpa using k0
  have b1 : (K == 1) = false := by simpa using k1
  have b2 : (K == 2) = false := by simpa using k2
  have b3 : (K == 3) = false := by simpa using k3
  have b4 : (K == 4) = false := by simpa using k4
  have b5 : (K == 5) = false := by simpa using k5
  rw [hr]
  clear hr hsz k0 k1 k2 k3 k4 k5
  · skip
    go_enter Tryd.func10, Tryd.ntmps10
    go_wp2
    go_ret
    exact ⟨rfl, HB.out _⟩

set_option maxHeartbeats 1000000 in
theorem rfits_any {nm : ByteArray} {cK cM : Int} {nu : Bool} {dK dN : Int} {dS : ByteArray} {K N : Int} {s : ByteArray} (hN : U64 N) (w : World) :
    Calls Tryd.prog 16 #[colv nm cK cM nu dK dN dS, vlv K N s] w fun e w' => e = .returned (.int .i64 (fitsE cK cM nu (vl K N s))) ∧ Below w.heap.size w w' := by
  have HB := Lib.hid (fun o p => below_2 w o p)
  have hsz := ba_size s
  by_cases ho : (vl K N s).okB = true
  case neg =>
    have ho : (vl K N s).okB = false := by simpa using ho
    have HOK := Lib.hid ho
    have hr : fitsE cK cM nu (vl K N s) = 8 := by rw [fitsE, if_pos ho]
    rw [hr]
    clear ho hr hsz
    go_enter Tryd.func16, Tryd.ntmps16
    go_wp2_with fail
    refine (rvalid_any hN _ ).mono ?_
    rintro e w1 ⟨rfl, hb1⟩
    rw [HOK.out]
    obtain ⟨c0, c1, c2, c3, v0, v2⟩ := fits_cells hb1
    have H1 := Lib.hid ((HB.out _ _).trans (hb1.mono (by simp; omega)))
    clear hb1
    go_wp2
    go_ret
    exact ⟨rfl, H1.out⟩
  have HOK := Lib.hid ho
  by_cases k0 : K = 0
  · subst k0
    cases nu with
    | false =>
      have hr : fitsE cK cM false (vl 0 N s) = 8 := by rw [fitsE, if_neg (by rw [ho]; decide), if_pos (by simp)]
      rw [hr]
      clear ho hr hsz
      go_enter Tryd.func16, Tryd.ntmps16
      go_wp2_with fail
      refine (rvalid_any hN _ ).mono ?_
      rintro e w1 ⟨rfl, hb1⟩
      rw [HOK.out]
      obtain ⟨c0, c1, c2, c3, v0, v2⟩ := fits_cells hb1
      have H1 := Lib.hid ((HB.out _ _).trans (hb1.mono (by simp; omega)))
      clear hb1
      go_wp2
      go_ret
      exact ⟨rfl, H1.out⟩
    | true =>
      have hr : fitsE cK cM true (vl 0 N s) = 0 := by rw [fitsE, if_neg (by rw [ho]; decide), if_neg (by simp), if_neg (by simp), if_neg (by simp)]
      rw [hr]
      clear ho hr hsz
      go_enter Tryd.func16, Tryd.ntmps16
      go_wp2_with fail
      refine (rvalid_any hN _ ).mono ?_
      rintro e w1 ⟨rfl, hb1⟩
      rw [HOK.out]
      obtain ⟨c0, c1, c2, c3, v0, v2⟩ := fits_cells hb1
      have H1 := Lib.hid ((HB.out _ _).trans (hb1.mono (by simp; omega)))
      clear hb1
      go_wp2
      go_ret
      exact ⟨rfl, H1.out⟩
  have b0 : (K == 0) = false := by simpa using k0
  have d0 : (K != 0) = true := by simpa using k0
  by_cases hk : K = cK
  case neg =>
    have hr : fitsE cK cM nu (vl K N s) = 8 := by rw [fitsE, if_neg (by rw [ho]; decide), if_neg (by simp [k0]), if_pos ⟨k0, hk⟩]
    have d1 : (K != cK) = true := by simpa using hk
    rw [hr]
    clear ho hr hsz k0 hk
    go_enter Tryd.func16, Tryd.ntmps16
    go_wp2_with fail
    refine (rvalid_any hN _ ).mono ?_
    rintro e w1 ⟨rfl, hb1⟩
    rw [HOK.out]
    obtain ⟨c0, c1, c2, c3, v0, v2⟩ := fits_cells hb1
    have H1 := Lib.hid ((HB.out _ _).trans (hb1.mono (by simp; omega)))
    clear hb1
    go_wp2
    go_ret
    exact ⟨rfl, H1.out⟩
  subst hk
  have d1 : (K != K) = false := by simp
  by_cases h45 : K = 4 ∨ K = 5
  case neg =>
    have hr : fitsE K cM nu (vl K N s) = 0 := by rw [fitsE, if_neg (by rw [ho]; decide), if_neg (by simp [k0]), if_neg (by simp), if_neg (fun h => h45 h.1)]
    have b4 : (K == 4) = false := by simp; omega
    have b5 : (K == 5) = false := by simp; omega
    rw [hr]
    clear ho hr hsz k0 h45
    go_enter Tryd.func16, Tryd.ntmps16
    go_wp2_with fail
    refine (rvalid_any hN _ ).mono ?_
    rintro e w1 ⟨rfl, hb1⟩
    rw [HOK.out]
    obtain ⟨c0, c1, c2, c3, v0, v2⟩ := fits_cells hb1
    have H1 := Lib.hid ((HB.out _ _).trans (hb1.mono (by simp; omega)))
    clear hb1
    go_wp2
    go_ret
    exact ⟨rfl, H1.out⟩
  by_cases hl : cM < (s.size : Int)
  · have hr : fitsE K cM nu (vl K N s) = 7 := by rw [fitsE, if_neg (by rw [ho]; decide), if_neg (by simp [k0]), if_neg (by simp), if_pos ⟨h45, by simp only [hsz]; exact hl⟩]
    rw [hr]
    rcases h45 with rfl | rfl
    all_goals
      clear ho hr hsz k0
      go_enter Tryd.func16, Tryd.ntmps16
      go_wp2_with fail
      refine (rvalid_any hN _ ).mono ?_
      rintro e w1 ⟨rfl, hb1⟩
      rw [HOK.out]
      obtain ⟨c0, c1, c2, c3, v0, v2⟩ := fits_cells hb1
      have H1 := Lib.hid ((HB.out _ _).trans (hb1.mono (by simp; omega)))
      clear hb1
      go_wp2
      go_ret
      exact ⟨rfl, H1.out⟩
  · have hr : fitsE K cM nu (vl K N s) = 0 := by rw [fitsE, if_neg (by rw [ho]; decide), if_neg (by simp [k0]), if_neg (by simp), if_neg (fun h => hl (by have := h.2; simp only [hsz] at this; exact this))]
    rw [hr]
    rcases h45 with rfl | rfl
    all_goals
      clear ho hr hsz k0
      go_enter Tryd.func16, Tryd.ntmps16
      go_wp2_with fail
      refine (rvalid_any hN _ ).mono ?_
      rintro e w1 ⟨rfl, hb1⟩
      rw [HOK.out]
      obtain ⟨c0, c1, c2, c3, v0, v2⟩ := fits_cells hb1
      have H1 := Lib.hid ((HB.out _ _).trans (hb1.mono (by simp; omega)))
      clear hb1
      go_wp2
      go_ret
      exact ⟨rfl, H1.out⟩

set_option maxHeartbeats 1000000 in
theorem rcolumn_any {nm : ByteArray} {cK cM : Int} {nu : Bool} {dK dN : Int} {dS : ByteArray} (hD : U64 dN) (w : World) :
    Calls Tryd.prog 18 #[colv nm cK cM nu dK dN dS] w fun e w' => e = .returned (.int .i64 (colE nm.toList cK cM nu (vl dK dN dS))) ∧ Below w.heap.size w w' := by
  have HB := Lib.hid (fun o => (Below.refl w.heap.size w).alloc (Nat.le_refl _) o)
  by_cases hn : nameB nm.toList = true
  case neg =>
    have hn : nameB nm.toList = false := by simpa using hn
    have HN := Lib.hid hn
    have hr : colE nm.toList cK cM nu (vl dK dN dS) = 1 := by rw [colE, if_pos hn]
    rw [hr]
    clear hn hr
    go_enter Tryd.func18, Tryd.ntmps18
    go_wp2_with fail
    refine (rname_any _ _).mono ?_
    rintro e w1 ⟨rfl, rfl⟩
    rw [HN.out]
    go_wp2
    go_ret
    exact ⟨rfl, HB.out _⟩
  have HN := Lib.hid hn
  by_cases hk : cK < 1 ∨ 5 < cK
  · have hr : colE nm.toList cK cM nu (vl dK dN dS) = 8 := by rw [colE, if_neg (by rw [hn]; decide), if_pos hk]
    rw [hr]
    clear hn hr
    have hk2 : cK < 1 ∨ (¬ cK < 1 ∧ 5 < cK) := by omega
    clear hk
    rcases hk2 with h1 | ⟨h1, h2⟩
    all_goals
      go_enter Tryd.func18, Tryd.ntmps18
      go_wp2_with fail
      refine (rname_any _ _).mono ?_
      rintro e w1 ⟨rfl, rfl⟩
      rw [HN.out]
      go_wp2
      go_ret
      exact ⟨rfl, HB.out _⟩
  have h1 : ¬ cK < 1 := by omega
  have h2 : ¬ 5 < cK := by omega
  by_cases hb : boundB cK cM = true
  case neg =>
    have hb : boundB cK cM = false := by simpa using hb
    have hr : colE nm.toList cK cM nu (vl dK dN dS) = 7 := by rw [colE, if_neg (by rw [hn]; decide), if_neg hk, if_pos hb]
    rw [hr]
    unfold boundB at hb
    clear hn hr hk
    by_cases h4 : cK < 4
    · have h3 : ¬ 3 < cK := by omega
      rw [if_neg (by omega)] at hb
      have hm : (cM != 0) = true := by simpa using hb
      clear hb
      go_enter Tryd.func18, Tryd.ntmps18
      go_wp2_with fail
      refine (rname_any _ _).mono ?_
      rintro e w1 ⟨rfl, rfl⟩
      rw [HN.out]
      go_wp2
      go_ret
      exact ⟨rfl, HB.out _⟩
    · have h3 : 3 < cK := by omega
      rw [if_pos (by omega)] at hb
      have hm : cM < 1 ∨ (¬ cM < 1 ∧ 64 < cM) := by simp at hb; omega
      clear hb
      rcases hm with m1 | ⟨m1, m2⟩
      all_goals
        go_enter Tryd.func18, Tryd.ntmps18
        go_wp2_with fail
        refine (rname_any _ _).mono ?_
        rintro e w1 ⟨rfl, rfl⟩
        rw [HN.out]
        go_wp2
        go_ret
        exact ⟨rfl, HB.out _⟩
  have hr : colE nm.toList cK cM nu (vl dK dN dS) = fitsE cK cM nu (vl dK dN dS) := by rw [colE, if_neg (by rw [hn]; decide), if_neg hk, if_neg (by rw [hb]; decide)]
  rw [hr]
  unfold boundB at hb
  clear hn hr hk
  by_cases h4 : cK < 4
  · have h3 : ¬ 3 < cK := by omega
    rw [if_neg (by omega)] at hb
    have hm : (cM != 0) = false := by simpa using hb
    clear hb
    go_enter Tryd.func18, Tryd.ntmps18
    go_wp2_with fail
    refine (rname_any _ _).mono ?_
    rintro e w1 ⟨rfl, rfl⟩
    rw [HN.out]
    go_wp2_with fail
    refine (rfits_any hD _).mono ?_
    rintro e w2 ⟨rfl, hb2⟩
    have H2 := Lib.hid ((HB.out _).trans (hb2.mono (by simp)))
    clear hb2
    go_wp2
    go_ret
    exact ⟨rfl, H2.out⟩
  · have h3 : 3 < cK := by omega
    rw [if_pos (by omega)] at hb
    have hm : ¬ cM < 1 ∧ ¬ 64 < cM := by simp at hb; omega
    obtain ⟨m1, m2⟩ := hm
    clear hb
    go_enter Tryd.func18, Tryd.ntmps18
    go_wp2_with fail
    refine (rname_any _ _).mono ?_
    rintro e w1 ⟨rfl, rfl⟩
    rw [HN.out]
    go_wp2_with fail
    refine (rfits_any hD _).mono ?_
    rintro e w2 ⟨rfl, hb2⟩
    have H2 := Lib.hid ((HB.out _).trans (hb2.mono (by simp)))
    clear hb2
    go_wp2
    go_ret
    exact ⟨rfl, H2.out⟩

end Go.Proofs.YtjkblmkgiiciaaaDoor
