/-
  The reference's order and names.
-/
import Derived.Test.YtjkblmkgiiciaaaDoorVal7
namespace Go.Proofs.YtjkblmkgiiciaaaDoor
open Go Go.RowKit
set_option linter.unusedVariables false
set_option linter.unusedSimpArgs false
set_option maxRecDepth 100000

theorem rcmp_any {K N L M : Int} {s t : ByteArray} (hN : U64 N) (hM : U64 M) (w : World) :
    Calls Tryd.prog 12 #[vlv K N s, vlv L M t] w fun e w' => e = .returned (.int .i64 (vcmp (vl K N s) (vl L M t))) ∧ Below w.heap.size w w' := by
  have HB := Lib.hid (fun o p => below_2 w o p)
  have n0 := hN.lo
  have m0 := hM.lo
  by_cases hk : K = L
  case neg =>
    have hb : (K != L) = true := by simpa using hk
    by_cases hl : K < L
    · have hr : vcmp (vl K N s) (vl L M t) = -1 := by unfold vcmp; rw [if_pos hk, if_pos hl]
      rw [hr]
      clear hr hk
      go_enter Tryd.func12, Tryd.ntmps12
      go_wp2
      go_ret
      exact ⟨rfl, HB.out _ _⟩
    · have hr : vcmp (vl K N s) (vl L M t) = 1 := by unfold vcmp; rw [if_pos hk, if_neg hl]
      rw [hr]
      clear hr hk
      go_enter Tryd.func12, Tryd.ntmps12
      go_wp2
      go_ret
      exact ⟨rfl, HB.out _ _⟩
  subst hk
  by_cases hn : N = M
  case neg =>
    have hb : (N != M) = true := by simpa using hn
    have hnn : N.toNat ≠ M.toNat := by omega
    have hv : vcmp (vl K N s) (vl K M t) = if (if K = 1 then decide (sgn N.toNat < sgn M.toNat) else decide (N.toNat < M.toNat)) = true then -1 else 1 := by
      unfold vcmp; rw [if_neg (by simp), if_pos hnn]
    by_cases k1 : K = 1
    · subst k1
      rw [if_pos rfl, ← conv_sgn hN, ← conv_sgn hM] at hv
      by_cases hl : wrap64 N < wrap64 M
      · rw [if_pos (by simpa using hl)] at hv
        rw [hv]
        clear hv hn hnn
        go_enter Tryd.func12, Tryd.ntmps12
        go_wp2
        go_ret
        exact ⟨rfl, HB.out _ _⟩
      · rw [if_neg (by simpa using hl)] at hv
        rw [hv]
        clear hv hn hnn
        go_enter Tryd.func12, Tryd.ntmps12
        go_wp2
        go_ret
        exact ⟨rfl, HB.out _ _⟩
    · rw [if_neg k1] at hv
      have hkb : (K == 1) = false := by simpa using k1
      by_cases hl : N < M
      · rw [if_pos (by simp; omega)] at hv
        rw [hv]
        clear hv hn hnn k1
        go_enter Tryd.func12, Tryd.ntmps12
        go_wp2
        go_ret
        exact ⟨rfl, HB.out _ _⟩
      · rw [if_neg (by simp; omega)] at hv
        rw [hv]
        clear hv hn hnn k1
        go_enter Tryd.func12, Tryd.ntmps12
        go_wp2
        go_ret
        exact ⟨rfl, HB.out _ _⟩
  subst hn
  have hv : vcmp (vl K N s) (vl K N t) = bcmp s.toList t.toList := by unfold vcmp; rw [if_neg (by simp), if_neg (by simp)]
  rw [hv]
  clear hv
  have h1 := less_bcmp s.toList t.toList
  have h2 := eq_bcmp s.toList t.toList
  rcases bcmp_range s.toList t.toList with h | h | h
  · rw [h] at h1 h2 ⊢
    have h3 : Op.bytesLess s.toList t.toList = true := h1
    have h4 : (s.toList == t.toList) = false := h2
    clear h h1 h2
    go_enter Tryd.func12, Tryd.ntmps12
    go_wp2
    go_ret
    exact ⟨rfl, HB.out _ _⟩
  · rw [h] at h1 ⊢
    have h4 := ba_eq ((bcmp_eq _ _).1 h)
    clear h h1 h2
    subst h4
    go_enter Tryd.func12, Tryd.ntmps12
    go_wp2
    go_ret
    exact ⟨rfl, HB.out _ _⟩
  · rw [h] at h1 h2 ⊢
    have h3 : Op.bytesLess s.toList t.toList = false := h1
    have h4 : (s.toList == t.toList) = false := h2
    clear h h1 h2
    go_enter Tryd.func12, Tryd.ntmps12
    go_wp2
    go_ret
    exact ⟨rfl, HB.out _ _⟩

theorem letZ_iff (z : Int) : letZ z = (!(decide (z < 97) || decide (122 < z))) := by
  unfold letZ
  rw [Bool.eq_iff_iff]; simp
set_option maxHeartbeats 2000000 in
theorem rname_any (s : ByteArray) (w : World) : Calls Tryd.prog 14 #[.string s] w fun e w' => e = .returned (.bool (nameB s.toList)) ∧ w = w' := by
  obtain ⟨B, hB⟩ : ∃ B, nameB s.toList = B := ⟨_, rfl⟩
  rw [hB]
  have hsz := ba_size s
  unfold nameB at hB
  rw [hsz] at hB
  by_cases h0 : s.size = 0
  · rw [decide_eq_false (show ¬ 1 ≤ s.size by omega), Bool.false_and] at hB
    subst hB
    have h1 : (s.size : Int) < 1 := by omega
    clear hsz h0
    go_enter Tryd.func14, Tryd.ntmps14
    go_wp2
    go_ret
    exact ⟨rfl, rfl⟩
  have hp0 : 0 < s.size := by omega
  have hpos : ¬ (s.size : Int) < 1 := by omega
  rw [decide_eq_true (show 1 ≤ s.size by omega), Bool.true_and] at hB
  by_cases h16 : s.size ≤ 16
  case neg =>
    rw [decide_eq_false h16, Bool.false_and] at hB
    subst hB
    have hgt : (16 : Int) < s.size := by omega
    clear hsz h0 h16
    go_enter Tryd.func14, Tryd.ntmps14
    go_wp2
    go_ret
    exact ⟨rfl, rfl⟩
  rw [decide_eq_true h16, Bool.true_and, ba_first s hp0] at hB
  have hle : ¬ (16 : Int) < s.size := by omega
  obtain ⟨z, hz⟩ : ∃ z : Int, ((s[0]'hp0).toNat : Int) = z := ⟨_, rfl⟩
  rw [hz] at hB
  by_cases hl : letZ z = true
  case neg =>
    have hl : letZ z = false := by simpa using hl
    rw [hl, Bool.false_and] at hB
    subst hB
    have hl2 : z < 97 ∨ (¬ z < 97 ∧ 122 < z) := by
      unfold letZ at hl; simp at hl; omega
    clear hsz h0 h16 hl
    rcases hl2 with h1 | ⟨h1, h2⟩
    · go_enter Tryd.func14, Tryd.ntmps14
      go_wp2
      go_ret
      exact ⟨rfl, rfl⟩
    · go_enter Tryd.func14, Tryd.ntmps14
      go_wp2
      go_ret
      exact ⟨rfl, rfl⟩
  rw [hl, Bool.true_and] at hB
  have hl1 : ¬ z < 97 := by unfold letZ at hl; simp at hl; omega
  have hl2 : ¬ 122 < z := by unfold letZ at hl; simp at hl; omega
  have HBE := Lib.hid hB
  have H16 := Lib.hid h16
  have HFI : Hid ((s.toList.take 1).all nmc = true) := Lib.hid (by
    have h2 := all_step s 0 hp0 nmc
    rw [h2, nmc, hz, hl]; rfl)
  clear hsz h0 hl hB
  go_enter Tryd.func14, Tryd.ntmps14
  go_wp2_with fail
  go_loop [3] (fun i => ∃ k : Nat, 1 ≤ k ∧ k ≤ s.size ∧ i = .int .i64 k ∧ Hid ((s.toList.take k).all nmc = true)) (fun i => s.size - (intOf i).toNat)
  case atStart => exact ⟨1, Nat.le_refl _, by omega, rfl, HFI⟩
  case round =>
    obtain ⟨k, hk1, hk, rfl, HA⟩ := hrel
    clear hz hl1 hl2
    by_cases hlt : k < s.size
    · obtain ⟨y, hy⟩ : ∃ y : Int, (s[k].toNat : Int) = y := ⟨_, rfl⟩
      have HN : nmc s[k] = (letZ y || (digZ y || decide (y = 95))) := by rw [nmc, hy]
      have HST := Lib.hid (all_step s k hlt nmc)
      by_cases hok : nmc s[k] = true
      · have HOK := Lib.hid hok
        rw [hok] at HN
        have hc : (97 ≤ y ∧ y ≤ 122) ∨ (48 ≤ y ∧ y ≤ 57) ∨ y = 95 := by
          unfold letZ digZ at HN; simp at HN; omega
        clear HN hok
        rcases hc with ⟨q1, q2⟩ | ⟨q1, q2⟩ | hu
        · go_wp2_with fail
          go_round
          case rel => exact ⟨k + 1, by omega, by omega, by go_num, Lib.hid (by rw [HST.out, HA.out, HOK.out]; rfl)⟩
          case measure => simp [intOf]; omega
        · have q3 : y < 97 := by omega
          go_wp2_with fail
          go_round
          case rel => exact ⟨k + 1, by omega, by omega, by go_num, Lib.hid (by rw [HST.out, HA.out, HOK.out]; rfl)⟩
          case measure => simp [intOf]; omega
        · have q3 : y < 97 := by omega
          have q4 : ¬ y < 48 := by omega
          have q5 : 57 < y := by omega
          have q6 : (y != 95) = false := by simpa using hu
          clear hu
          go_wp2_with fail
          go_round
          case rel => exact ⟨k + 1, by omega, by omega, by go_num, Lib.hid (by rw [HST.out, HA.out, HOK.out]; rfl)⟩
          case measure => simp [intOf]; omega
      · have hok : nmc s[k] = false := by simpa using hok
        have HNO : Hid (B = false) := Lib.hid (by rw [← HBE.out]; exact all_no s k hlt nmc hok)
        rw [hok] at HN
        have hu : (y != 95) = true := by
          have : ¬ y = 95 := by rintro rfl; revert HN; decide
          simpa using this
        have hc : (y < 97 ∨ (¬ y < 97 ∧ 122 < y)) ∧ (y < 48 ∨ (¬ y < 48 ∧ 57 < y)) := by
          unfold letZ digZ at HN
          have h1 : ¬ (97 ≤ y ∧ y ≤ 122) := by rintro ⟨a, b⟩; rw [decide_eq_true a, decide_eq_true b] at HN; simp at HN
          have h2 : ¬ (48 ≤ y ∧ y ≤ 57) := by
            rintro ⟨a, b⟩
            rw [decide_eq_true a, decide_eq_true b] at HN; simp at HN
          omega
        clear HN hok
        obtain ⟨q1 | ⟨q1, q2⟩, q3 | ⟨q3, q4⟩⟩ := hc
        all_goals
          go_wp2_with fail
          go_ret
          exact ⟨ret_b HNO.out.symm, rfl⟩
    · have HY : Hid (B = true) := Lib.hid (by rw [← HBE.out, ← HA.out, List.take_of_length_le (by rw [ba_size]; omega)])
      go_wp2_with fail
      go_ret
      exact ⟨ret_b HY.out.symm, rfl⟩

end Go.Proofs.YtjkblmkgiiciaaaDoor
