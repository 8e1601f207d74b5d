/-
  The reference's order and names.
-/
import Derived.Test.YtpedcpehomkikaaDoorVal7
namespace Go.Proofs.YtpedcpehomkikaaDoor
open Go Go.RowKit
set_option linter.unusedVariables false
set_option linter.unusedSimpArgs false
set_option maxRecDepth 100000

theorem rcmp_any {K N L M : Int} {s t : ByteArray} (hN : U64 N) (hM : U64 M) (w : World) :
    Calls Tryd.prog 18 #[vlv K N s, vlv L M t] w fun e w' => e = .returned (.int .i64 (vcmp (vl K N s) (vl L M t))) ∧ Below w.heap.size w w' := by
  have HB := Lib.hid (fun o p => below_2 w o p)
  have n0 := hN.lo
  have m0 := hM.lo
  by_cases hk : K = L
  case neg =>
    have hb : (K != L) = true := by simpa using hk
    by_cases hl : K < L
    · have hr : vcmp (vl K N s) (vl L M t) = -1 := by unfold vcmp; rw [if_pos hk, if_pos hl]
      rw [hr]
      clear hr hk
      go_enter Tryd.func18, Tryd.ntmps18
      go_wp2
      go_ret
      exact ⟨rfl, HB.out _ _⟩
    · have hr : vcmp (vl K N s) (vl L M t) = 1 := by unfold vcmp; rw [if_pos hk, if_neg hl]
      rw [hr]
      clear hr hk
      go_enter Tryd.func18, Tryd.ntmps18
      go_wp2
      go_ret
      exact ⟨rfl, HB.out _ _⟩
  subst hk
  by_cases hn : N = M
  case neg =>
    have hb : (N != M) = true := by simpa using hn
    have hnn : N.toNat ≠ M.toNat := by omega
    have hv : vcmp (vl K N s) (vl K M t) = if (if K = 1 then decide (sgn N.toNat < sgn M.toNat) else decide (N.toNat < M.toNat)) = true then -1 else 1 := by
      unfold vcmp; rw [if_neg (by simp), if_pos hnn]
    by_cases k1 : K = 1
    · subst k1
      rw [if_pos rfl, ← conv_sgn hN, ← conv_sgn hM] at hv
      by_cases hl : wrap64 N < wrap64 M
      · rw [if_pos (by simpa using hl)] at hv
        rw [hv]
        clear hv hn hnn
        go_enter Tryd.func18, Tryd.ntmps18
        go_wp2
        go_ret
        exact ⟨rfl, HB.out _ _⟩
      · rw [if_neg (by simpa using hl)] at hv
        rw [hv]
        clear hv hn hnn
        go_enter Tryd.func18, Tryd.ntmps18
        go_wp2
        go_ret
        exact ⟨rfl, HB.out _ _⟩
    · rw [if_neg k1] at hv
      have hkb : (K == 1) = false := by simpa using k1
      by_cases hl : N < M
      · rw [if_pos (by simp; omega)] at hv
        rw [hv]
        clear hv hn hnn k1
        go_enter Tryd.func18, Tryd.ntmps18
        go_wp2
        go_ret
        exact ⟨rfl, HB.out _ _⟩
      · rw [if_neg (by simp; omega)] at hv
        rw [hv]
        clear hv hn hnn k1
        go_enter Tryd.func18, Tryd.ntmps18
        go_wp2
        go_ret
        exact ⟨rfl, HB.out _ _⟩
  subst hn
  have hv : vcmp (vl K N s) (vl K N t) = bcmp s.toList t.toList := by unfold vcmp; rw [if_neg (by simp), if_neg (by simp)]
  rw [hv]
  clear hv
  have h1 := less_bcmp s.toList t.toList
  have h2 := eq_bcmp s.toList t.toList
  rcases bcmp_range s.toList t.toList with h | h | h
  · rw [h] at h1 h2 ⊢
    have h3 : Op.bytesLess s.toList t.toList = true := h1
    have h4 : (s.toList == t.toList) = false := h2
    clear h h1 h2
    go_enter Tryd.func18, Tryd.ntmps18
    go_wp2
    go_ret
    exact ⟨rfl, HB.out _ _⟩
  · rw [h] at h1 ⊢
    have h4 := ba_eq ((bcmp_eq _ _).1 h)
    clear h h1 h2
    subst h4
    go_enter Tryd.func18, Tryd.ntmps18
    go_wp2
    go_ret
    exact ⟨rfl, HB.out _ _⟩
  · rw [h] at h1 h2 ⊢
    have h3 : Op.bytesLess s.toList t.toList = false := h1
    have h4 : (s.toList == t.toList) = false := h2
    clear h h1 h2
    go_enter Tryd.func18, Tryd.ntmps18
    go_wp2
    go_ret
    exact ⟨rfl, HB.out _ _⟩

theorem letZ_iff (z : Int) : letZ z = (!(decide (z < 97) || decide (122 < z))) := by
  unfold letZ
  rw [Bool.eq_iff_iff]; simp

end Go.Proofs.YtpedcpehomkikaaDoor
