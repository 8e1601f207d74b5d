/-
  Two lists of values held against one another (granaryraw's Values), and the list that Decode answers xs a slice to be read.
-/
import Derived.Test.YtpedcpehomkikaaDoorKey8
import Derived.BigQuiet
import Derived.Deep.QuietTactic
namespace Go.Proofs.YtpedcpehomkikaaDoor
open Go Go.RowKit
set_option linter.unusedVariables false
set_option linter.unusedSimpArgs false
set_option maxRecDepth 100000

theorem vv_ways (a b : Vv) : a = b ∨ (a ≠ b ∧ (a.K == b.K) = false) ∨ (a ≠ b ∧ a.K = b.K ∧ (a.N == b.N) = false) ∨ (a ≠ b ∧ a.K = b.K ∧ a.N = b.N ∧ (a.S.toList == b.S.toList) = false) := by
  obtain ⟨K, N, S⟩ := a
  obtain ⟨L, M, T⟩ := b
  by_cases h1 : K = L
  · by_cases h2 : N = M
    · by_cases h3 : S.toList = T.toList
      · left; rw [h1, h2, ba_eq h3]
      · exact .inr (.inr (.inr ⟨fun e => h3 (by injection e with _ _ e; rw [e]), h1, h2, by simpa using h3⟩))
    · exact .inr (.inr (.inl ⟨fun e => h2 (by injection e), h1, by simpa using h2⟩))
  · exact .inr (.inl ⟨fun e => h1 (by injection e), by simpa using h1⟩)
theorem vv_ext {a b : Vv} (ha : U64 a.N) (hb : U64 b.N) (h : a.vl = b.vl) : a = b := by
  obtain ⟨K, N, S⟩ := a
  obtain ⟨L, M, T⟩ := b
  simp only [Vv.vl, Vl.mk.injEq] at h
  have := ha.lo; have := hb.lo
  simp only at *
  obtain ⟨h1, h2, h3⟩ := h
  rw [h1, ba_eq h3, show N = M by omega]
theorem vv_map : ∀ {xs ys : List Vv}, (∀ v ∈ xs, U64 v.N) → (∀ v ∈ ys, U64 v.N) → xs.map Vv.vl = ys.map Vv.vl → xs = ys
  | [], [], _, _, _ => rfl
  | a :: xs, b :: ys, ha, hb, h => by
    simp only [List.map_cons, List.cons.injEq] at h
    rw [vv_ext (ha a (by simp)) (hb b (by simp)) h.1, vv_map (fun v hv => ha v (by simp [hv])) (fun v hv => hb v (by simp [hv])) h.2]
  | [], _ :: _, _, _, h => by simp at h
  | _ :: _, [], _, _, h => by simp at h
theorem take_vv {l : List Vv} {k : Nat} (h : k < l.length) : l.take (k + 1) = l.take k ++ [l.getD k default] := by
  rw [List.take_succ_eq_append_getElem h]
  simp [h]
/-- What Values answers. -/
def ValuesPost (xs ys : List Vv) (w : World) (e : Ending) (w' : World) : Prop :=
  ∃ r : Bool, e = .returned (.bool r) ∧ (r = true ↔ xs = ys) ∧ Only (fun _ => False) w w'

set_option maxHeartbeats 4000000 in
theorem values_any (ao bo : Option Addr) (n c m d : Nat) (xs ys : List Vv) (w : World) (ha : SlV w ao xs) (hb : SlV w bo ys) (hn : n = xs.length) (hm : m = ys.length) (hn47 : n ≤ 140737488355328) (hm47 : m ≤ 140737488355328) :
    Calls Tryd.prog 14 #[.slice ao n c, .slice bo m d] w fun e w' => ValuesPost xs ys w e w' := by
  have HA := Lib.hid ha
  have HB := Lib.hid hb
  have HN := Lib.hid hn
  have HM := Lib.hid hm
  clear ha hb hn hm
  by_cases hnm : m = n
  · subst hnm
    go_enter Tryd.func14, Tryd.ntmps14
    go_wp2_with fail
    go_loopw [5] (fun i wr => ∃ (k : Nat), k ≤ m ∧ i = .int .i64 (k : Int) ∧ Hid (xs.take k = ys.take k) ∧ Hid (Only (fun _ => False) w wr)) (fun i _ => m - (intOf i).toNat)
    case atStart => exact ⟨0, Nat.zero_le _, rfl, Lib.hid rfl, Lib.hid (Only.refl _ _)⟩
    case round =>
      obtain ⟨k, hk, rfl, HS, HO⟩ := hrel
      by_cases hlt : k < m
      · have HKA : Hid (k < xs.length) := Lib.hid (by rw [← HN.out]; exact hlt)
        have HKB : Hid (k < ys.length) := Lib.hid (by rw [← HM.out]; exact hlt)
        obtain ⟨g, off, rfl, hva⟩ := (HA.out.keep HO.out) k HKA.out
        obtain ⟨g2, off2, rfl, hvb⟩ := (HB.out.keep HO.out) k HKB.out
        obtain ⟨v, hve⟩ : ∃ v, xs.getD k default = v := ⟨_, rfl⟩
        obtain ⟨u, hue⟩ : ∃ u, ys.getD k default = u := ⟨_, rfl⟩
        have HTA := Lib.hid (take_vv HKA.out)
        have HTB := Lib.hid (take_vv HKB.out)
        rw [hve] at hva HTA
        rw [hue] at hvb HTB
        clear hve hue
        obtain ⟨y0, y1, y2, hu1⟩ := hva
        obtain ⟨x0, x1, x2, hu2⟩ := hvb
        have hltI : (k : Int) < (m : Int) := by omega
        clear hu1 hu2
        have HNE : Hid (v ≠ u → xs ≠ ys) := Lib.hid (fun h e => h (by
          have e1 : xs.take (k + 1) = ys.take (k + 1) := by rw [e]
          rw [HTA.out, HTB.out, HS.out] at e1
          simpa using List.append_cancel_left e1))
        rcases vv_ways v u with rfl | ⟨hne, h1⟩ | ⟨hne, h1, h2⟩ | ⟨hne, h1, h2, h3⟩
        · go_wp2_with fail
          go_quiet (fail)
          clear y0 y1 y2 x0 x1 x2
          have H2 := Lib.hid (HO.out.drewN nq)
          go_wp2_with fail
          go_roundw
          case rel => exact ⟨k + 1, by omega, by go_num, Lib.hid (by rw [HTA.out, HTB.out, HS.out]), H2⟩
          case measure => simp [intOf]; omega
        all_goals
          have HF := Lib.hid (HNE.out hne)
          clear hne HNE
          go_wp2_with fail
          go_quiet (fail)
          clear y0 y1 y2 x0 x1 x2
          have H2 := Lib.hid (HO.out.drewN nq)
          go_wp2_with fail
          go_ret
          exact ⟨false, rfl, ⟨(fun h => by cases h), fun h => (HF.out h).elim⟩, H2.out⟩
      · obtain rfl : k = m := by omega
        have HE : Hid (xs = ys) := Lib.hid (by
          have := HS.out
          rwa [List.take_of_length_le (by rw [HN.out]; exact Nat.le_refl _), List.take_of_length_le (by rw [HM.out]; exact Nat.le_refl _)] at this)
        have hltI : ¬ (k : Int) < (k : Int) := by omega
        go_wp2_with fail
        go_ret
        exact ⟨true, rfl, ⟨fun _ => HE.out, fun _ => rfl⟩, HO.out⟩
  · have hne : ((n : Int) != (m : Int)) = true := by simp; omega
    have HE : Hid (xs ≠ ys) := Lib.hid (fun h => hnm (by rw [HM.out, HN.out, h]))
    go_enter Tryd.func14, Tryd.ntmps14
    go_wp2
    go_ret
    exact ⟨false, rfl, ⟨(fun h => by cases h), fun h => (HE.out h).elim⟩, Only.refl _ _⟩

theorem vcells_at : ∀ (l : List Vv) (j : Nat), j < l.length → (vcells l)[j * 3]? = some (.int .i64 (l.getD j default).K) ∧ (vcells l)[j * 3 + 1]? = some (.int .u64 (l.getD j default).N) ∧ (vcells l)[j * 3 + 2]? = some (.string (l.getD j default).S)
  | [], j, h => by simp at h
  | v :: l, 0, _ => by simp [vcells]
  | v :: l, j + 1, h => by
    have ih := vcells_at l j (by simpa using h)
    have e : ∀ i, (vcells (v :: l))[(j + 1) * 3 + i]? = (vcells l)[j * 3 + i]? := fun i => by
      rw [show (j + 1) * 3 + i = (j * 3 + i) + 3 by omega]
      simp [vcells]
    have e0 := e 0
    rw [Nat.add_zero, Nat.add_zero] at e0
    rw [e0, e 1, e 2]
    simpa using ih
/-- The list that Decode answers, to be read. -/
theorem rowV_slV {w0 w : World} {lv : Value} {vs : List Vv} (h : Own w0 w (RowV 35 3 lv vs.length (vcells vs))) (hU : ∀ v ∈ vs, U64 v.N) : ∃ ao c, lv = .slice ao vs.length c ∧ SlV w ao vs := by
  obtain ⟨F, ⟨hown, _⟩, _, _⟩ := h
  have hown2 := hown
  rcases hown2.2 with ⟨rfl, h0⟩ | ⟨g, cap, cur, rfl, _, hg, hc, hm, hs, ht⟩
  · exact ⟨none, 0, by rw [h0], fun j hj => by omega⟩
  · refine ⟨_, cap, rfl, fun j hj => ?_⟩
    obtain ⟨a0, a1, a2⟩ := vcells_at vs j hj
    have hl := vcells_length vs
    refine ⟨g, 0, rfl, ?_, ?_, ?_, hU _ (by simp [hj])⟩
    · rw [Nat.zero_add, hown.cellAt (j * 3) (by omega)]
      exact a0
    · rw [Nat.zero_add, hown.cellAt (j * 3 + 1) (by omega)]
      exact a1
    · rw [Nat.zero_add, hown.cellAt (j * 3 + 2) (by omega)]
      exact a2

end Go.Proofs.YtpedcpehomkikaaDoor
