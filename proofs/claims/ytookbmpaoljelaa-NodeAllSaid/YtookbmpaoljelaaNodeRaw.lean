/-
  Lists held against one another (granaryraw's Bytes, Entries, Texts, Msgs). (Written by wip/tools/gennoderaw.py.)
-/
import Derived.Test.YtookbmpaoljelaaNodeMem
import Derived.Test.YtookbmpaoljelaaNode1
namespace Go.Proofs.Ytookbmpaoljelaa
open Go Go.RowKit
set_option linter.unusedVariables false
set_option linter.unusedSimpArgs false
set_option maxRecDepth 100000

theorem bytes_any (a b : Value) (xs ys : List UInt8) (w : World) (ha : SlC w a xs) (hb : SlC w b ys) : Calls Try.prog 16 #[a, b] w fun e w' => e = .returned (.bool (xs == ys)) ∧ w = w' := by
  have h1 := run_strC ha
  have h2 := run_strC hb
  have HT : Hid (∀ l : List UInt8, (ByteArray.mk l.toArray).toList = l) := Lib.hid ByteArray.toList_mk
  go_enter Try.func16, Try.ntmps16
  go_wp2_with fail
  go_ret
  exact ⟨by simp [HT.out], rfl⟩
theorem take_of {α : Type} [Inhabited α] {l : List α} {k : Nat} (h : k < l.length) : l.take (k + 1) = l.take k ++ [l.getD k default] := by
  rw [List.take_succ_eq_append_getElem h]
  simp [h]
/-- What a comparison of two lists answers. -/
def EqPost {α : Type} (xs ys : List α) (w : World) (e : Ending) (w' : World) : Prop := ∃ r : Bool, e = .returned (.bool r) ∧ (r = true ↔ xs = ys) ∧ Only (fun _ => False) w w'
theorem eq_no {α : Type} {xs ys : List α} {w w' : World} (h : xs ≠ ys) (ho : Only (fun _ => False) w w') : EqPost xs ys w (.returned (.bool false)) w' := ⟨false, rfl, ⟨(fun h => by cases h), fun e => absurd e h⟩, ho⟩
theorem eq_yes {α : Type} {xs ys : List α} {w w' : World} (h : xs = ys) (ho : Only (fun _ => False) w w') : EqPost xs ys w (.returned (.bool true)) w' := ⟨true, rfl, ⟨fun _ => h, fun _ => rfl⟩, ho⟩
theorem e_ways (a b : En) : a = b ∨ (a ≠ b ∧ (a.k.toList == b.k.toList) = false) ∨ (a ≠ b ∧ a.k = b.k ∧ (a.h == b.h) = false) ∨ (a ≠ b ∧ a.k = b.k ∧ a.h = b.h ∧ (a.v.toList == b.v.toList) = false) ∨ (a ≠ b ∧ a.k = b.k ∧ a.h = b.h ∧ a.v = b.v ∧ (a.x == b.x) = false) ∨ (a ≠ b ∧ a.k = b.k ∧ a.h = b.h ∧ a.v = b.v ∧ a.x = b.x ∧ (a.n == b.n) = false) ∨ (a ≠ b ∧ a.k = b.k ∧ a.h = b.h ∧ a.v = b.v ∧ a.x = b.x ∧ a.n = b.n ∧ (a.nv.toList == b.nv.toList) = false) := by
  obtain ⟨a0, a1, a2, a3, a4, a5⟩ := a
  obtain ⟨b0, b1, b2, b3, b4, b5⟩ := b
  by_cases h0 : a0.toList = b0.toList
  · obtain rfl := ba_ext h0
    by_cases h1 : a1 = b1
    · subst h1
      by_cases h2 : a2.toList = b2.toList
      · obtain rfl := ba_ext h2
        by_cases h3 : a3 = b3
        · subst h3
          by_cases h4 : a4 = b4
          · subst h4
            by_cases h5 : a5.toList = b5.toList
            · obtain rfl := ba_ext h5
              exact .inl rfl
            · exact .inr (.inr (.inr (.inr (.inr (.inr (⟨fun e => h5 (by injection e with _ _ _ _ _ e1; all_goals rw [e1]), rfl, rfl, rfl, rfl, rfl, by simpa using h5⟩))))))
          · exact .inr (.inr (.inr (.inr (.inr (.inl ⟨fun e => h4 (by injection e with _ _ _ _ e1 _; all_goals exact e1), rfl, rfl, rfl, rfl, by simpa using h4⟩)))))
        · exact .inr (.inr (.inr (.inr (.inl ⟨fun e => h3 (by injection e with _ _ _ e1 _ _; all_goals exact e1), rfl, rfl, rfl, by simpa using h3⟩))))
      · exact .inr (.inr (.inr (.inl ⟨fun e => h2 (by injection e with _ _ e1 _ _ _; all_goals rw [e1]), rfl, rfl, by simpa using h2⟩)))
    · exact .inr (.inr (.inl ⟨fun e => h1 (by injection e with _ e1 _ _ _ _; all_goals exact e1), rfl, by simpa using h1⟩))
  · exact .inr (.inl ⟨fun e => h0 (by injection e with e1 _ _ _ _ _; all_goals rw [e1]), by simpa using h0⟩)
set_option maxHeartbeats 4000000 in
theorem eql_e (ao bo : Option Addr) (n c m d : Nat) (xs ys : List En) (w : World) (ha : SlG w ao xs) (hb : SlG w bo ys) (hn : n = xs.length) (hm : m = ys.length) (hn47 : n ≤ 140737488351232) (hm47 : m ≤ 140737488351232) :
    Calls Try.prog 31 #[.slice ao n c, .slice bo m d] w (EqPost xs ys w) := by
  have HA := Lib.hid ha
  have HB := Lib.hid hb
  have HN := Lib.hid hn
  have HM := Lib.hid hm
  clear ha hb hn hm
  by_cases hnm : m = n
  · subst hnm
    go_enter Try.func31, Try.ntmps31
    go_wp2_with fail
    go_loopw [5] (fun i wr => ∃ (k : Nat), k ≤ m ∧ i = .int .i64 (k : Int) ∧ Hid (xs.take k = ys.take k) ∧ Hid (Only (fun _ => False) w wr)) (fun i _ => m - (intOf i).toNat)
    case atStart => exact ⟨0, Nat.zero_le _, rfl, Lib.hid rfl, Lib.hid (Only.refl _ _)⟩
    case round =>
      obtain ⟨k, hk, rfl, HS, HO⟩ := hrel
      by_cases hlt : k < m
      · have HKA : Hid (k < xs.length) := Lib.hid (by rw [← HN.out]; exact hlt)
        have HKB : Hid (k < ys.length) := Lib.hid (by rw [← HM.out]; exact hlt)
        obtain ⟨g, off, rfl, y0, y1, y2, y3, y4, y5⟩ := (HA.out.keep HO.out).en HKA.out
        obtain ⟨g2, off2, rfl, x0, x1, x2, x3, x4, x5⟩ := (HB.out.keep HO.out).en HKB.out
        have HTA := Lib.hid (take_of HKA.out)
        have HTB := Lib.hid (take_of HKB.out)
        generalize xs.getD k default = v at *
        generalize ys.getD k default = u at *
        have hltI : (k : Int) < (m : Int) := by omega
        have h0 : (0 : Int) ≤ (k : Int) := by omega
        have HNE : Hid (v ≠ u → xs ≠ ys) := Lib.hid (fun h e => h (by
          have e1 : xs.take (k + 1) = ys.take (k + 1) := by rw [e]
          rw [HTA.out, HTB.out, HS.out] at e1
          simpa using List.append_cancel_left e1))
        rcases e_ways v u with rfl | ⟨hne, f0⟩ | ⟨hne, f0, f1⟩ | ⟨hne, f0, f1, f2⟩ | ⟨hne, f0, f1, f2, f3⟩ | ⟨hne, f0, f1, f2, f3, f4⟩ | ⟨hne, f0, f1, f2, f3, f4, f5⟩
        · go_wp2_with fail
          go_quiet (fail)
          clear y0 x0 y1 x1 y2 x2 y3 x3 y4 x4 y5 x5
          have H2 := Lib.hid (HO.out.drewN nq)
          go_wp2_with fail
          go_roundw
          case rel => exact ⟨k + 1, by omega, by go_num, Lib.hid (by rw [HTA.out, HTB.out, HS.out]), H2⟩
          case measure => simp [intOf]; omega
        all_goals
          have HF := Lib.hid (HNE.out hne)
          clear hne HNE
          go_wp2_with fail
          go_quiet (fail)
          clear y0 x0 y1 x1 y2 x2 y3 x3 y4 x4 y5 x5
          have H2 := Lib.hid (HO.out.drewN nq)
          go_wp2_with fail
          go_ret
          exact eq_no HF.out H2.out
      · obtain rfl : k = m := by omega
        have HE : Hid (xs = ys) := Lib.hid (by
          have := HS.out
          rwa [List.take_of_length_le (by rw [HN.out]; exact Nat.le_refl _), List.take_of_length_le (by rw [HM.out]; exact Nat.le_refl _)] at this)
        have hltI : ¬ (k : Int) < (k : Int) := by omega
        go_wp2_with fail
        go_ret
        exact eq_yes HE.out HO.out
  · have hne : ((n : Int) != (m : Int)) = true := by simp; omega
    have HE : Hid (xs ≠ ys) := Lib.hid (fun h => hnm (by rw [HM.out, HN.out, h]))
    go_enter Try.func31, Try.ntmps31
    go_wp2
    go_ret
    exact eq_no HE.out (Only.refl _ _)
theorem m_ways (a b : Ms) : a = b ∨ (a ≠ b ∧ (a.sq == b.sq) = false) ∨ (a ≠ b ∧ a.sq = b.sq ∧ (a.K == b.K) = false) ∨ (a ≠ b ∧ a.sq = b.sq ∧ a.K = b.K ∧ (a.k.toList == b.k.toList) = false) ∨ (a ≠ b ∧ a.sq = b.sq ∧ a.K = b.K ∧ a.k = b.k ∧ (a.x == b.x) = false) ∨ (a ≠ b ∧ a.sq = b.sq ∧ a.K = b.K ∧ a.k = b.k ∧ a.x = b.x ∧ (a.v.toList == b.v.toList) = false) ∨ (a ≠ b ∧ a.sq = b.sq ∧ a.K = b.K ∧ a.k = b.k ∧ a.x = b.x ∧ a.v = b.v ∧ (a.off == b.off) = false) ∨ (a ≠ b ∧ a.sq = b.sq ∧ a.K = b.K ∧ a.k = b.k ∧ a.x = b.x ∧ a.v = b.v ∧ a.off = b.off ∧ (a.num == b.num) = false) := by
  obtain ⟨a0, a1, a2, a3, a4, a5, a6⟩ := a
  obtain ⟨b0, b1, b2, b3, b4, b5, b6⟩ := b
  by_cases h0 : a0 = b0
  · subst h0
    by_cases h1 : a1 = b1
    · subst h1
      by_cases h2 : a2.toList = b2.toList
      · obtain rfl := ba_ext h2
        by_cases h3 : a3 = b3
        · subst h3
          by_cases h4 : a4.toList = b4.toList
          · obtain rfl := ba_ext h4
            by_cases h5 : a5 = b5
            · subst h5
              by_cases h6 : a6 = b6
              · subst h6
                exact .inl rfl
              · exact .inr (.inr (.inr (.inr (.inr (.inr (.inr (⟨fun e => h6 (by injection e with _ _ _ _ _ _ e1; all_goals exact e1), rfl, rfl, rfl, rfl, rfl, rfl, by simpa using h6⟩)))))))
            · exact .inr (.inr (.inr (.inr (.inr (.inr (.inl ⟨fun e => h5 (by injection e with _ _ _ _ _ e1 _; all_goals exact e1), rfl, rfl, rfl, rfl, rfl, by simpa using h5⟩))))))
          · exact .inr (.inr (.inr (.inr (.inr (.inl ⟨fun e => h4 (by injection e with _ _ _ _ e1 _ _; all_goals rw [e1]), rfl, rfl, rfl, rfl, by simpa using h4⟩)))))
        · exact .inr (.inr (.inr (.inr (.inl ⟨fun e => h3 (by injection e with _ _ _ e1 _ _ _; all_goals exact e1), rfl, rfl, rfl, by simpa using h3⟩))))
      · exact .inr (.inr (.inr (.inl ⟨fun e => h2 (by injection e with _ _ e1 _ _ _ _; all_goals rw [e1]), rfl, rfl, by simpa using h2⟩)))
    · exact .inr (.inr (.inl ⟨fun e => h1 (by injection e with _ e1 _ _ _ _ _; all_goals exact e1), rfl, by simpa using h1⟩))
  · exact .inr (.inl ⟨fun e => h0 (by injection e with e1 _ _ _ _ _ _; all_goals exact e1), by simpa using h0⟩)
set_option maxHeartbeats 4000000 in
theorem eql_m (ao bo : Option Addr) (n c m d : Nat) (xs ys : List Ms) (w : World) (ha : SlG w ao xs) (hb : SlG w bo ys) (hn : n = xs.length) (hm : m = ys.length) (hn47 : n ≤ 140737488351232) (hm47 : m ≤ 140737488351232) :
    Calls Try.prog 33 #[.slice ao n c, .slice bo m d] w (EqPost xs ys w) := by
  have HA := Lib.hid ha
  have HB := Lib.hid hb
  have HN := Lib.hid hn
  have HM := Lib.hid hm
  clear ha hb hn hm
  by_cases hnm : m = n
  · subst hnm
    go_enter Try.func33, Try.ntmps33
    go_wp2_with fail
    go_loopw [5] (fun i wr => ∃ (k : Nat), k ≤ m ∧ i = .int .i64 (k : Int) ∧ Hid (xs.take k = ys.take k) ∧ Hid (Only (fun _ => False) w wr)) (fun i _ => m - (intOf i).toNat)
    case atStart => exact ⟨0, Nat.zero_le _, rfl, Lib.hid rfl, Lib.hid (Only.refl _ _)⟩
    case round =>
      obtain ⟨k, hk, rfl, HS, HO⟩ := hrel
      by_cases hlt : k < m
      · have HKA : Hid (k < xs.length) := Lib.hid (by rw [← HN.out]; exact hlt)
        have HKB : Hid (k < ys.length) := Lib.hid (by rw [← HM.out]; exact hlt)
        obtain ⟨g, off, rfl, y0, y1, y2, y3, y4, y5, y6⟩ := (HA.out.keep HO.out).ms HKA.out
        obtain ⟨g2, off2, rfl, x0, x1, x2, x3, x4, x5, x6⟩ := (HB.out.keep HO.out).ms HKB.out
        have HTA := Lib.hid (take_of HKA.out)
        have HTB := Lib.hid (take_of HKB.out)
        generalize xs.getD k default = v at *
        generalize ys.getD k default = u at *
        have hltI : (k : Int) < (m : Int) := by omega
        have h0 : (0 : Int) ≤ (k : Int) := by omega
        have HNE : Hid (v ≠ u → xs ≠ ys) := Lib.hid (fun h e => h (by
          have e1 : xs.take (k + 1) = ys.take (k + 1) := by rw [e]
          rw [HTA.out, HTB.out, HS.out] at e1
          simpa using List.append_cancel_left e1))
        rcases m_ways v u with rfl | ⟨hne, f0⟩ | ⟨hne, f0, f1⟩ | ⟨hne, f0, f1, f2⟩ | ⟨hne, f0, f1, f2, f3⟩ | ⟨hne, f0, f1, f2, f3, f4⟩ | ⟨hne, f0, f1, f2, f3, f4, f5⟩ | ⟨hne, f0, f1, f2, f3, f4, f5, f6⟩
        · go_wp2_with fail
          go_quiet (fail)
          clear y0 x0 y1 x1 y2 x2 y3 x3 y4 x4 y5 x5 y6 x6
          have H2 := Lib.hid (HO.out.drewN nq)
          go_wp2_with fail
          go_roundw
          case rel => exact ⟨k + 1, by omega, by go_num, Lib.hid (by rw [HTA.out, HTB.out, HS.out]), H2⟩
          case measure => simp [intOf]; omega
        all_goals
          have HF := Lib.hid (HNE.out hne)
          clear hne HNE
          go_wp2_with fail
          go_quiet (fail)
          clear y0 x0 y1 x1 y2 x2 y3 x3 y4 x4 y5 x5 y6 x6
          have H2 := Lib.hid (HO.out.drewN nq)
          go_wp2_with fail
          go_ret
          exact eq_no HF.out H2.out
      · obtain rfl : k = m := by omega
        have HE : Hid (xs = ys) := Lib.hid (by
          have := HS.out
          rwa [List.take_of_length_le (by rw [HN.out]; exact Nat.le_refl _), List.take_of_length_le (by rw [HM.out]; exact Nat.le_refl _)] at this)
        have hltI : ¬ (k : Int) < (k : Int) := by omega
        go_wp2_with fail
        go_ret
        exact eq_yes HE.out HO.out
  · have hne : ((n : Int) != (m : Int)) = true := by simp; omega
    have HE : Hid (xs ≠ ys) := Lib.hid (fun h => hnm (by rw [HM.out, HN.out, h]))
    go_enter Try.func33, Try.ntmps33
    go_wp2
    go_ret
    exact eq_no HE.out (Only.refl _ _)
theorem s_ways (a b : ByteArray) : a = b ∨ (a ≠ b ∧ (a.toList == b.toList) = false) := by
  by_cases h : a.toList = b.toList
  · exact .inl (ba_ext h)
  · exact .inr ⟨fun e => h (by rw [e]), by simpa using h⟩
set_option maxHeartbeats 4000000 in
theorem eql_s (ao bo : Option Addr) (n c m d : Nat) (xs ys : List ByteArray) (w : World) (ha : SlG w ao xs) (hb : SlG w bo ys) (hn : n = xs.length) (hm : m = ys.length) (hn47 : n ≤ 140737488351232) (hm47 : m ≤ 140737488351232) :
    Calls Try.prog 32 #[.slice ao n c, .slice bo m d] w (EqPost xs ys w) := by
  have HA := Lib.hid ha
  have HB := Lib.hid hb
  have HN := Lib.hid hn
  have HM := Lib.hid hm
  clear ha hb hn hm
  by_cases hnm : m = n
  · subst hnm
    go_enter Try.func32, Try.ntmps32
    go_wp2_with fail
    go_loopw [5] (fun i wr => ∃ (k : Nat), k ≤ m ∧ i = .int .i64 (k : Int) ∧ Hid (xs.take k = ys.take k) ∧ Hid (Only (fun _ => False) w wr)) (fun i _ => m - (intOf i).toNat)
    case atStart => exact ⟨0, Nat.zero_le _, rfl, Lib.hid rfl, Lib.hid (Only.refl _ _)⟩
    case round =>
      obtain ⟨k, hk, rfl, HS, HO⟩ := hrel
      by_cases hlt : k < m
      · have HKA : Hid (k < xs.length) := Lib.hid (by rw [← HN.out]; exact hlt)
        have HKB : Hid (k < ys.length) := Lib.hid (by rw [← HM.out]; exact hlt)
        obtain ⟨g, off, rfl, y0⟩ := (HA.out.keep HO.out).st HKA.out
        obtain ⟨g2, off2, rfl, x0⟩ := (HB.out.keep HO.out).st HKB.out
        have HTA := Lib.hid (take_of HKA.out)
        have HTB := Lib.hid (take_of HKB.out)
        generalize xs.getD k default = v at *
        generalize ys.getD k default = u at *
        have hltI : (k : Int) < (m : Int) := by omega
        have h0 : (0 : Int) ≤ (k : Int) := by omega
        have HNE : Hid (v ≠ u → xs ≠ ys) := Lib.hid (fun h e => h (by
          have e1 : xs.take (k + 1) = ys.take (k + 1) := by rw [e]
          rw [HTA.out, HTB.out, HS.out] at e1
          simpa using List.append_cancel_left e1))
        rcases s_ways v u with rfl | ⟨hne, f0⟩
        · go_wp2_with fail
          go_quiet (fail)
          clear y0 x0
          have H2 := Lib.hid (HO.out.drewN nq)
          go_wp2_with fail
          go_roundw
          case rel => exact ⟨k + 1, by omega, by go_num, Lib.hid (by rw [HTA.out, HTB.out, HS.out]), H2⟩
          case measure => simp [intOf]; omega
        all_goals
          have HF := Lib.hid (HNE.out hne)
          clear hne HNE
          go_wp2_with fail
          go_quiet (fail)
          clear y0 x0
          have H2 := Lib.hid (HO.out.drewN nq)
          go_wp2_with fail
          go_ret
          exact eq_no HF.out H2.out
      · obtain rfl : k = m := by omega
        have HE : Hid (xs = ys) := Lib.hid (by
          have := HS.out
          rwa [List.take_of_length_le (by rw [HN.out]; exact Nat.le_refl _), List.take_of_length_le (by rw [HM.out]; exact Nat.le_refl _)] at this)
        have hltI : ¬ (k : Int) < (k : Int) := by omega
        go_wp2_with fail
        go_ret
        exact eq_yes HE.out HO.out
  · have hne : ((n : Int) != (m : Int)) = true := by simp; omega
    have HE : Hid (xs ≠ ys) := Lib.hid (fun h => hnm (by rw [HM.out, HN.out, h]))
    go_enter Try.func32, Try.ntmps32
    go_wp2
    go_ret
    exact eq_no HE.out (Only.refl _ _)

end Go.Proofs.Ytookbmpaoljelaa
