/-
  Joined: Node2 Node3 NodeQ1 Node4 Node5.
-/
import Derived.Test.YtookbmpaoljelaaGreatNodeJ4
import Derived.IntWalk

namespace Go.Proofs.YtookbmpaoljelaaGreat
open Go Go.RowKit
set_option linter.unusedVariables false
set_option linter.unusedSimpArgs false
set_option maxRecDepth 100000
set_option linter.unusedSimpArgs false
set_option maxRecDepth 100000

/-- What IndexFunc says: a place, just if not all fit. -/
def IdxP (q : Bool) (w : World) (e : Ending) (w' : World) : Prop := ∃ z : Int, e = .returned (.int .i64 z) ∧ (0 ≤ z ↔ q = false) ∧ Only (fun _ => False) w w'
theorem idx_yes {q : Bool} {w w' : World} (z : Int) (hz : 0 ≤ z) (hq : q = false) (ho : Only (fun _ => False) w w') : IdxP q w (.returned (.int .i64 z)) w' := ⟨z, rfl, ⟨fun _ => hq, fun _ => hz⟩, ho⟩
theorem idx_no {q : Bool} {w w' : World} (hq : q = true) (ho : Only (fun _ => False) w w') : IdxP q w (.returned (.int .i64 (-1))) w' := ⟨-1, rfl, ⟨fun h => by omega, fun h => by rw [hq] at h; cases h⟩, ho⟩
set_option maxHeartbeats 2000000 in
theorem rise_e (ao : Option Addr) (n c : Nat) (l : List En) (w : World) (hl : SlG w ao l) (hn : n = l.length) (hb : n ≤ 140737488351232) :
    Calls Tryz.prog 64 #[.slice ao n c, .func (.func 63) #[] #[]] w fun r w' => r = .returned (.bool (riseB entryLt l)) ∧ Only (fun _ => False) w w' := by
  have HL := Lib.hid hl
  have HN := Lib.hid hn
  clear hl hn
  go_enter Tryz.func64, Tryz.ntmps64
  go_wp2_with fail
  go_loopw [5] (fun i wr => ∃ k : Nat, (k ≤ n) ∧ i = .int .i64 ((k : Int) + 1) ∧ Hid (∀ j, j < k → j + 1 < l.length → entryLt (l.getD j default) (l.getD (j + 1) default) = true) ∧ Hid (Only (fun _ => False) w wr)) (fun i _ => n + 1 - (intOf i).toNat)
  case atStart => exact ⟨0, Nat.zero_le _, rfl, Lib.hid (fun j hj => by omega), Lib.hid (Only.refl _ _)⟩
  case round =>
    obtain ⟨k, hk, rfl, HI, HO⟩ := hrel
    by_cases hlt : k + 1 < n
    · obtain ⟨g, off, rfl, x0, x1, x2, x3, x4, x5⟩ := (HL.out.keep HO.out).en (j := k) (by rw [← HN.out]; omega)
      obtain ⟨g2, off2, he, y0, y1, y2, y3, y4, y5⟩ := (HL.out.keep HO.out).en (j := k + 1) (by rw [← HN.out]; omega)
      simp only [Option.some.injEq, Addr.mk.injEq, and_true] at he
      obtain ⟨rfl, rfl⟩ := he
      have HE := Lib.hid (rise_no (lt := entryLt) (l := l) (i := k) (by rw [← HN.out]; omega))
      have HX : Hid (entryLt (l.getD k default) (l.getD (k + 1) default) = true → ∀ j, j < k + 1 → j + 1 < l.length → entryLt (l.getD j default) (l.getD (j + 1) default) = true) := Lib.hid (fun h j hj h2 => by
        by_cases e : j = k
        · subst e; exact h
        · exact HI.out j (by omega) h2)
      generalize l.getD k default = a at *
      generalize l.getD (k + 1) default = b at *
      have HC := Lib.hid (fun W => elt_any a b W)
      obtain ⟨q, hq⟩ : ∃ q, entryLt a b = q := ⟨_, rfl⟩
      rw [hq] at HC HE HX
      clear hq HI
      have hltI : (k : Int) + 1 < (n : Int) := by omega
      have h0 : (0 : Int) ≤ (k : Int) := by omega
      have h1 : (0 : Int) ≤ (k : Int) + 1 := by omega
      have h2 : (k : Int) < (n : Int) := by omega
      go_upto_region 4 with fail
      have hs1 : IntKind.i64.wrap (k : Int) = (k : Int) := IntWalk.i64_in _ (by omega)
      have hs2 : ((k : Int) + 1).toNat = k + 1 := by omega
      go_still_tail 10, (by kernel_rfl)
      change wpList _ _ _ _ _ wr.drew
      clear x0 x1 x2 x3 x4 x5 y0 y1 y2 y3 y4 y5 hs1 hs2
      go_wp2_with fail
      refine (HC.out _).mono ?_
      rintro e w1 ⟨rfl, ho⟩
      have HO2 := Lib.hid (HO.out.drew.trans ho (fun _ _ h => h))
      clear ho HO HC
      cases q with
      | true =>
        go_wp2_with fail
        go_roundw
        case rel => exact ⟨k + 1, by omega, by go_num, Lib.hid (HX.out (by first | rfl | trivial)), HO2⟩
        case measure => simp [intOf]; omega
      | false =>
        go_wp2_with fail
        go_ret
        exact ⟨by rw [HE.out (by first | rfl | trivial)]; rfl, HO2.out⟩
    · have hltI : ¬ (k : Int) + 1 < (n : Int) := by omega
      have HE : Hid (riseB entryLt l = true) := Lib.hid ((rise_iff entryLt l).2 (fun i hi => HI.out i (by have := HN.out; omega) hi))
      go_wp2_with fail
      go_ret
      exact ⟨by rw [HE.out]; rfl, HO.out⟩

set_option maxHeartbeats 2000000 in
theorem rise_s (ao : Option Addr) (n c : Nat) (l : List ByteArray) (w : World) (hl : SlG w ao l) (hn : n = l.length) (hb : n ≤ 140737488351232) :
    Calls Tryz.prog 68 #[.slice ao n c, .func (.func 69) #[] #[]] w fun r w' => r = .returned (.bool (riseB blt l)) ∧ Only (fun _ => False) w w' := by
  have HL := Lib.hid hl
  have HN := Lib.hid hn
  clear hl hn
  go_enter Tryz.func68, Tryz.ntmps68
  go_wp2_with fail
  go_loopw [5] (fun i wr => ∃ k : Nat, (k ≤ n) ∧ i = .int .i64 ((k : Int) + 1) ∧ Hid (∀ j, j < k → j + 1 < l.length → blt (l.getD j default) (l.getD (j + 1) default) = true) ∧ Hid (Only (fun _ => False) w wr)) (fun i _ => n + 1 - (intOf i).toNat)
  case atStart => exact ⟨0, Nat.zero_le _, rfl, Lib.hid (fun j hj => by omega), Lib.hid (Only.refl _ _)⟩
  case round =>
    obtain ⟨k, hk, rfl, HI, HO⟩ := hrel
    by_cases hlt : k + 1 < n
    · obtain ⟨g, off, rfl, x0⟩ := (HL.out.keep HO.out).st (j := k) (by rw [← HN.out]; omega)
      obtain ⟨g2, off2, he, y0⟩ := (HL.out.keep HO.out).st (j := k + 1) (by rw [← HN.out]; omega)
      simp only [Option.some.injEq, Addr.mk.injEq, and_true] at he
      obtain ⟨rfl, rfl⟩ := he
      have HE := Lib.hid (rise_no (lt := blt) (l := l) (i := k) (by rw [← HN.out]; omega))
      have HX : Hid (blt (l.getD k default) (l.getD (k + 1) default) = true → ∀ j, j < k + 1 → j + 1 < l.length → blt (l.getD j default) (l.getD (j + 1) default) = true) := Lib.hid (fun h j hj h2 => by
        by_cases e : j = k
        · subst e; exact h
        · exact HI.out j (by omega) h2)
      generalize l.getD k default = a at *
      generalize l.getD (k + 1) default = b at *
      have HC := Lib.hid (fun W => less_any a b W)
      obtain ⟨q, hq⟩ : ∃ q, blt a b = q := ⟨_, rfl⟩
      rw [hq] at HC HE HX
      clear hq HI
      have hltI : (k : Int) + 1 < (n : Int) := by omega
      have h0 : (0 : Int) ≤ (k : Int) := by omega
      have h1 : (0 : Int) ≤ (k : Int) + 1 := by omega
      have h2 : (k : Int) < (n : Int) := by omega
      go_upto_region 4 with fail
      have hs1 : IntKind.i64.wrap (k : Int) = (k : Int) := IntWalk.i64_in _ (by omega)
      have hs2 : ((k : Int) + 1).toNat = k + 1 := by omega
      go_still_tail 10, (by kernel_rfl)
      change wpList _ _ _ _ _ wr.drew
      clear x0 y0 hs1 hs2
      go_wp2_with fail
      refine (HC.out _).mono ?_
      rintro e w1 ⟨rfl, rfl⟩
      have HO2 := Lib.hid HO.out.drew
      clear HO HC
      cases q with
      | true =>
        go_wp2_with fail
        go_roundw
        case rel => exact ⟨k + 1, by omega, by go_num, Lib.hid (HX.out (by first | rfl | trivial)), HO2⟩
        case measure => simp [intOf]; omega
      | false =>
        go_wp2_with fail
        go_ret
        exact ⟨by rw [HE.out (by first | rfl | trivial)]; rfl, HO2.out⟩
    · have hltI : ¬ (k : Int) + 1 < (n : Int) := by omega
      have HE : Hid (riseB blt l = true) := Lib.hid ((rise_iff blt l).2 (fun i hi => HI.out i (by have := HN.out; omega) hi))
      go_wp2_with fail
      go_ret
      exact ⟨by rw [HE.out]; rfl, HO.out⟩

set_option maxHeartbeats 2000000 in
theorem rise_m (ao : Option Addr) (n c : Nat) (l : List Ms) (w : World) (hl : SlG w ao l) (hn : n = l.length) (hb : n ≤ 140737488351232) :
    Calls Tryz.prog 95 #[.slice ao n c, .func (.func 94) #[] #[]] w fun r w' => r = .returned (.bool (riseB msgLt l)) ∧ Only (fun _ => False) w w' := by
  have HL := Lib.hid hl
  have HN := Lib.hid hn
  clear hl hn
  go_enter Tryz.func95, Tryz.ntmps95
  go_wp2_with fail
  go_loopw [5] (fun i wr => ∃ k : Nat, (k ≤ n) ∧ i = .int .i64 ((k : Int) + 1) ∧ Hid (∀ j, j < k → j + 1 < l.length → msgLt (l.getD j default) (l.getD (j + 1) default) = true) ∧ Hid (Only (fun _ => False) w wr)) (fun i _ => n + 1 - (intOf i).toNat)
  case atStart => exact ⟨0, Nat.zero_le _, rfl, Lib.hid (fun j hj => by omega), Lib.hid (Only.refl _ _)⟩
  case round =>
    obtain ⟨k, hk, rfl, HI, HO⟩ := hrel
    by_cases hlt : k + 1 < n
    · obtain ⟨g, off, rfl, x0, x1, x2, x3, x4, x5, x6⟩ := (HL.out.keep HO.out).ms (j := k) (by rw [← HN.out]; omega)
      obtain ⟨g2, off2, he, y0, y1, y2, y3, y4, y5, y6⟩ := (HL.out.keep HO.out).ms (j := k + 1) (by rw [← HN.out]; omega)
      simp only [Option.some.injEq, Addr.mk.injEq, and_true] at he
      obtain ⟨rfl, rfl⟩ := he
      have HE := Lib.hid (rise_no (lt := msgLt) (l := l) (i := k) (by rw [← HN.out]; omega))
      have HX : Hid (msgLt (l.getD k default) (l.getD (k + 1) default) = true → ∀ j, j < k + 1 → j + 1 < l.length → msgLt (l.getD j default) (l.getD (j + 1) default) = true) := Lib.hid (fun h j hj h2 => by
        by_cases e : j = k
        · subst e; exact h
        · exact HI.out j (by omega) h2)
      generalize l.getD k default = a at *
      generalize l.getD (k + 1) default = b at *
      have HC := Lib.hid (fun W => mlt_any a b W)
      obtain ⟨q, hq⟩ : ∃ q, msgLt a b = q := ⟨_, rfl⟩
      rw [hq] at HC HE HX
      clear hq HI
      have hltI : (k : Int) + 1 < (n : Int) := by omega
      have h0 : (0 : Int) ≤ (k : Int) := by omega
      have h1 : (0 : Int) ≤ (k : Int) + 1 := by omega
      have h2 : (k : Int) < (n : Int) := by omega
      go_upto_region 4 with fail
      have hs1 : IntKind.i64.wrap (k : Int) = (k : Int) := IntWalk.i64_in _ (by omega)
      have hs2 : ((k : Int) + 1).toNat = k + 1 := by omega
      go_still_tail 10, (by kernel_rfl)
      change wpList _ _ _ _ _ wr.drew
      clear x0 x1 x2 x3 x4 x5 x6 y0 y1 y2 y3 y4 y5 y6 hs1 hs2
      go_wp2_with fail
      refine (HC.out _).mono ?_
      rintro e w1 ⟨rfl, ho⟩
      have HO2 := Lib.hid (HO.out.drew.trans ho (fun _ _ h => h))
      clear ho HO HC
      cases q with
      | true =>
        go_wp2_with fail
        go_roundw
        case rel => exact ⟨k + 1, by omega, by go_num, Lib.hid (HX.out (by first | rfl | trivial)), HO2⟩
        case measure => simp [intOf]; omega
      | false =>
        go_wp2_with fail
        go_ret
        exact ⟨by rw [HE.out (by first | rfl | trivial)]; rfl, HO2.out⟩
    · have hltI : ¬ (k : Int) + 1 < (n : Int) := by omega
      have HE : Hid (riseB msgLt l = true) := Lib.hid ((rise_iff msgLt l).2 (fun i hi => HI.out i (by have := HN.out; omega) hi))
      go_wp2_with fail
      go_ret
      exact ⟨by rw [HE.out]; rfl, HO.out⟩

theorem all1_e (a : En) (p : Nat) (w : World) (hc : w.cell? ⟨p, 0, none⟩ = some (.func (.func 66) #[] #[])) :
    Calls Tryz.prog 88 #[env a, .pointer (some ⟨p, 0, none⟩)] w fun r w' => r = .returned (.bool (!entryB a)) ∧ Only (fun _ => False) w w' := by
  have HB := Lib.hid (fun o => (Only.refl (fun _ => False) w).alloc o)
  have hc2 : (w.alloc (.cells #[.string a.k, .bool a.h, .string a.v, .int .u64 a.x, .bool a.n, .string a.nv] 41)).cell? ⟨p, 0, none⟩ = some (.func (.func 66) #[] #[]) := (HB.out _).cellq hc
  have hca := efits_any a (w.alloc (.cells #[.string a.k, .bool a.h, .string a.v, .int .u64 a.x, .bool a.n, .string a.nv] 41))
  obtain ⟨q, hq⟩ : ∃ q, entryB a = q := ⟨_, rfl⟩
  rw [hq] at hca
  have HQ := Lib.hid hq
  have HCA := Lib.hid hca
  clear hc hq hca 
  go_enter Tryz.func88, Tryz.ntmps88
  go_wp2_with fail
  refine HCA.out.mono ?_
  rintro e w1 ⟨rfl, ho⟩
  have HO2 := Lib.hid ((HB.out _).trans ho (fun _ _ h => h))
  clear ho
  cases q
  all_goals
    go_wp2_with fail
    go_ret
    exact ⟨by rw [HQ.out]; rfl, HO2.out⟩
set_option maxHeartbeats 2000000 in
theorem xf_e (pf : En → Bool) (ao : Option Addr) (n c : Nat) (l : List En) (p : Nat) (w : World) (hl : SlG w ao l) (hn : n = l.length) (hb : n ≤ 140737488351232)
    (HF : ∀ W (a : En), Only (fun _ => False) w W → Calls Tryz.prog 88 #[env a, .pointer (some ⟨p, 0, none⟩)] W fun r w' => r = .returned (.bool (!pf a)) ∧ Only (fun _ => False) W w') :
    Calls Tryz.prog 100 #[.slice ao n c, .func (.func 88) #[] #[.pointer (some ⟨p, 0, none⟩)]] w (IdxP (l.all pf) w) := by
  obtain ⟨q0, hq0⟩ : ∃ q0, l.all pf = q0 := ⟨_, rfl⟩
  rw [hq0]
  have HQ0 := Lib.hid hq0
  clear hq0
  have HL := Lib.hid hl
  have HN := Lib.hid hn
  have HFF := Lib.hid HF
  clear hl hn HF
  go_enter Tryz.func100, Tryz.ntmps100
  go_wp2_with fail
  go_loopw [8] (fun i wr => ∃ k : Nat, (k ≤ n) ∧ i = .int .i64 (k : Int) ∧ Hid (∀ j, j < k → pf (l.getD j default) = true) ∧ Hid (Only (fun _ => False) w wr)) (fun i _ => n - (intOf i).toNat)
  case atStart => exact ⟨0, Nat.zero_le _, rfl, Lib.hid (fun j hj => by omega), Lib.hid (Only.refl _ _)⟩
  case round =>
    obtain ⟨k, hk, rfl, HI, HO⟩ := hrel
    by_cases hlt : k < n
    · obtain ⟨g, off, rfl, x0, x1, x2, x3, x4, x5⟩ := (HL.out.keep HO.out).en (j := k) (by rw [← HN.out]; omega)
      have HE : Hid (pf (l.getD k default) = false → q0 = false) := Lib.hid (fun h => by rw [← HQ0.out]; exact all_no (f := pf) (l := l) (i := k) (by rw [← HN.out]; omega) h)
      have HX : Hid (pf (l.getD k default) = true → ∀ j, j < k + 1 → pf (l.getD j default) = true) := Lib.hid (fun h j hj => by
        by_cases e : j = k
        · subst e; exact h
        · exact HI.out j (by omega))
      generalize l.getD k default = a at *
      have HC := Lib.hid (HFF.out wr a HO.out)
      obtain ⟨q, hq⟩ : ∃ q, pf a = q := ⟨_, rfl⟩
      rw [hq] at HC HE HX
      clear hq HI
      have hltI : (k : Int) < (n : Int) := by omega
      have h0 : (0 : Int) ≤ (k : Int) := by omega
      go_wp2_with fail
      refine HC.out.mono ?_
      rintro e w1 ⟨rfl, ho⟩
      have HO2 := Lib.hid (HO.out.trans ho (fun _ _ h => h))
      clear ho HO HC x0 x1 x2 x3 x4 x5
      cases q with
      | true =>
        simp only [Bool.not_true]
        go_wp2_with fail
        go_roundw
        case rel => exact ⟨k + 1, by omega, by go_num, Lib.hid (HX.out (by first | rfl | trivial)), HO2⟩
        case measure => simp [intOf]; omega
      | false =>
        simp only [Bool.not_false]
        go_wp2_with fail
        go_ret
        exact idx_yes _ (by omega) (HE.out (by first | rfl | trivial)) HO2.out
    · have hltI : ¬ (k : Int) < (n : Int) := by omega
      have HE : Hid (q0 = true) := Lib.hid (by rw [← HQ0.out]; exact all_iff.2 (fun i hi => HI.out i (by have := HN.out; omega)))
      go_wp2_with fail
      go_ret
      exact idx_no HE.out HO.out
theorem cf_e (pf : En → Bool) (ao : Option Addr) (n c : Nat) (l : List En) (p : Nat) (w : World) (hl : SlG w ao l) (hn : n = l.length) (hb : n ≤ 140737488351232)
    (HF : ∀ W (a : En), Only (fun _ => False) w W → Calls Tryz.prog 88 #[env a, .pointer (some ⟨p, 0, none⟩)] W fun r w' => r = .returned (.bool (!pf a)) ∧ Only (fun _ => False) W w') :
    Calls Tryz.prog 87 #[.slice ao n c, .func (.func 88) #[] #[.pointer (some ⟨p, 0, none⟩)]] w fun r w' => r = .returned (.bool (!l.all pf)) ∧ Only (fun _ => False) w w' := by
  have hx := xf_e pf ao n c l p w hl hn hb HF
  clear hl hn HF
  generalize l.all pf = q at *
  have HX := Lib.hid hx
  clear hx
  go_enter Tryz.func87, Tryz.ntmps87
  go_wp2_with fail
  refine HX.out.mono ?_
  rintro e w1 ⟨z, rfl, hz, ho⟩
  have HO := Lib.hid ho
  have HZ := Lib.hid hz
  clear ho hz HX
  by_cases h : 0 ≤ z
  · have HV := Lib.hid (HZ.out.1 h)
    have hd : decide (0 ≤ z) = true := by simpa using h
    go_wp2_with fail
    go_ret
    exact ⟨by rw [HV.out]; first | rfl | simp [hd], HO.out⟩
  · have HV : Hid (q = true) := Lib.hid (by
      cases e : q with
      | true => rfl
      | false => exact absurd (HZ.out.2 e) h)
    have hd : decide (0 ≤ z) = false := by simpa using h
    go_wp2_with fail
    go_ret
    exact ⟨by rw [HV.out]; first | rfl | simp [hd], HO.out⟩
theorem all_e (ao : Option Addr) (n c : Nat) (l : List En) (w : World) (hl : SlG w ao l) (hn : n = l.length) (hb : n ≤ 140737488351232) :
    Calls Tryz.prog 65 #[.slice ao n c, .func (.func 66) #[] #[]] w fun r w' => r = .returned (.bool (l.all entryB)) ∧ Only (fun _ => False) w w' := by
  have HB := Lib.hid (fun o => (Only.refl (fun _ => False) w).alloc o)
  have hx := (cf_e entryB ao n c l w.heap.size (w.alloc (.cells #[.func (.func 66) #[] #[]] 101)) (hl.keep (HB.out _)) hn hb
    (fun W a ho => all1_e a w.heap.size W (ho.cellq (by go_simp)) ))
  clear hl hn 
  generalize l.all entryB = q at *
  have HX := Lib.hid hx
  clear hx
  go_enter Tryz.func65, Tryz.ntmps65
  go_wp2_with fail
  refine HX.out.mono ?_
  rintro e w1 ⟨rfl, ho⟩
  have HO := Lib.hid ((HB.out _).trans ho (fun _ _ h => h))
  clear ho HX
  cases q
  all_goals
    go_wp2_with fail
    go_ret
    exact ⟨rfl, HO.out⟩

theorem all1_s (a : ByteArray) (p : Nat) (w : World) (hc : w.cell? ⟨p, 0, none⟩ = some (.func (.func 71) #[] #[])) :
    Calls Tryz.prog 93 #[.string a, .pointer (some ⟨p, 0, none⟩)] w fun r w' => r = .returned (.bool (!(fun s => decide (s.size ≤ 256)) a)) ∧ Only (fun _ => False) w w' := by
  have HB := Lib.hid (fun o => (Only.refl (fun _ => False) w).alloc o)
  have hc2 : w.cell? ⟨p, 0, none⟩ = some (.func (.func 71) #[] #[]) := hc
  have hca := keyfits_any a w
  obtain ⟨q, hq⟩ : ∃ q, (fun s => decide (s.size ≤ 256)) a = q := ⟨_, rfl⟩
  simp only [] at hq; rw [hq] at hca
  have HQ := Lib.hid hq
  have HCA := Lib.hid hca
  clear hc hq hca 
  go_enter Tryz.func93, Tryz.ntmps93
  go_wp2_with fail
  refine HCA.out.mono ?_
  rintro e w1 ⟨rfl, rfl⟩
  have HO2 := Lib.hid (Only.refl (fun _ => False) w)
  cases q
  all_goals
    go_wp2_with fail
    go_ret
    exact ⟨by rw [HQ.out]; rfl, HO2.out⟩
set_option maxHeartbeats 2000000 in
theorem xf_s (pf : ByteArray → Bool) (ao : Option Addr) (n c : Nat) (l : List ByteArray) (p : Nat) (w : World) (hl : SlG w ao l) (hn : n = l.length) (hb : n ≤ 140737488351232)
    (HF : ∀ W (a : ByteArray), Only (fun _ => False) w W → Calls Tryz.prog 93 #[.string a, .pointer (some ⟨p, 0, none⟩)] W fun r w' => r = .returned (.bool (!pf a)) ∧ Only (fun _ => False) W w') :
    Calls Tryz.prog 101 #[.slice ao n c, .func (.func 93) #[] #[.pointer (some ⟨p, 0, none⟩)]] w (IdxP (l.all pf) w) := by
  obtain ⟨q0, hq0⟩ : ∃ q0, l.all pf = q0 := ⟨_, rfl⟩
  rw [hq0]
  have HQ0 := Lib.hid hq0
  clear hq0
  have HL := Lib.hid hl
  have HN := Lib.hid hn
  have HFF := Lib.hid HF
  clear hl hn HF
  go_enter Tryz.func101, Tryz.ntmps101
  go_wp2_with fail
  go_loopw [8] (fun i wr => ∃ k : Nat, (k ≤ n) ∧ i = .int .i64 (k : Int) ∧ Hid (∀ j, j < k → pf (l.getD j default) = true) ∧ Hid (Only (fun _ => False) w wr)) (fun i _ => n - (intOf i).toNat)
  case atStart => exact ⟨0, Nat.zero_le _, rfl, Lib.hid (fun j hj => by omega), Lib.hid (Only.refl _ _)⟩
  case round =>
    obtain ⟨k, hk, rfl, HI, HO⟩ := hrel
    by_cases hlt : k < n
    · obtain ⟨g, off, rfl, x0⟩ := (HL.out.keep HO.out).st (j := k) (by rw [← HN.out]; omega)
      have HE : Hid (pf (l.getD k default) = false → q0 = false) := Lib.hid (fun h => by rw [← HQ0.out]; exact all_no (f := pf) (l := l) (i := k) (by rw [← HN.out]; omega) h)
      have HX : Hid (pf (l.getD k default) = true → ∀ j, j < k + 1 → pf (l.getD j default) = true) := Lib.hid (fun h j hj => by
        by_cases e : j = k
        · subst e; exact h
        · exact HI.out j (by omega))
      generalize l.getD k default = a at *
      have HC := Lib.hid (HFF.out wr a HO.out)
      obtain ⟨q, hq⟩ : ∃ q, pf a = q := ⟨_, rfl⟩
      rw [hq] at HC HE HX
      clear hq HI
      have hltI : (k : Int) < (n : Int) := by omega
      have h0 : (0 : Int) ≤ (k : Int) := by omega
      go_wp2_with fail
      refine HC.out.mono ?_
      rintro e w1 ⟨rfl, ho⟩
      have HO2 := Lib.hid (HO.out.trans ho (fun _ _ h => h))
      clear ho HO HC x0
      cases q with
      | true =>
        simp only [Bool.not_true]
        go_wp2_with fail
        go_roundw
        case rel => exact ⟨k + 1, by omega, by go_num, Lib.hid (HX.out (by first | rfl | trivial)), HO2⟩
        case measure => simp [intOf]; omega
      | false =>
        simp only [Bool.not_false]
        go_wp2_with fail
        go_ret
        exact idx_yes _ (by omega) (HE.out (by first | rfl | trivial)) HO2.out
    · have hltI : ¬ (k : Int) < (n : Int) := by omega
      have HE : Hid (q0 = true) := Lib.hid (by rw [← HQ0.out]; exact all_iff.2 (fun i hi => HI.out i (by have := HN.out; omega)))
      go_wp2_with fail
      go_ret
      exact idx_no HE.out HO.out
theorem cf_s (pf : ByteArray → Bool) (ao : Option Addr) (n c : Nat) (l : List ByteArray) (p : Nat) (w : World) (hl : SlG w ao l) (hn : n = l.length) (hb : n ≤ 140737488351232)
    (HF : ∀ W (a : ByteArray), Only (fun _ => False) w W → Calls Tryz.prog 93 #[.string a, .pointer (some ⟨p, 0, none⟩)] W fun r w' => r = .returned (.bool (!pf a)) ∧ Only (fun _ => False) W w') :
    Calls Tryz.prog 92 #[.slice ao n c, .func (.func 93) #[] #[.pointer (some ⟨p, 0, none⟩)]] w fun r w' => r = .returned (.bool (!l.all pf)) ∧ Only (fun _ => False) w w' := by
  have hx := xf_s pf ao n c l p w hl hn hb HF
  clear hl hn HF
  generalize l.all pf = q at *
  have HX := Lib.hid hx
  clear hx
  go_enter Tryz.func92, Tryz.ntmps92
  go_wp2_with fail
  refine HX.out.mono ?_
  rintro e w1 ⟨z, rfl, hz, ho⟩
  have HO := Lib.hid ho
  have HZ := Lib.hid hz
  clear ho hz HX
  by_cases h : 0 ≤ z
  · have HV := Lib.hid (HZ.out.1 h)
    have hd : decide (0 ≤ z) = true := by simpa using h
    go_wp2_with fail
    go_ret
    exact ⟨by rw [HV.out]; first | rfl | simp [hd], HO.out⟩
  · have HV : Hid (q = true) := Lib.hid (by
      cases e : q with
      | true => rfl
      | false => exact absurd (HZ.out.2 e) h)
    have hd : decide (0 ≤ z) = false := by simpa using h
    go_wp2_with fail
    go_ret
    exact ⟨by rw [HV.out]; first | rfl | simp [hd], HO.out⟩
theorem all_s (ao : Option Addr) (n c : Nat) (l : List ByteArray) (w : World) (hl : SlG w ao l) (hn : n = l.length) (hb : n ≤ 140737488351232) :
    Calls Tryz.prog 70 #[.slice ao n c, .func (.func 71) #[] #[]] w fun r w' => r = .returned (.bool (l.all (fun s => decide (s.size ≤ 256)))) ∧ Only (fun _ => False) w w' := by
  have HB := Lib.hid (fun o => (Only.refl (fun _ => False) w).alloc o)
  have hx := (cf_s (fun s => decide (s.size ≤ 256)) ao n c l w.heap.size (w.alloc (.cells #[.func (.func 71) #[] #[]] 88)) (hl.keep (HB.out _)) hn hb
    (fun W a ho => all1_s a w.heap.size W (ho.cellq (by go_simp)) ))
  clear hl hn 
  generalize l.all (fun s => decide (s.size ≤ 256)) = q at *
  have HX := Lib.hid hx
  clear hx
  go_enter Tryz.func70, Tryz.ntmps70
  go_wp2_with fail
  refine HX.out.mono ?_
  rintro e w1 ⟨rfl, ho⟩
  have HO := Lib.hid ((HB.out _).trans ho (fun _ _ h => h))
  clear ho HX
  cases q
  all_goals
    go_wp2_with fail
    go_ret
    exact ⟨rfl, HO.out⟩

theorem all1_m (pn pk : Nat) (pf : Ms → Bool) (a : Ms) (p : Nat) (w : World) (hc : w.cell? ⟨p, 0, none⟩ = some (.func (.func 97) #[] #[.pointer (some ⟨pn, 0, none⟩), .pointer (some ⟨pk, 0, none⟩)])) (HF : ∀ W (a : Ms), Only (fun _ => False) w W → Calls Tryz.prog 97 #[msv a, .pointer (some ⟨pn, 0, none⟩), .pointer (some ⟨pk, 0, none⟩)] W fun r w2 => r = .returned (.bool (pf a)) ∧ Only (fun _ => False) W w2) :
    Calls Tryz.prog 103 #[msv a, .pointer (some ⟨p, 0, none⟩)] w fun r w' => r = .returned (.bool (!pf a)) ∧ Only (fun _ => False) w w' := by
  have HB := Lib.hid (fun o => (Only.refl (fun _ => False) w).alloc o)
  have HFF := Lib.hid HF
  clear HF
  have hc2 : (w.alloc (.cells #[.int .u64 a.sq, .int .i64 a.K, .string a.k, .int .u64 a.x, .string a.v, .int .i64 a.off, .int .u64 a.num] 80)).cell? ⟨p, 0, none⟩ = some (.func (.func 97) #[] #[.pointer (some ⟨pn, 0, none⟩), .pointer (some ⟨pk, 0, none⟩)]) := (HB.out _).cellq hc
  have hca := HFF.out (w.alloc (.cells #[.int .u64 a.sq, .int .i64 a.K, .string a.k, .int .u64 a.x, .string a.v, .int .i64 a.off, .int .u64 a.num] 80)) a (HB.out _)
  obtain ⟨q, hq⟩ : ∃ q, pf a = q := ⟨_, rfl⟩
  rw [hq] at hca
  have HQ := Lib.hid hq
  have HCA := Lib.hid hca
  clear hc hq hca HFF
  go_enter Tryz.func103, Tryz.ntmps103
  go_wp2_with fail
  refine HCA.out.mono ?_
  rintro e w1 ⟨rfl, ho⟩
  have HO2 := Lib.hid ((HB.out _).trans ho (fun _ _ h => h))
  clear ho
  cases q
  all_goals
    go_wp2_with fail
    go_ret
    exact ⟨by rw [HQ.out]; rfl, HO2.out⟩
set_option maxHeartbeats 2000000 in
theorem xf_m (pf : Ms → Bool) (ao : Option Addr) (n c : Nat) (l : List Ms) (p : Nat) (w : World) (hl : SlG w ao l) (hn : n = l.length) (hb : n ≤ 140737488351232)
    (HF : ∀ W (a : Ms), Only (fun _ => False) w W → Calls Tryz.prog 103 #[msv a, .pointer (some ⟨p, 0, none⟩)] W fun r w' => r = .returned (.bool (!pf a)) ∧ Only (fun _ => False) W w') :
    Calls Tryz.prog 105 #[.slice ao n c, .func (.func 103) #[] #[.pointer (some ⟨p, 0, none⟩)]] w (IdxP (l.all pf) w) := by
  obtain ⟨q0, hq0⟩ : ∃ q0, l.all pf = q0 := ⟨_, rfl⟩
  rw [hq0]
  have HQ0 := Lib.hid hq0
  clear hq0
  have HL := Lib.hid hl
  have HN := Lib.hid hn
  have HFF := Lib.hid HF
  clear hl hn HF
  go_enter Tryz.func105, Tryz.ntmps105
  go_wp2_with fail
  go_loopw [8] (fun i wr => ∃ k : Nat, (k ≤ n) ∧ i = .int .i64 (k : Int) ∧ Hid (∀ j, j < k → pf (l.getD j default) = true) ∧ Hid (Only (fun _ => False) w wr)) (fun i _ => n - (intOf i).toNat)
  case atStart => exact ⟨0, Nat.zero_le _, rfl, Lib.hid (fun j hj => by omega), Lib.hid (Only.refl _ _)⟩
  case round =>
    obtain ⟨k, hk, rfl, HI, HO⟩ := hrel
    by_cases hlt : k < n
    · obtain ⟨g, off, rfl, x0, x1, x2, x3, x4, x5, x6⟩ := (HL.out.keep HO.out).ms (j := k) (by rw [← HN.out]; omega)
      have HE : Hid (pf (l.getD k default) = false → q0 = false) := Lib.hid (fun h => by rw [← HQ0.out]; exact all_no (f := pf) (l := l) (i := k) (by rw [← HN.out]; omega) h)
      have HX : Hid (pf (l.getD k default) = true → ∀ j, j < k + 1 → pf (l.getD j default) = true) := Lib.hid (fun h j hj => by
        by_cases e : j = k
        · subst e; exact h
        · exact HI.out j (by omega))
      generalize l.getD k default = a at *
      have HC := Lib.hid (HFF.out wr a HO.out)
      obtain ⟨q, hq⟩ : ∃ q, pf a = q := ⟨_, rfl⟩
      rw [hq] at HC HE HX
      clear hq HI
      have hltI : (k : Int) < (n : Int) := by omega
      have h0 : (0 : Int) ≤ (k : Int) := by omega
      go_wp2_with fail
      refine HC.out.mono ?_
      rintro e w1 ⟨rfl, ho⟩
      have HO2 := Lib.hid (HO.out.trans ho (fun _ _ h => h))
      clear ho HO HC x0 x1 x2 x3 x4 x5 x6
      cases q with
      | true =>
        simp only [Bool.not_true]
        go_wp2_with fail
        go_roundw
        case rel => exact ⟨k + 1, by omega, by go_num, Lib.hid (HX.out (by first | rfl | trivial)), HO2⟩
        case measure => simp [intOf]; omega
      | false =>
        simp only [Bool.not_false]
        go_wp2_with fail
        go_ret
        exact idx_yes _ (by omega) (HE.out (by first | rfl | trivial)) HO2.out
    · have hltI : ¬ (k : Int) < (n : Int) := by omega
      have HE : Hid (q0 = true) := Lib.hid (by rw [← HQ0.out]; exact all_iff.2 (fun i hi => HI.out i (by have := HN.out; omega)))
      go_wp2_with fail
      go_ret
      exact idx_no HE.out HO.out
theorem cf_m (pf : Ms → Bool) (ao : Option Addr) (n c : Nat) (l : List Ms) (p : Nat) (w : World) (hl : SlG w ao l) (hn : n = l.length) (hb : n ≤ 140737488351232)
    (HF : ∀ W (a : Ms), Only (fun _ => False) w W → Calls Tryz.prog 103 #[msv a, .pointer (some ⟨p, 0, none⟩)] W fun r w' => r = .returned (.bool (!pf a)) ∧ Only (fun _ => False) W w') :
    Calls Tryz.prog 102 #[.slice ao n c, .func (.func 103) #[] #[.pointer (some ⟨p, 0, none⟩)]] w fun r w' => r = .returned (.bool (!l.all pf)) ∧ Only (fun _ => False) w w' := by
  have hx := xf_m pf ao n c l p w hl hn hb HF
  clear hl hn HF
  generalize l.all pf = q at *
  have HX := Lib.hid hx
  clear hx
  go_enter Tryz.func102, Tryz.ntmps102
  go_wp2_with fail
  refine HX.out.mono ?_
  rintro e w1 ⟨z, rfl, hz, ho⟩
  have HO := Lib.hid ho
  have HZ := Lib.hid hz
  clear ho hz HX
  by_cases h : 0 ≤ z
  · have HV := Lib.hid (HZ.out.1 h)
    have hd : decide (0 ≤ z) = true := by simpa using h
    go_wp2_with fail
    go_ret
    exact ⟨by rw [HV.out]; first | rfl | simp [hd], HO.out⟩
  · have HV : Hid (q = true) := Lib.hid (by
      cases e : q with
      | true => rfl
      | false => exact absurd (HZ.out.2 e) h)
    have hd : decide (0 ≤ z) = false := by simpa using h
    go_wp2_with fail
    go_ret
    exact ⟨by rw [HV.out]; first | rfl | simp [hd], HO.out⟩
theorem all_m (pn pk : Nat) (pf : Ms → Bool) (ao : Option Addr) (n c : Nat) (l : List Ms) (w : World) (hl : SlG w ao l) (hn : n = l.length) (hb : n ≤ 140737488351232) (HF : ∀ W (a : Ms), Only (fun _ => False) w W → Calls Tryz.prog 97 #[msv a, .pointer (some ⟨pn, 0, none⟩), .pointer (some ⟨pk, 0, none⟩)] W fun r w2 => r = .returned (.bool (pf a)) ∧ Only (fun _ => False) W w2) :
    Calls Tryz.prog 96 #[.slice ao n c, .func (.func 97) #[] #[.pointer (some ⟨pn, 0, none⟩), .pointer (some ⟨pk, 0, none⟩)]] w fun r w' => r = .returned (.bool (l.all pf)) ∧ Only (fun _ => False) w w' := by
  have HB := Lib.hid (fun o => (Only.refl (fun _ => False) w).alloc o)
  have hx := (cf_m pf ao n c l w.heap.size (w.alloc (.cells #[.func (.func 97) #[] #[.pointer (some ⟨pn, 0, none⟩), .pointer (some ⟨pk, 0, none⟩)]] 121)) (hl.keep (HB.out _)) hn hb
    (fun W a ho => all1_m pn pk pf a w.heap.size W (ho.cellq (by go_simp)) (fun W2 a ho2 => HF W2 a (((HB.out _).trans ho (fun _ _ h => h)).trans ho2 (fun _ _ h => h)))))
  clear hl hn HF
  generalize l.all pf = q at *
  have HX := Lib.hid hx
  clear hx
  go_enter Tryz.func96, Tryz.ntmps96
  go_wp2_with fail
  refine HX.out.mono ?_
  rintro e w1 ⟨rfl, ho⟩
  have HO := Lib.hid ((HB.out _).trans ho (fun _ _ h => h))
  clear ho HX
  cases q
  all_goals
    go_wp2_with fail
    go_ret
    exact ⟨rfl, HO.out⟩

end Go.Proofs.YtookbmpaoljelaaGreat

namespace Go.Proofs.YtookbmpaoljelaaGreat
open Go Go.RowKit
set_option linter.unusedVariables false
set_option linter.unusedSimpArgs false
set_option maxRecDepth 100000
set_option linter.unusedSimpArgs false
set_option maxRecDepth 100000

/-- Where a function stands that has a node in a block of its own. -/
structure NbAt (w W : World) (b : Nat) (h : Nh) (n : Nd) : Prop where
  blk : W.heap[b]? = some (.cells (ndc h n) 30 (0, 0))
  nd : NdAt W h n
  only : Only (fun _ => False) w W
theorem NbAt.keep {w W W' : World} {b : Nat} {h : Nh} {n : Nd} (H : NbAt w W b h n) (ho : Only (fun _ => False) W W') : NbAt w W' b h n := ⟨qkeep ho H.blk, H.nd.keep ho, H.only.trans ho (fun _ _ h => h)⟩
theorem NbAt.start {w : World} {h : Nh} {n : Nd} (H : NdAt w h n) : NbAt w (w.alloc (.cells (ndc h n) 30)) w.heap.size h n :=
  ⟨heap_alloc_new w _, H.keep ((Only.refl _ w).alloc _), (Only.refl _ w).alloc _⟩
theorem NbAt.cells {w W : World} {b : Nat} {h : Nh} {n : Nd} (H : NbAt w W b h n) : W.cell? ⟨b, 0, none⟩ = some (.bool n.leaf) ∧ W.cell? ⟨b, 1, none⟩ = some (.slice h.eo n.es.length h.ec) ∧ W.cell? ⟨b, 2, none⟩ = some (.slice h.po n.ps.length h.pc) ∧
    W.cell? ⟨b, 3, none⟩ = some (.slice h.ko n.ks.length h.kc) ∧ W.cell? ⟨b, 4, none⟩ = some (.slice h.bo n.bs.length h.bc) := by
  have := H.blk
  simp [World.cell?, this]

theorem route_step {ps : List ByteArray} {k : Nat} (h : k < ps.length) (key : ByteArray) : routeN (ps.take (k + 1)) key = routeN (ps.take k) key + if ble (ps.getD k default) key = true then 1 else 0 := by
  have e1 : ps.take (k + 1) = ps.take k ++ [ps.getD k default] := by
    rw [List.take_succ_eq_append_getElem h]
    simp [h]
  unfold routeN
  rw [e1, List.filter_append, List.length_append]
  generalize ps.getD k default = p
  cases hb : ble p key with
  | true => rw [List.filter_cons_of_pos (by simp [hb])]; rfl
  | false => rw [List.filter_cons_of_neg (by simp [hb])]; rfl
set_option maxHeartbeats 2000000 in
theorem route_any (h : Nh) (n : Nd) (key : ByteArray) (w : World) (H : NdAt w h n) :
    Calls Tryz.prog 12 #[ndv h n, .string key] w fun r w' => r = .returned (.int .i64 (routeN n.ps key : Int)) ∧ Only (fun _ => False) w w' := by
  have HS := Lib.hid (NbAt.start H)
  clear H
  obtain ⟨c0, c1, c2, c3, c4⟩ := HS.out.cells
  obtain ⟨m, hm⟩ : ∃ m, m = n.ps.length := ⟨_, rfl⟩
  have HM := Lib.hid hm
  have hb : m ≤ 140737488351232 := by rw [hm]; exact HS.out.nd.lp
  rw [← hm] at c2
  clear hm
  go_enter Tryz.func12, Tryz.ntmps12
  go_wp2_with fail
  go_loopw [5, 11] (fun kid i wr => ∃ k : Nat, (k ≤ m) ∧ i = .int .i64 (k : Int) ∧ Hid (kid = .int .i64 (routeN (n.ps.take k) key : Int)) ∧ Hid (NbAt w wr w.heap.size h n)) (fun _ i _ => m - (intOf i).toNat)
  case atStart => exact ⟨0, Nat.zero_le _, rfl, Lib.hid rfl, HS⟩
  case round =>
    clear c0 c1 c2 c3 c4
    obtain ⟨k, hk, rfl, HR, HO⟩ := hrel
    obtain ⟨r, hr⟩ : ∃ r : Nat, routeN (n.ps.take k) key = r := ⟨_, rfl⟩
    have HRK := Lib.hid hr
    rw [hr] at HR
    obtain rfl := HR.out
    have hrb : r ≤ 140737488351232 := by
      rw [← hr]
      refine Nat.le_trans (route_le _ _) ?_
      rw [List.length_take]
      omega
    clear HR hr
    have hr0 : (0 : Int) ≤ (r : Int) := by omega
    by_cases hlt : k < m
    · obtain ⟨g, off, he, y⟩ := HO.out.nd.p.st (j := k) (by rw [← HM.out]; exact hlt)
      have HST := Lib.hid (route_step (key := key) (by rw [← HM.out]; exact hlt : k < n.ps.length))
      have HE := Lib.hid he
      rw [he]
      clear he
      generalize n.ps.getD k default = p at *
      rw [HRK.out] at HST
      obtain ⟨q, hq⟩ : ∃ q, Op.bytesLess p.toList key.toList = q := ⟨_, rfl⟩
      obtain ⟨q2, hq2⟩ : ∃ q2, (p.toList == key.toList) = q2 := ⟨_, rfl⟩
      have HQ : Hid (ble p key = (q || q2)) := Lib.hid (by unfold ble; rw [hq, hq2])
      rw [HQ.out] at HST
      have hltI : (k : Int) < (m : Int) := by omega
      have h0 : (0 : Int) ≤ (k : Int) := by omega
      cases q <;> cases q2
      all_goals
        go_wp2_with fail
        go_roundw
        case rel => exact ⟨k + 1, by omega, by go_num, Lib.hid (by rw [HST.out]; first | rfl | simp), HO⟩
        case measure => simp [intOf]; omega
    · have hltI : ¬ (k : Int) < (m : Int) := by omega
      have HE : Hid (routeN n.ps key = r) := Lib.hid (by rw [← HRK.out, List.take_of_length_le (by have := HM.out; omega)])
      go_wp2_with fail
      go_ret
      exact ⟨by rw [HE.out]; rfl, HO.out.only⟩

/-- How many messages wait, as the numbers go round. -/
def waitW (bs : List (List Ms)) : Int := bs.foldl (fun a l => wrap64 (a + (l.length : Int))) 0
theorem waitW_step {bs : List (List Ms)} {k : Nat} (h : k < bs.length) : waitW (bs.take (k + 1)) = wrap64 (waitW (bs.take k) + ((bs.getD k default).length : Int)) := by
  have e1 : bs.take (k + 1) = bs.take k ++ [bs.getD k default] := by
    rw [List.take_succ_eq_append_getElem h]
    simp [h]
  unfold waitW
  rw [e1, List.foldl_append]
  rfl
theorem waitW_from (bs : List (List Ms)) : ∀ a : Nat, a + waitN bs ≤ 9223372036854775807 → bs.foldl (fun a l => wrap64 (a + (l.length : Int))) (a : Int) = ((a + waitN bs : Nat) : Int) := by
  induction bs with
  | nil => intro a _; simp [waitN]
  | cons l r ih =>
    intro a h
    have e : waitN (l :: r) = l.length + waitN r := by simp [waitN]
    rw [e] at h ⊢
    rw [List.foldl_cons, show wrap64 ((a : Int) + (l.length : Int)) = ((a + l.length : Nat) : Int) by unfold wrap64; omega, ih (a + l.length) (by omega)]
    congr 1
    omega
theorem waitW_eq {bs : List (List Ms)} (h : waitN bs ≤ 9223372036854775807) : waitW bs = (waitN bs : Int) := by
  have := waitW_from bs 0 (by omega)
  rw [Nat.zero_add] at this
  exact this
theorem waitN_le {bs : List (List Ms)} {m : Nat} (h : ∀ j, j < bs.length → (bs.getD j default).length ≤ m) : waitN bs ≤ bs.length * m := by
  induction bs with
  | nil => simp [waitN]
  | cons l r ih =>
    have h0 := h 0 (by simp)
    have h1 := ih (fun j hj => h (j + 1) (by simpa using hj))
    have e : waitN (l :: r) = l.length + waitN r := by simp [waitN]
    rw [e, List.length_cons, Nat.succ_mul]
    have h0 : l.length ≤ m := h0
    omega
set_option maxHeartbeats 2000000 in
theorem waiting_any (h : Nh) (n : Nd) (w : World) (H : NdAt w h n) :
    Calls Tryz.prog 72 #[ndv h n] w fun r w' => r = .returned (.int .i64 (waitW n.bs)) ∧ Only (fun _ => False) w w' := by
  have HS := Lib.hid (NbAt.start H)
  clear H
  obtain ⟨c0, c1, c2, c3, c4⟩ := HS.out.cells
  obtain ⟨m, hm⟩ : ∃ m, m = n.bs.length := ⟨_, rfl⟩
  have HM := Lib.hid hm
  have hb : m ≤ 140737488351232 := by rw [hm]; exact HS.out.nd.lb
  rw [← hm] at c4
  clear hm
  go_enter Tryz.func72, Tryz.ntmps72
  go_wp2_with fail
  go_loopw [3, 9] (fun cnt i wr => ∃ k : Nat, (k ≤ m) ∧ i = .int .i64 (k : Int) ∧ Hid (cnt = .int .i64 (waitW (n.bs.take k))) ∧ Hid (NbAt w wr w.heap.size h n)) (fun _ i _ => m - (intOf i).toNat)
  case atStart => exact ⟨0, Nat.zero_le _, rfl, Lib.hid rfl, HS⟩
  case round =>
    clear c0 c1 c2 c3 c4
    obtain ⟨k, hk, rfl, HR, HO⟩ := hrel
    obtain ⟨r, hr⟩ : ∃ r : Int, waitW (n.bs.take k) = r := ⟨_, rfl⟩
    have HRK := Lib.hid hr
    rw [hr] at HR
    obtain rfl := HR.out
    clear HR hr
    by_cases hlt : k < m
    · obtain ⟨g, off, ao, c, he, y, _, _⟩ := HO.out.nd.b k (by rw [← HM.out]; exact hlt)
      have HST := Lib.hid (waitW_step (by rw [← HM.out]; exact hlt : k < n.bs.length))
      have HE := Lib.hid he
      rw [he]
      clear he
      generalize n.bs.getD k default = l at *
      rw [HRK.out] at HST
      obtain ⟨q, hq⟩ : ∃ q, q = l.length := ⟨_, rfl⟩
      rw [← hq] at y HST
      clear hq
      have hltI : (k : Int) < (m : Int) := by omega
      have h0 : (0 : Int) ≤ (k : Int) := by omega
      go_wp2_with fail
      go_roundw
      case rel => exact ⟨k + 1, by omega, by go_num, Lib.hid (by rw [HST.out]), HO⟩
      case measure => simp [intOf]; omega
    · have hltI : ¬ (k : Int) < (m : Int) := by omega
      have HE : Hid (waitW n.bs = r) := Lib.hid (by rw [← HRK.out, List.take_of_length_le (by have := HM.out; omega)])
      go_wp2_with fail
      go_ret
      exact ⟨by rw [HE.out]; rfl, HO.out.only⟩

theorem contains_no {l : List Int} {i : Nat} (hi : i < l.length) (h : l.getD i default = 0) : l.contains 0 = true := by
  rw [List.contains_iff_mem]
  rw [← h, show l.getD i default = l[i] by simp [hi]]
  exact List.getElem_mem hi
theorem contains_yes {l : List Int} (h : ∀ i, i < l.length → l.getD i default ≠ 0) : l.contains 0 = false := by
  rw [← Bool.not_eq_true, List.contains_iff_mem]
  intro hm
  obtain ⟨i, hi, e⟩ := List.mem_iff_getElem.1 hm
  exact h i hi (by rw [show l.getD i default = l[i] by simp [hi]]; exact e)
set_option maxHeartbeats 2000000 in
theorem idx_any (ao : Option Addr) (n c : Nat) (l : List Int) (w : World) (hl : SlG w ao l) (hn : n = l.length) (hb : n ≤ 140737488351232) :
    Calls Tryz.prog 90 #[.slice ao n c, .int .u64 0] w (IdxP (!l.contains 0) w) := by
  obtain ⟨q0, hq0⟩ : ∃ q0, (!l.contains 0) = q0 := ⟨_, rfl⟩
  rw [hq0]
  have HQ0 := Lib.hid hq0
  clear hq0
  have HL := Lib.hid hl
  have HN := Lib.hid hn
  clear hl hn
  go_enter Tryz.func90, Tryz.ntmps90
  go_wp2_with fail
  go_loop [8] (fun i => ∃ k : Nat, (k ≤ n) ∧ i = .int .i64 (k : Int) ∧ Hid (∀ j, j < k → l.getD j default ≠ 0)) (fun i => n - (intOf i).toNat)
  case atStart => exact ⟨0, Nat.zero_le _, rfl, Lib.hid (fun j hj => by omega)⟩
  case round =>
    obtain ⟨k, hk, rfl, HI⟩ := hrel
    by_cases hlt : k < n
    · obtain ⟨g, off, rfl, x0⟩ := HL.out.nu (j := k) (by rw [← HN.out]; omega)
      have HE : Hid (l.getD k default = 0 → q0 = false) := Lib.hid (fun h => by rw [← HQ0.out, contains_no (by rw [← HN.out]; exact hlt) h]; rfl)
      have HX : Hid (l.getD k default ≠ 0 → ∀ j, j < k + 1 → l.getD j default ≠ 0) := Lib.hid (fun h j hj => by
        by_cases e : j = k
        · subst e; exact h
        · exact HI.out j (by omega))
      generalize l.getD k default = a at *
      have hltI : (k : Int) < (n : Int) := by omega
      have h0 : (0 : Int) ≤ (k : Int) := by omega
      by_cases ha : a = 0
      · subst ha
        have HV := Lib.hid (HE.out rfl)
        clear HE HX HI
        go_wp2_with fail
        go_ret
        exact idx_yes _ (by omega) HV.out (Only.refl _ _)
      · have HV := Lib.hid (HX.out ha)
        have hb1 : ((0 : Int) == a) = false := by rw [beq_eq_false_iff_ne]; exact fun e => ha e.symm
        have hb2 : (a == (0 : Int)) = false := by rw [beq_eq_false_iff_ne]; exact ha
        have hb3 : ¬ (0 : Int) = a := fun e => ha e.symm
        clear HE HX HI
        go_wp2_with fail
        go_round
        case rel => exact ⟨k + 1, by omega, by go_num, HV⟩
        case measure => simp [intOf]; omega
    · have hltI : ¬ (k : Int) < (n : Int) := by omega
      have HE : Hid (q0 = true) := Lib.hid (by rw [← HQ0.out, contains_yes (fun i hi => HI.out i (by have := HN.out; omega))]; rfl)
      go_wp2_with fail
      go_ret
      exact idx_no HE.out (Only.refl _ _)
theorem contains_any (ao : Option Addr) (n c : Nat) (l : List Int) (w : World) (hl : SlG w ao l) (hn : n = l.length) (hb : n ≤ 140737488351232) :
    Calls Tryz.prog 67 #[.slice ao n c, .int .u64 0] w fun r w' => r = .returned (.bool (l.contains 0)) ∧ Only (fun _ => False) w w' := by
  have hx := idx_any ao n c l w hl hn hb
  clear hl hn
  generalize l.contains 0 = q at *
  have HX := Lib.hid hx
  clear hx
  go_enter Tryz.func67, Tryz.ntmps67
  go_wp2_with fail
  refine HX.out.mono ?_
  rintro e w1 ⟨z, rfl, hz, ho⟩
  have HO := Lib.hid ho
  have HZ := Lib.hid hz
  clear ho hz HX
  by_cases h : 0 ≤ z
  · have HV : Hid (q = true) := Lib.hid (by simpa using HZ.out.1 h)
    have hd : decide (0 ≤ z) = true := by simpa using h
    go_wp2_with fail
    go_ret
    exact ⟨by rw [HV.out]; first | rfl | simp [hd], HO.out⟩
  · have HV : Hid (q = false) := Lib.hid (by
      cases e : q with
      | true => exact absurd (HZ.out.2 (by rw [e]; rfl)) h
      | false => rfl)
    have hd : decide (0 ≤ z) = false := by simpa using h
    go_wp2_with fail
    go_ret
    exact ⟨by rw [HV.out]; first | rfl | simp [hd], HO.out⟩

end Go.Proofs.YtookbmpaoljelaaGreat

namespace Go.Proofs.YtookbmpaoljelaaGreat
open Go Go.RowKit
set_option linter.unusedVariables false
set_option linter.unusedSimpArgs false
set_option maxRecDepth 100000
set_option linter.unusedSimpArgs false
set_option maxRecDepth 100000

theorem qgone_any (e : En) (w : World) : Calls Tryz.prog 99 #[env e] w fun r w' => r = .returned (.bool (goneE e)) ∧ Only (fun _ => False) w w' := by
  have HB := Lib.hid (fun o => (Only.refl (fun _ => False) w).alloc o)
  obtain ⟨k, h, v, x, n, nv⟩ := e
  cases h <;> by_cases hx : x = 0
  all_goals
    have hb : (x == 0) = decide (x = 0) := by rw [Bool.eq_iff_iff]; simp
    simp only [hx, decide_true, decide_false] at hb
    try subst hx
    go_enter Tryz.func99, Tryz.ntmps99
    go_wp2
    go_ret
    exact ⟨by simp [goneE, *], HB.out _⟩

set_option maxHeartbeats 1000000 in
theorem qentry_any (e : En) (w : World) : Calls Tryz.prog 80 #[env e] w fun r w' => r = .returned (.bool (entryB e)) ∧ Only (fun _ => False) w w' := by
  have HG := Lib.hid (fun W => qgone_any e W)
  obtain ⟨g, hg⟩ : ∃ g, goneE e = g := ⟨_, rfl⟩
  have HGE := Lib.hid hg
  rw [hg] at HG
  have HB := Lib.hid (fun o => (Only.refl (fun _ => False) w).alloc o)
  clear hg
  obtain ⟨k, h, v, x, n, nv⟩ := e
  by_cases hk : k.size ≤ 256
  rotate_left
  · have hkI : (256 : Int) < (k.size : Int) := by omega
    go_enter Tryz.func80, Tryz.ntmps80
    go_wp2
    go_ret
    exact ⟨by simp [entryB, *], HB.out _⟩
  have hkI : ¬ (256 : Int) < (k.size : Int) := by omega
  by_cases hv : v.size ≤ 512
  rotate_left
  · have hvI : (512 : Int) < (v.size : Int) := by omega
    go_enter Tryz.func80, Tryz.ntmps80
    go_wp2
    go_ret
    exact ⟨by simp [entryB, *], HB.out _⟩
  have hvI : ¬ (512 : Int) < (v.size : Int) := by omega
  by_cases hn : nv.size ≤ 512
  rotate_left
  · have hnI : (512 : Int) < (nv.size : Int) := by omega
    go_enter Tryz.func80, Tryz.ntmps80
    go_wp2
    go_ret
    exact ⟨by simp [entryB, *], HB.out _⟩
  have hnI : ¬ (512 : Int) < (nv.size : Int) := by omega
  have hA : (h = true ∨ h = false ∧ v.size = 0) ∨ (h = false ∧ ¬ v.size = 0) := by cases h <;> by_cases v.size = 0 <;> simp [*]
  rcases hA with hA | ⟨rfl, h0⟩
  rotate_left
  · have h1 := ba_cons0 h0
    have h2 : ¬ v.toList = [] := by intro e; rw [e] at h1; cases h1
    go_enter Tryz.func80, Tryz.ntmps80
    go_wp2
    go_ret
    exact ⟨by simp [entryB, *], HB.out _⟩
  have hX : (¬ x = 0 ∨ x = 0 ∧ n = false) ∨ (x = 0 ∧ n = true) := by cases n <;> by_cases x = 0 <;> simp [*]
  rcases hX with hX | ⟨rfl, rfl⟩
  rotate_left
  · rcases hA with rfl | ⟨rfl, h0⟩
    · go_enter Tryz.func80, Tryz.ntmps80
      go_wp2
      go_ret
      exact ⟨by simp [entryB, *], HB.out _⟩
    · have h1 := ba_nil0 h0
      have h2 : v.toList.isEmpty = true := by rw [h1]; rfl
      go_enter Tryz.func80, Tryz.ntmps80
      go_wp2
      go_ret
      exact ⟨by simp [entryB, *], HB.out _⟩
  have hN : (n = true ∨ n = false ∧ nv.size = 0) ∨ (n = false ∧ ¬ nv.size = 0) := by cases n <;> by_cases nv.size = 0 <;> simp [*]
  have hA' : h = true ∨ h = false ∧ v.size = 0 ∧ v.toList = [] ∧ v.toList.isEmpty = true := hA.imp id (fun ⟨a, b⟩ => ⟨a, b, ba_nil0 b, by rw [ba_nil0 b]; rfl⟩)
  have hX' : (x == 0) = false ∧ ¬ x = 0 ∨ x = 0 ∧ n = false := hX.imp (fun a => ⟨by simpa using a, a⟩) id
  clear hA hX
  rcases hN with hN | ⟨rfl, h0⟩
  rotate_left
  · have h1 := ba_cons0 h0
    have h2 : ¬ nv.toList = [] := by intro e; rw [e] at h1; cases h1
    rcases hA' with rfl | ⟨rfl, q1, q2, q3⟩ <;> rcases hX' with ⟨q4, q5⟩ | ⟨rfl, _⟩
    all_goals
      go_enter Tryz.func80, Tryz.ntmps80
      go_wp2
      go_ret
      exact ⟨by simp [entryB, *], HB.out _⟩
  have hN' : n = true ∨ n = false ∧ nv.size = 0 ∧ nv.toList = [] ∧ nv.toList.isEmpty = true := hN.imp id (fun ⟨a, b⟩ => ⟨a, b, ba_nil0 b, by rw [ba_nil0 b]; rfl⟩)
  clear hN
  rcases hA' with rfl | ⟨rfl, q1, q2, q3⟩ <;> rcases hN' with rfl | ⟨rfl, q6, q7, q8⟩ <;> rcases hX' with ⟨q4, q5⟩ | ⟨rfl, hf⟩
  all_goals (try (exact absurd hf (by decide)))
  all_goals
    go_enter Tryz.func80, Tryz.ntmps80
    go_wp2_with fail
    refine (HG.out _).mono ?_
    rintro e w' ⟨rfl, hw⟩
    have HW := Lib.hid ((HB.out _).trans hw (fun _ _ h => h))
    clear hw HG
    go_wp2_with fail
    go_ret
    exact ⟨by simp [entryB, HGE.out, *], HW.out⟩

/-- What a message's fields are, as the checks ask. -/
theorem fieldB_of (m : Ms) : checkE m = if m.K < 1 ∨ 6 < m.K then 1 else if 256 < m.k.size ∨ 512 < m.v.size then 7 else if fieldB m = true then 0 else 1 := rfl
set_option maxHeartbeats 4000000 in
theorem qcheck_any (m : Ms) (w : World) : Calls Tryz.prog 48 #[msv m] w fun r w' => r = .returned (.int .i64 (checkE m)) ∧ Only (fun _ => False) w w' := by
  have HB := Lib.hid (fun o => (Only.refl (fun _ => False) w).alloc o)
  rw [checkE_eq]
  obtain ⟨s, K, k, x, v, o, n⟩ := m
  by_cases h1 : K < 1
  · go_enter Tryz.func48, Tryz.ntmps48
    go_wp2
    go_ret
    exact ⟨by simp [*], HB.out _⟩
  by_cases h6 : 6 < K
  · go_enter Tryz.func48, Tryz.ntmps48
    go_wp2
    go_ret
    exact ⟨by simp [*], HB.out _⟩
  by_cases hk : 256 < k.size
  · have hkI : (256 : Int) < (k.size : Int) := by omega
    go_enter Tryz.func48, Tryz.ntmps48
    go_wp2
    go_ret
    exact ⟨by simp [*], HB.out _⟩
  by_cases hv : 512 < v.size
  · have hkI : ¬ (256 : Int) < (k.size : Int) := by omega
    have hvI : (512 : Int) < (v.size : Int) := by omega
    go_enter Tryz.func48, Tryz.ntmps48
    go_wp2
    go_ret
    exact ⟨by simp [*], HB.out _⟩
  have hkI : ¬ (256 : Int) < (k.size : Int) := by omega
  have hvI : ¬ (512 : Int) < (v.size : Int) := by omega
  have hKK : K = 1 ∨ K = 2 ∨ K = 3 ∨ K = 4 ∨ K = 5 ∨ K = 6 := by omega
  obtain ⟨z, hz⟩ : ∃ z : Int, (if K < 1 ∨ 6 < K then (1 : Int) else if 256 < k.size ∨ 512 < v.size then 7 else if fieldB ⟨s, K, k, x, v, o, n⟩ = true then 0 else 1) = z := ⟨_, rfl⟩
  have HSW : Hid (∀ r : Bool, fieldB ⟨s, K, k, x, v, o, n⟩ = r → z = if r = true then 0 else 1) := Lib.hid (fun r h => by rw [← hz, if_neg (by omega), if_neg (by omega), h])
  simp only
  rw [hz]
  clear hz
  clear h1 h6 hk hv
  rcases hKK with rfl | rfl | rfl | rfl | rfl | rfl
  · by_cases c0 : o = 0
    rotate_left
    · have e1 : (o == 0) = false := by simpa using c0
      go_enter Tryz.func48, Tryz.ntmps48
      go_wp2
      all_goals
        go_ret
        exact ⟨by rw [HSW.out false (by first | (simp [fieldB, *, -ByteArray.size_eq_zero_iff]; done) | (simp [fieldB, -ByteArray.size_eq_zero_iff]; intros; omega))]; first | rfl | simp, HB.out _⟩
    subst c0
    by_cases c1 : n = 0
    rotate_left
    · have e1 : (n == 0) = false := by simpa using c1
      go_enter Tryz.func48, Tryz.ntmps48
      go_wp2
      all_goals
        go_ret
        exact ⟨by rw [HSW.out false (by first | (simp [fieldB, *, -ByteArray.size_eq_zero_iff]; done) | (simp [fieldB, -ByteArray.size_eq_zero_iff]; intros; omega))]; first | rfl | simp, HB.out _⟩
    subst c1
    go_enter Tryz.func48, Tryz.ntmps48
    go_wp2
    all_goals
      go_ret
      exact ⟨by rw [HSW.out true (by first | (simp [fieldB, *, -ByteArray.size_eq_zero_iff]; done) | (simp [fieldB, -ByteArray.size_eq_zero_iff]; intros; omega))]; first | rfl | simp, HB.out _⟩
  · by_cases c0 : o = 0
    rotate_left
    · have e1 : (o == 0) = false := by simpa using c0
      go_enter Tryz.func48, Tryz.ntmps48
      go_wp2
      all_goals
        go_ret
        exact ⟨by rw [HSW.out false (by first | (simp [fieldB, *, -ByteArray.size_eq_zero_iff]; done) | (simp [fieldB, -ByteArray.size_eq_zero_iff]; intros; omega))]; first | rfl | simp, HB.out _⟩
    subst c0
    by_cases c1 : n = 0
    rotate_left
    · have e1 : (n == 0) = false := by simpa using c1
      go_enter Tryz.func48, Tryz.ntmps48
      go_wp2
      all_goals
        go_ret
        exact ⟨by rw [HSW.out false (by first | (simp [fieldB, *, -ByteArray.size_eq_zero_iff]; done) | (simp [fieldB, -ByteArray.size_eq_zero_iff]; intros; omega))]; first | rfl | simp, HB.out _⟩
    subst c1
    by_cases c2 : v.size = 0
    rotate_left
    · have e1 := ba_cons0 c2
      have e2 : ¬ v.toList = [] := by intro e; rw [e] at e1; cases e1
      go_enter Tryz.func48, Tryz.ntmps48
      go_wp2
      all_goals
        go_ret
        exact ⟨by rw [HSW.out false (by first | (simp [fieldB, *, -ByteArray.size_eq_zero_iff]; done) | (simp [fieldB, -ByteArray.size_eq_zero_iff]; intros; omega))]; first | rfl | simp, HB.out _⟩
    have f2 := ba_nil0 c2
    have g2 : v.toList.isEmpty = true := by rw [f2]; rfl
    go_enter Tryz.func48, Tryz.ntmps48
    go_wp2
    all_goals
      go_ret
      exact ⟨by rw [HSW.out true (by first | (simp [fieldB, *, -ByteArray.size_eq_zero_iff]; done) | (simp [fieldB, -ByteArray.size_eq_zero_iff]; intros; omega))]; first | rfl | simp, HB.out _⟩
  · by_cases c0 : 0 ≤ o
    rotate_left
    · skip
      go_enter Tryz.func48, Tryz.ntmps48
      go_wp2
      all_goals
        go_ret
        exact ⟨by rw [HSW.out false (by first | (simp [fieldB, *, -ByteArray.size_eq_zero_iff]; done) | (simp [fieldB, -ByteArray.size_eq_zero_iff]; intros; omega))]; first | rfl | simp, HB.out _⟩
    by_cases c1 : o ≤ 504
    rotate_left
    · skip
      go_enter Tryz.func48, Tryz.ntmps48
      go_wp2
      all_goals
        go_ret
        exact ⟨by rw [HSW.out false (by first | (simp [fieldB, *, -ByteArray.size_eq_zero_iff]; done) | (simp [fieldB, -ByteArray.size_eq_zero_iff]; intros; omega))]; first | rfl | simp, HB.out _⟩
    by_cases c2 : v.size = 0
    rotate_left
    · have e1 := ba_cons0 c2
      have e2 : ¬ v.toList = [] := by intro e; rw [e] at e1; cases e1
      go_enter Tryz.func48, Tryz.ntmps48
      go_wp2
      all_goals
        go_ret
        exact ⟨by rw [HSW.out false (by first | (simp [fieldB, *, -ByteArray.size_eq_zero_iff]; done) | (simp [fieldB, -ByteArray.size_eq_zero_iff]; intros; omega))]; first | rfl | simp, HB.out _⟩
    have f2 := ba_nil0 c2
    have g2 : v.toList.isEmpty = true := by rw [f2]; rfl
    go_enter Tryz.func48, Tryz.ntmps48
    go_wp2
    all_goals
      go_ret
      exact ⟨by rw [HSW.out true (by first | (simp [fieldB, *, -ByteArray.size_eq_zero_iff]; done) | (simp [fieldB, -ByteArray.size_eq_zero_iff]; intros; omega))]; first | rfl | simp, HB.out _⟩
  · by_cases c0 : 0 ≤ o
    rotate_left
    · skip
      go_enter Tryz.func48, Tryz.ntmps48
      go_wp2
      all_goals
        go_ret
        exact ⟨by rw [HSW.out false (by first | (simp [fieldB, *, -ByteArray.size_eq_zero_iff]; done) | (simp [fieldB, -ByteArray.size_eq_zero_iff]; intros; omega))]; first | rfl | simp, HB.out _⟩
    by_cases c1 : o ≤ 254
    rotate_left
    · skip
      go_enter Tryz.func48, Tryz.ntmps48
      go_wp2
      all_goals
        go_ret
        exact ⟨by rw [HSW.out false (by first | (simp [fieldB, *, -ByteArray.size_eq_zero_iff]; done) | (simp [fieldB, -ByteArray.size_eq_zero_iff]; intros; omega))]; first | rfl | simp, HB.out _⟩
    by_cases c2 : n = 0
    rotate_left
    · have e1 : (n == 0) = false := by simpa using c2
      go_enter Tryz.func48, Tryz.ntmps48
      go_wp2
      all_goals
        go_ret
        exact ⟨by rw [HSW.out false (by first | (simp [fieldB, *, -ByteArray.size_eq_zero_iff]; done) | (simp [fieldB, -ByteArray.size_eq_zero_iff]; intros; omega))]; first | rfl | simp, HB.out _⟩
    subst c2
    by_cases c3 : k.size = 0
    rotate_left
    · have e1 := ba_cons0 c3
      have e2 : ¬ k.toList = [] := by intro e; rw [e] at e1; cases e1
      go_enter Tryz.func48, Tryz.ntmps48
      go_wp2
      all_goals
        go_ret
        exact ⟨by rw [HSW.out false (by first | (simp [fieldB, *, -ByteArray.size_eq_zero_iff]; done) | (simp [fieldB, -ByteArray.size_eq_zero_iff]; intros; omega))]; first | rfl | simp, HB.out _⟩
    have f3 := ba_nil0 c3
    have g3 : k.toList.isEmpty = true := by rw [f3]; rfl
    by_cases c4 : x = 0
    rotate_left
    · have e1 : (x == 0) = false := by simpa using c4
      go_enter Tryz.func48, Tryz.ntmps48
      go_wp2
      all_goals
        go_ret
        exact ⟨by rw [HSW.out false (by first | (simp [fieldB, *, -ByteArray.size_eq_zero_iff]; done) | (simp [fieldB, -ByteArray.size_eq_zero_iff]; intros; omega))]; first | rfl | simp, HB.out _⟩
    subst c4
    go_enter Tryz.func48, Tryz.ntmps48
    go_wp2
    all_goals
      go_ret
      exact ⟨by rw [HSW.out true (by first | (simp [fieldB, *, -ByteArray.size_eq_zero_iff]; done) | (simp [fieldB, -ByteArray.size_eq_zero_iff]; intros; omega))]; first | rfl | simp, HB.out _⟩
  · by_cases c0 : o = 0
    rotate_left
    · have e1 : (o == 0) = false := by simpa using c0
      go_enter Tryz.func48, Tryz.ntmps48
      go_wp2
      all_goals
        go_ret
        exact ⟨by rw [HSW.out false (by first | (simp [fieldB, *, -ByteArray.size_eq_zero_iff]; done) | (simp [fieldB, -ByteArray.size_eq_zero_iff]; intros; omega))]; first | rfl | simp, HB.out _⟩
    subst c0
    by_cases c1 : n = 0
    rotate_left
    · have e1 : (n == 0) = false := by simpa using c1
      go_enter Tryz.func48, Tryz.ntmps48
      go_wp2
      all_goals
        go_ret
        exact ⟨by rw [HSW.out false (by first | (simp [fieldB, *, -ByteArray.size_eq_zero_iff]; done) | (simp [fieldB, -ByteArray.size_eq_zero_iff]; intros; omega))]; first | rfl | simp, HB.out _⟩
    subst c1
    by_cases c2 : v.size = 0
    rotate_left
    · have e1 := ba_cons0 c2
      have e2 : ¬ v.toList = [] := by intro e; rw [e] at e1; cases e1
      go_enter Tryz.func48, Tryz.ntmps48
      go_wp2
      all_goals
        go_ret
        exact ⟨by rw [HSW.out false (by first | (simp [fieldB, *, -ByteArray.size_eq_zero_iff]; done) | (simp [fieldB, -ByteArray.size_eq_zero_iff]; intros; omega))]; first | rfl | simp, HB.out _⟩
    have f2 := ba_nil0 c2
    have g2 : v.toList.isEmpty = true := by rw [f2]; rfl
    by_cases c3 : ¬ x = 0
    rotate_left
    · have c3' : x = 0 := Classical.not_not.1 c3
      subst c3'
      go_enter Tryz.func48, Tryz.ntmps48
      go_wp2
      all_goals
        go_ret
        exact ⟨by rw [HSW.out false (by first | (simp [fieldB, *, -ByteArray.size_eq_zero_iff]; done) | (simp [fieldB, -ByteArray.size_eq_zero_iff]; intros; omega))]; first | rfl | simp, HB.out _⟩
    have f3 : (x == 0) = false := by simpa using c3
    have g3 : (x != 0) = true := by simpa using c3
    go_enter Tryz.func48, Tryz.ntmps48
    go_wp2
    all_goals
      go_ret
      exact ⟨by rw [HSW.out true (by first | (simp [fieldB, *, -ByteArray.size_eq_zero_iff]; done) | (simp [fieldB, -ByteArray.size_eq_zero_iff]; intros; omega))]; first | rfl | simp, HB.out _⟩
  · by_cases c0 : o = 0
    rotate_left
    · have e1 : (o == 0) = false := by simpa using c0
      go_enter Tryz.func48, Tryz.ntmps48
      go_wp2
      all_goals
        go_ret
        exact ⟨by rw [HSW.out false (by first | (simp [fieldB, *, -ByteArray.size_eq_zero_iff]; done) | (simp [fieldB, -ByteArray.size_eq_zero_iff]; intros; omega))]; first | rfl | simp, HB.out _⟩
    subst c0
    by_cases c1 : n = 0
    rotate_left
    · have e1 : (n == 0) = false := by simpa using c1
      go_enter Tryz.func48, Tryz.ntmps48
      go_wp2
      all_goals
        go_ret
        exact ⟨by rw [HSW.out false (by first | (simp [fieldB, *, -ByteArray.size_eq_zero_iff]; done) | (simp [fieldB, -ByteArray.size_eq_zero_iff]; intros; omega))]; first | rfl | simp, HB.out _⟩
    subst c1
    by_cases c2 : v.size = 0
    rotate_left
    · have e1 := ba_cons0 c2
      have e2 : ¬ v.toList = [] := by intro e; rw [e] at e1; cases e1
      go_enter Tryz.func48, Tryz.ntmps48
      go_wp2
      all_goals
        go_ret
        exact ⟨by rw [HSW.out false (by first | (simp [fieldB, *, -ByteArray.size_eq_zero_iff]; done) | (simp [fieldB, -ByteArray.size_eq_zero_iff]; intros; omega))]; first | rfl | simp, HB.out _⟩
    have f2 := ba_nil0 c2
    have g2 : v.toList.isEmpty = true := by rw [f2]; rfl
    by_cases c3 : ¬ x = 0
    rotate_left
    · have c3' : x = 0 := Classical.not_not.1 c3
      subst c3'
      go_enter Tryz.func48, Tryz.ntmps48
      go_wp2
      all_goals
        go_ret
        exact ⟨by rw [HSW.out false (by first | (simp [fieldB, *, -ByteArray.size_eq_zero_iff]; done) | (simp [fieldB, -ByteArray.size_eq_zero_iff]; intros; omega))]; first | rfl | simp, HB.out _⟩
    have f3 : (x == 0) = false := by simpa using c3
    have g3 : (x != 0) = true := by simpa using c3
    go_enter Tryz.func48, Tryz.ntmps48
    go_wp2
    all_goals
      go_ret
      exact ⟨by rw [HSW.out true (by first | (simp [fieldB, *, -ByteArray.size_eq_zero_iff]; done) | (simp [fieldB, -ByteArray.size_eq_zero_iff]; intros; omega))]; first | rfl | simp, HB.out _⟩
set_option maxHeartbeats 2000000 in
theorem qroute_any (h : Nh) (n : Nd) (key : ByteArray) (w : World) (H : NdAt w h n) :
    Calls Tryz.prog 49 #[ndv h n, .string key] w fun r w' => r = .returned (.int .i64 (routeN n.ps key : Int)) ∧ Only (fun _ => False) w w' := by
  have HS := Lib.hid (NbAt.start H)
  clear H
  obtain ⟨c0, c1, c2, c3, c4⟩ := HS.out.cells
  obtain ⟨m, hm⟩ : ∃ m, m = n.ps.length := ⟨_, rfl⟩
  have HM := Lib.hid hm
  have hb : m ≤ 140737488351232 := by rw [hm]; exact HS.out.nd.lp
  rw [← hm] at c2
  clear hm
  go_enter Tryz.func49, Tryz.ntmps49
  go_wp2_with fail
  go_loopw [5, 6] (fun kid i wr => ∃ k : Nat, (k ≤ m) ∧ i = .int .i64 (k : Int) ∧ Hid (kid = .int .i64 (routeN (n.ps.take k) key : Int)) ∧ Hid (NbAt w wr w.heap.size h n)) (fun _ i _ => m - (intOf i).toNat)
  case atStart => exact ⟨0, Nat.zero_le _, rfl, Lib.hid rfl, HS⟩
  case round =>
    clear c0 c1 c2 c3 c4
    obtain ⟨k, hk, rfl, HR, HO⟩ := hrel
    obtain ⟨c0, c1, c2, c3, c4⟩ := HO.out.cells
    rw [← HM.out] at c2
    obtain ⟨r, hr⟩ : ∃ r : Nat, routeN (n.ps.take k) key = r := ⟨_, rfl⟩
    have HRK := Lib.hid hr
    rw [hr] at HR
    obtain rfl := HR.out
    have hrb : r ≤ 140737488351232 := by
      rw [← hr]
      refine Nat.le_trans (route_le _ _) ?_
      rw [List.length_take]
      omega
    clear HR hr
    have hr0 : (0 : Int) ≤ (r : Int) := by omega
    by_cases hlt : k < m
    · obtain ⟨g, off, he, y⟩ := HO.out.nd.p.st (j := k) (by rw [← HM.out]; exact hlt)
      have HST := Lib.hid (route_step (key := key) (by rw [← HM.out]; exact hlt : k < n.ps.length))
      rw [he] at c2
      clear he
      generalize n.ps.getD k default = p at *
      rw [HRK.out] at HST
      obtain ⟨q, hq⟩ : ∃ q, Op.bytesLess p.toList key.toList = q := ⟨_, rfl⟩
      obtain ⟨q2, hq2⟩ : ∃ q2, (p.toList == key.toList) = q2 := ⟨_, rfl⟩
      have HQ : Hid (ble p key = (q || q2)) := Lib.hid (by unfold ble; rw [hq, hq2])
      rw [HQ.out] at HST
      have hltI : (k : Int) < (m : Int) := by omega
      have h0 : (0 : Int) ≤ (k : Int) := by omega
      cases q <;> cases q2
      all_goals
        go_wp2_with fail
        go_roundw
        case rel => exact ⟨k + 1, by omega, by go_num, Lib.hid (by rw [HST.out]; first | rfl | simp), HO⟩
        case measure => simp [intOf]; omega
    · have hltI : ¬ (k : Int) < (m : Int) := by omega
      have HE : Hid (routeN n.ps key = r) := Lib.hid (by rw [← HRK.out, List.take_of_length_le (by have := HM.out; omega)])
      go_wp2_with fail
      go_ret
      exact ⟨by rw [HE.out]; rfl, HO.out.only⟩

set_option maxHeartbeats 2000000 in
theorem qwaiting_any (h : Nh) (n : Nd) (w : World) (H : NdAt w h n) :
    Calls Tryz.prog 47 #[ndv h n] w fun r w' => r = .returned (.int .i64 (waitW n.bs)) ∧ Only (fun _ => False) w w' := by
  have HS := Lib.hid (NbAt.start H)
  clear H
  obtain ⟨c0, c1, c2, c3, c4⟩ := HS.out.cells
  obtain ⟨m, hm⟩ : ∃ m, m = n.bs.length := ⟨_, rfl⟩
  have HM := Lib.hid hm
  have hb : m ≤ 140737488351232 := by rw [hm]; exact HS.out.nd.lb
  rw [← hm] at c4
  clear hm
  go_enter Tryz.func47, Tryz.ntmps47
  go_wp2_with fail
  go_loopw [3, 4] (fun cnt i wr => ∃ k : Nat, (k ≤ m) ∧ i = .int .i64 (k : Int) ∧ Hid (cnt = .int .i64 (waitW (n.bs.take k))) ∧ Hid (NbAt w wr w.heap.size h n)) (fun _ i _ => m - (intOf i).toNat)
  case atStart => exact ⟨0, Nat.zero_le _, rfl, Lib.hid rfl, HS⟩
  case round =>
    clear c0 c1 c2 c3 c4
    obtain ⟨k, hk, rfl, HR, HO⟩ := hrel
    obtain ⟨c0, c1, c2, c3, c4⟩ := HO.out.cells
    rw [← HM.out] at c4
    obtain ⟨r, hr⟩ : ∃ r : Int, waitW (n.bs.take k) = r := ⟨_, rfl⟩
    have HRK := Lib.hid hr
    rw [hr] at HR
    obtain rfl := HR.out
    clear HR hr
    by_cases hlt : k < m
    · obtain ⟨g, off, ao, c, he, y, _, _⟩ := HO.out.nd.b k (by rw [← HM.out]; exact hlt)
      have HST := Lib.hid (waitW_step (by rw [← HM.out]; exact hlt : k < n.bs.length))
      rw [he] at c4
      clear he
      generalize n.bs.getD k default = l at *
      rw [HRK.out] at HST
      obtain ⟨q, hq⟩ : ∃ q, q = l.length := ⟨_, rfl⟩
      rw [← hq] at y HST
      clear hq
      have hltI : (k : Int) < (m : Int) := by omega
      have h0 : (0 : Int) ≤ (k : Int) := by omega
      go_wp2_with fail
      go_roundw
      case rel => exact ⟨k + 1, by omega, by go_num, Lib.hid (by rw [HST.out]), HO⟩
      case measure => simp [intOf]; omega
    · have hltI : ¬ (k : Int) < (m : Int) := by omega
      have HE : Hid (waitW n.bs = r) := Lib.hid (by rw [← HRK.out, List.take_of_length_le (by have := HM.out; omega)])
      go_wp2_with fail
      go_ret
      exact ⟨by rw [HE.out]; rfl, HO.out.only⟩


end Go.Proofs.YtookbmpaoljelaaGreat

namespace Go.Proofs.YtookbmpaoljelaaGreat
open Go Go.RowKit
set_option linter.unusedVariables false
set_option linter.unusedSimpArgs false
set_option maxRecDepth 100000
set_option linter.unusedSimpArgs false
set_option maxRecDepth 100000

set_option maxHeartbeats 2000000 in
theorem lfits_any (h : Nh) (n : Nd) (w : World) (H : NdAt w h n) :
    Calls Tryz.prog 30 #[ndv h n] w fun r w' => r = .returned (.bool (leafB n)) ∧ Only (fun _ => False) w w' := by
  have HS := Lib.hid (NbAt.start H)
  clear H
  obtain ⟨c0, c1, c2, c3, c4⟩ := HS.out.cells
  by_cases hp : n.ps.length = 0
  rotate_left
  · have hI : (0 : Int) < (n.ps.length : Int) := by omega
    have hd : decide (0 < n.ps.length) = true := decide_eq_true (by omega)
    have HE : Hid (leafB n = false) := Lib.hid (by simp [leafB, hp])
    clear hp
    go_enter Tryz.func30, Tryz.ntmps30
    go_wp2_with fail
    go_ret
    exact ⟨by rw [HE.out]; rfl, HS.out.only⟩
  have hpI : ¬ (0 : Int) < (n.ps.length : Int) := by omega
  have hpd : decide (0 < n.ps.length) = false := decide_eq_false (by omega)
  by_cases hk : n.ks.length = 0
  rotate_left
  · have hI : (0 : Int) < (n.ks.length : Int) := by omega
    have hd : decide (0 < n.ks.length) = true := decide_eq_true (by omega)
    have HE : Hid (leafB n = false) := Lib.hid (by simp [leafB, hk])
    clear hp hk
    go_enter Tryz.func30, Tryz.ntmps30
    go_wp2_with fail
    go_ret
    exact ⟨by rw [HE.out]; rfl, HS.out.only⟩
  have hkI : ¬ (0 : Int) < (n.ks.length : Int) := by omega
  have hkd : decide (0 < n.ks.length) = false := decide_eq_false (by omega)
  by_cases hb : n.bs.length = 0
  rotate_left
  · have hI : (0 : Int) < (n.bs.length : Int) := by omega
    have hd : decide (0 < n.bs.length) = true := decide_eq_true (by omega)
    have HE : Hid (leafB n = false) := Lib.hid (by simp [leafB, hb])
    clear hp hk hb
    go_enter Tryz.func30, Tryz.ntmps30
    go_wp2_with fail
    go_ret
    exact ⟨by rw [HE.out]; rfl, HS.out.only⟩
  have hbI : ¬ (0 : Int) < (n.bs.length : Int) := by omega
  have hbd : decide (0 < n.bs.length) = false := decide_eq_false (by omega)
  by_cases he : n.es.length ≤ 255
  rotate_left
  · have hI : (255 : Int) < (n.es.length : Int) := by omega
    have hd : decide (255 < n.es.length) = true := decide_eq_true (by omega)
    have HE : Hid (leafB n = false) := Lib.hid (by simp [leafB, he])
    clear hp hk hb he
    go_enter Tryz.func30, Tryz.ntmps30
    go_wp2_with fail
    go_ret
    exact ⟨by rw [HE.out]; rfl, HS.out.only⟩
  have heI : ¬ (255 : Int) < (n.es.length : Int) := by omega
  have hed : decide (255 < n.es.length) = false := decide_eq_false (by omega)
  have HE : Hid (leafB n = (riseB entryLt n.es && n.es.all entryB)) := Lib.hid (by
    unfold leafB
    rw [decide_eq_true hp, decide_eq_true hk, decide_eq_true hb, decide_eq_true he]
    rfl)
  have HR := Lib.hid (fun W (ho : Only (fun _ => False) (w.alloc (.cells (ndc h n) 30)) W) => rise_e h.eo n.es.length h.ec n.es W (HS.out.nd.e.keep ho) rfl HS.out.nd.le)
  have HA := Lib.hid (fun W (ho : Only (fun _ => False) (w.alloc (.cells (ndc h n) 30)) W) => all_e h.eo n.es.length h.ec n.es W (HS.out.nd.e.keep ho) rfl HS.out.nd.le)
  generalize leafB n = z at *
  obtain ⟨q1, hq1⟩ : ∃ q, riseB entryLt n.es = q := ⟨_, rfl⟩
  obtain ⟨q2, hq2⟩ : ∃ q, n.es.all entryB = q := ⟨_, rfl⟩
  rw [hq1] at HR HE
  rw [hq2] at HA HE
  clear hp hk hb he hq1 hq2
  go_enter Tryz.func30, Tryz.ntmps30
  go_wp2_with fail
  refine (HR.out _ (Only.refl _ _)).mono ?_
  rintro e w1 ⟨rfl, ho⟩
  have HO := Lib.hid ho
  have HS1 := Lib.hid (HS.out.keep ho)
  clear ho HR c0 c1 c2 c3 c4
  obtain ⟨c0, c1, c2, c3, c4⟩ := HS1.out.cells
  cases q1 with
  | false =>
    go_wp2_with fail
    go_ret
    exact ⟨by rw [HE.out]; rfl, HS1.out.only⟩
  | true =>
    go_wp2_with fail
    refine (HA.out _ HO.out).mono ?_
    rintro e w2 ⟨rfl, ho⟩
    have HS2 := Lib.hid (HS1.out.keep ho)
    clear ho HA c0 c1 c2 c3 c4
    go_wp2_with fail
    go_ret
    exact ⟨by rw [HE.out]; rfl, HS2.out.only⟩

end Go.Proofs.YtookbmpaoljelaaGreat

namespace Go.Proofs.YtookbmpaoljelaaGreat
open Go Go.RowKit
set_option linter.unusedVariables false
set_option linter.unusedSimpArgs false
set_option maxRecDepth 100000
set_option linter.unusedSimpArgs false
set_option maxRecDepth 100000

/-- A node in a block, and a number. -/
structure NcAt (W : World) (pn pk : Nat) (h : Nh) (n : Nd) (i : Nat) : Prop where
  c0 : W.cell? ⟨pn, 0, none⟩ = some (.bool n.leaf)
  c1 : W.cell? ⟨pn, 1, none⟩ = some (.slice h.eo n.es.length h.ec)
  c2 : W.cell? ⟨pn, 2, none⟩ = some (.slice h.po n.ps.length h.pc)
  c3 : W.cell? ⟨pn, 3, none⟩ = some (.slice h.ko n.ks.length h.kc)
  c4 : W.cell? ⟨pn, 4, none⟩ = some (.slice h.bo n.bs.length h.bc)
  k : W.cell? ⟨pk, 0, none⟩ = some (.int .i64 (i : Int))
  nd : NdAt W h n
theorem NcAt.keep {W W' : World} {pn pk : Nat} {h : Nh} {n : Nd} {i : Nat} (H : NcAt W pn pk h n i) (ho : Only (fun _ => False) W W') : NcAt W' pn pk h n i :=
  ⟨ho.cellq H.c0, ho.cellq H.c1, ho.cellq H.c2, ho.cellq H.c3, ho.cellq H.c4, ho.cellq H.k, H.nd.keep ho⟩
/-- Where the test of a message stands. -/
structure BfAt (w W : World) (pm pn pk : Nat) (m : Ms) (h : Nh) (n : Nd) (i : Nat) : Prop where
  m : W.heap[pm]? = some (.cells #[.int .u64 m.sq, .int .i64 m.K, .string m.k, .int .u64 m.x, .string m.v, .int .i64 m.off, .int .u64 m.num] 80 (0, 0))
  c : NcAt W pn pk h n i
  only : Only (fun _ => False) w W
theorem BfAt.keep {w W W' : World} {pm pn pk : Nat} {m : Ms} {h : Nh} {n : Nd} {i : Nat} (H : BfAt w W pm pn pk m h n i) (ho : Only (fun _ => False) W W') : BfAt w W' pm pn pk m h n i := ⟨qkeep ho H.m, H.c.keep ho, H.only.trans ho (fun _ _ h => h)⟩
theorem BfAt.cells {w W W' : World} {pm pn pk : Nat} {m : Ms} {h : Nh} {n : Nd} {i : Nat} (H : BfAt w W pm pn pk m h n i) (ho : Only (fun _ => False) W W') :
    W'.cell? ⟨pm, 0, none⟩ = some (.int .u64 m.sq) ∧ W'.cell? ⟨pm, 1, none⟩ = some (.int .i64 m.K) ∧ W'.cell? ⟨pm, 2, none⟩ = some (.string m.k) ∧ W'.cell? ⟨pm, 3, none⟩ = some (.int .u64 m.x) ∧ W'.cell? ⟨pm, 4, none⟩ = some (.string m.v) ∧ W'.cell? ⟨pm, 5, none⟩ = some (.int .i64 m.off) ∧ W'.cell? ⟨pm, 6, none⟩ = some (.int .u64 m.num) ∧
    W'.cell? ⟨pn, 0, none⟩ = some (.bool n.leaf) ∧ W'.cell? ⟨pn, 1, none⟩ = some (.slice h.eo n.es.length h.ec) ∧ W'.cell? ⟨pn, 2, none⟩ = some (.slice h.po n.ps.length h.pc) ∧ W'.cell? ⟨pn, 3, none⟩ = some (.slice h.ko n.ks.length h.kc) ∧ W'.cell? ⟨pn, 4, none⟩ = some (.slice h.bo n.bs.length h.bc) ∧ W'.cell? ⟨pk, 0, none⟩ = some (.int .i64 (i : Int)) := by
  have H2 := H.keep ho
  have hm := H2.m
  refine ⟨?_, ?_, ?_, ?_, ?_, ?_, ?_, H2.c.c0, H2.c.c1, H2.c.c2, H2.c.c3, H2.c.c4, H2.c.k⟩ <;> simp [World.cell?, hm]
theorem BfAt.start {w : World} {pn pk : Nat} {m : Ms} {h : Nh} {n : Nd} {i : Nat} (H : NcAt w pn pk h n i) :
    BfAt w (w.alloc (.cells #[.int .u64 m.sq, .int .i64 m.K, .string m.k, .int .u64 m.x, .string m.v, .int .i64 m.off, .int .u64 m.num] 80)) w.heap.size pn pk m h n i :=
  ⟨heap_alloc_new w _, H.keep ((Only.refl _ w).alloc _), (Only.refl _ w).alloc _⟩

set_option maxHeartbeats 4000000 in
theorem wfits_any (pn pk : Nat) (m : Ms) (h : Nh) (n : Nd) (i : Nat) (w : World) (H : NcAt w pn pk h n i) :
    Calls Tryz.prog 97 #[msv m, .pointer (some ⟨pn, 0, none⟩), .pointer (some ⟨pk, 0, none⟩)] w fun r w' => r = .returned (.bool (waitB n.ps i m)) ∧ Only (fun _ => False) w w' := by
  have HW := Lib.hid (BfAt.start (m := m) H)
  have HC := Lib.hid (fun W => check_any m W)
  have HR := Lib.hid (fun W => route_any h n m.k W)
  obtain ⟨c, hc⟩ : ∃ c, checkE m = c := ⟨_, rfl⟩
  obtain ⟨r, hr⟩ : ∃ r : Nat, routeN n.ps m.k = r := ⟨_, rfl⟩
  have HB : Hid (waitB n.ps i m = (decide (c = 0) && (decide (m.K = 4) || decide (r = i)))) := Lib.hid (by unfold waitB; rw [hc, hr])
  rw [hc] at HC
  rw [hr] at HR
  generalize waitB n.ps i m = z at *
  clear hc hr H
  by_cases h0 : c = 0
  · subst h0
    by_cases h4 : m.K = 4
    · have HZ : Hid (z = true) := Lib.hid (by rw [HB.out, decide_eq_true h4]; rfl)
      have h4a : (m.K == 4) = true := by simpa using h4
      have HK := Lib.hid h4
      clear HB HR h4
      go_enter Tryz.func97, Tryz.ntmps97
      go_upto_region 1 with fail
      generalize w.alloc (.cells #[.int .u64 m.sq, .int .i64 m.K, .string m.k, .int .u64 m.x, .string m.v, .int .i64 m.off, .int .u64 m.num] 80) = w1 at *
      generalize w.heap.size = pm at *
      refine wp_region_held_drew (S := (fun w' => w'.cell? ⟨pm, 0, none⟩ = some (.int .u64 m.sq) ∧ w'.cell? ⟨pm, 1, none⟩ = some (.int .i64 m.K) ∧ w'.cell? ⟨pm, 2, none⟩ = some (.string m.k) ∧ w'.cell? ⟨pm, 3, none⟩ = some (.int .u64 m.x) ∧ w'.cell? ⟨pm, 4, none⟩ = some (.string m.v) ∧ w'.cell? ⟨pm, 5, none⟩ = some (.int .i64 m.off) ∧ w'.cell? ⟨pm, 6, none⟩ = some (.int .u64 m.num) ∧ w'.cell? ⟨pn, 0, none⟩ = some (.bool n.leaf) ∧ w'.cell? ⟨pn, 1, none⟩ = some (.slice h.eo n.es.length h.ec) ∧ w'.cell? ⟨pn, 2, none⟩ = some (.slice h.po n.ps.length h.pc) ∧ w'.cell? ⟨pn, 3, none⟩ = some (.slice h.ko n.ks.length h.kc) ∧ w'.cell? ⟨pn, 4, none⟩ = some (.slice h.bo n.bs.length h.bc) ∧ w'.cell? ⟨pk, 0, none⟩ = some (.int .i64 (i : Int)))) (by kernel_rfl) ?_ (fun hHeld => ?_)
      · exact HW.out.cells ((Only.refl _ w1).drew)
      refine wpAnyH_take (i := 0) (oi := ?_) (v := ?_) ?_ (by kernel_rfl) (by kernel_rfl) (by kernel_rfl) ?_ (Or.inl ⟨?_, ?_⟩) (by assumption) ?_
      rotate_left 2
      · (simp only [List.getElem?_toArray, List.getElem?_cons_zero]; rfl)
      · exact fun _ _ _ h => h
      · rfl
      · (intro w hSw; (try dsimp only at hSw); go_simp <;> with_reducible rfl)
      (try simp only [Act.put, List.setIfInBounds_toArray, List.set_cons_zero, List.set_cons_succ])
      refine wpAnyH_ready (rs := [1]) (by kernel_rfl) (by simp) (AllReadyH.cons (o := ?o1_1) ?h1_1 (fun K hK => ?s1_1) AllReadyH.nil)
      case h1_1 => (simp only [List.getElem?_toArray, List.getElem?_cons_succ, List.getElem?_cons_zero]; rfl)
      case' s1_1 =>
        (go_simp; refine (HC.out _).mono ?_; rintro e wb ⟨rfl, hbb⟩; have HW2 := Lib.hid (HW.out.keep ((Only.refl _ w1).drew.trans hbb (fun _ _ h => h))); clear hbb)
        refine hK.out _ _ ?_ (fun hHeld => ?_)
      · exact HW2.out.cells (Only.refl _ _)
      clear hK K
      (try simp only [Act.put, List.setIfInBounds_toArray, List.set_cons_zero, List.set_cons_succ])
      refine wpAnyH_take (i := 2) (oi := ?_) (v := ?_) ?_ (by kernel_rfl) (by kernel_rfl) (by kernel_rfl) ?_ (Or.inl ⟨?_, ?_⟩) (by assumption) ?_
      rotate_left 2
      · (simp only [List.getElem?_toArray, List.getElem?_cons_succ, List.getElem?_cons_zero]; rfl)
      · exact fun _ _ _ h => h
      · rfl
      · (intro w hSw; (try dsimp only at hSw); go_simp <;> with_reducible rfl)
      (try simp only [Act.put, List.setIfInBounds_toArray, List.set_cons_zero, List.set_cons_succ])
      refine wpAnyH_take (i := 3) (oi := ?_) (v := ?_) ?_ (by kernel_rfl) (by kernel_rfl) (by kernel_rfl) ?_ (Or.inl ⟨?_, ?_⟩) (by assumption) ?_
      rotate_left 2
      · (simp only [List.getElem?_toArray, List.getElem?_cons_succ, List.getElem?_cons_zero]; rfl)
      · exact fun _ _ _ h => h
      · rfl
      · (intro w hSw; (try dsimp only at hSw); go_simp <;> with_reducible rfl)
      (try simp only [Act.put, List.setIfInBounds_toArray, List.set_cons_zero, List.set_cons_succ])
      refine wpAnyH_take (i := 4) (oi := ?_) (v := ?_) ?_ (by kernel_rfl) (by kernel_rfl) (by kernel_rfl) ?_ (Or.inl ⟨?_, ?_⟩) (by assumption) ?_
      rotate_left 2
      · (simp only [List.getElem?_toArray, List.getElem?_cons_succ, List.getElem?_cons_zero]; rfl)
      · exact fun _ _ _ h => h
      · rfl
      · (intro w hSw; (try dsimp only at hSw); go_simp <;> with_reducible rfl)
      (try simp only [Act.put, List.setIfInBounds_toArray, List.set_cons_zero, List.set_cons_succ])
      refine wpAnyH_take (i := 5) (oi := ?_) (v := ?_) ?_ (by kernel_rfl) (by kernel_rfl) (by kernel_rfl) ?_ (Or.inl ⟨?_, ?_⟩) (by assumption) ?_
      rotate_left 2
      · (simp only [List.getElem?_toArray, List.getElem?_cons_succ, List.getElem?_cons_zero]; rfl)
      · exact fun _ _ _ h => h
      · rfl
      · (intro w hSw; (try dsimp only at hSw); go_simp <;> with_reducible rfl)
      (try simp only [Act.put, List.setIfInBounds_toArray, List.set_cons_zero, List.set_cons_succ])
      refine wpAnyH_take (i := 6) (oi := ?_) (v := ?_) ?_ (by kernel_rfl) (by kernel_rfl) (by kernel_rfl) ?_ (Or.inl ⟨?_, ?_⟩) (by assumption) ?_
      rotate_left 2
      · (simp only [List.getElem?_toArray, List.getElem?_cons_succ, List.getElem?_cons_zero]; rfl)
      · exact fun _ _ _ h => h
      · rfl
      · (intro w hSw; (try dsimp only at hSw); go_simp <;> with_reducible rfl)
      (try simp only [Act.put, List.setIfInBounds_toArray, List.set_cons_zero, List.set_cons_succ])
      refine wpAnyH_take (i := 7) (oi := ?_) (v := ?_) ?_ (by kernel_rfl) (by kernel_rfl) (by kernel_rfl) ?_ (Or.inl ⟨?_, ?_⟩) (by assumption) ?_
      rotate_left 2
      · (simp only [List.getElem?_toArray, List.getElem?_cons_succ, List.getElem?_cons_zero]; rfl)
      · exact fun _ _ _ h => h
      · rfl
      · (intro w hSw; (try dsimp only at hSw); go_simp <;> with_reducible rfl)
      (try simp only [Act.put, List.setIfInBounds_toArray, List.set_cons_zero, List.set_cons_succ])
      refine wpAnyH_take (i := 8) (oi := ?_) (v := undef) ?_ (by kernel_rfl) (by kernel_rfl) (by kernel_rfl) ?_ (Or.inr ⟨?_, rfl⟩) (by assumption) ?_
      rotate_left 1
      · (simp only [List.getElem?_toArray, List.getElem?_cons_succ, List.getElem?_cons_zero]; rfl)
      · exact fun _ _ _ h => h
      · rfl
      (try simp only [Act.put, List.setIfInBounds_toArray, List.set_cons_zero, List.set_cons_succ])
      refine wpAnyH_take (i := 9) (oi := ?_) (v := undef) ?_ (by kernel_rfl) (by kernel_rfl) (by kernel_rfl) ?_ (Or.inr ⟨?_, rfl⟩) (by assumption) ?_
      rotate_left 1
      · (simp only [List.getElem?_toArray, List.getElem?_cons_succ, List.getElem?_cons_zero]; rfl)
      · exact fun _ _ _ h => h
      · rfl
      (try simp only [Act.put, List.setIfInBounds_toArray, List.set_cons_zero, List.set_cons_succ])
      refine wpAnyH_take (i := 10) (oi := ?_) (v := undef) ?_ (by kernel_rfl) (by kernel_rfl) (by kernel_rfl) ?_ (Or.inr ⟨?_, rfl⟩) (by assumption) ?_
      rotate_left 1
      · (simp only [List.getElem?_toArray, List.getElem?_cons_succ, List.getElem?_cons_zero]; rfl)
      · exact fun _ _ _ h => h
      · rfl
      (try simp only [Act.put, List.setIfInBounds_toArray, List.set_cons_zero, List.set_cons_succ])
      refine wpAnyH_take (i := 11) (oi := ?_) (v := undef) ?_ (by kernel_rfl) (by kernel_rfl) (by kernel_rfl) ?_ (Or.inr ⟨?_, rfl⟩) (by assumption) ?_
      rotate_left 1
      · (simp only [List.getElem?_toArray, List.getElem?_cons_succ, List.getElem?_cons_zero]; rfl)
      · exact fun _ _ _ h => h
      · rfl
      (try simp only [Act.put, List.setIfInBounds_toArray, List.set_cons_zero, List.set_cons_succ])
      refine wpAnyH_take (i := 12) (oi := ?_) (v := undef) ?_ (by kernel_rfl) (by kernel_rfl) (by kernel_rfl) ?_ (Or.inr ⟨?_, rfl⟩) (by assumption) ?_
      rotate_left 1
      · (simp only [List.getElem?_toArray, List.getElem?_cons_succ, List.getElem?_cons_zero]; rfl)
      · exact fun _ _ _ h => h
      · rfl
      (try simp only [Act.put, List.setIfInBounds_toArray, List.set_cons_zero, List.set_cons_succ])
      refine wpAnyH_take (i := 13) (oi := ?_) (v := undef) ?_ (by kernel_rfl) (by kernel_rfl) (by kernel_rfl) ?_ (Or.inr ⟨?_, rfl⟩) (by assumption) ?_
      rotate_left 1
      · (simp only [List.getElem?_toArray, List.getElem?_cons_succ, List.getElem?_cons_zero]; rfl)
      · exact fun _ _ _ h => h
      · rfl
      (try simp only [Act.put, List.setIfInBounds_toArray, List.set_cons_zero, List.set_cons_succ])
      refine wpAnyH_take (i := 14) (oi := ?_) (v := ?_) ?_ (by kernel_rfl) (by kernel_rfl) (by kernel_rfl) ?_ (Or.inl ⟨?_, ?_⟩) (by assumption) ?_
      rotate_left 2
      · (simp only [List.getElem?_toArray, List.getElem?_cons_succ, List.getElem?_cons_zero]; rfl)
      · exact fun _ _ _ h => h
      · rfl
      · (intro w hSw; (try dsimp only at hSw); go_simp <;> with_reducible rfl)
      (try simp only [Act.put, List.setIfInBounds_toArray, List.set_cons_zero, List.set_cons_succ])
      refine wpAnyH_take (i := 15) (oi := ?_) (v := ?_) ?_ (by kernel_rfl) (by kernel_rfl) (by kernel_rfl) ?_ (Or.inl ⟨?_, ?_⟩) (by assumption) ?_
      rotate_left 2
      · (simp only [List.getElem?_toArray, List.getElem?_cons_succ, List.getElem?_cons_zero]; rfl)
      · exact fun _ _ _ h => h
      · rfl
      · (intro w hSw; (try dsimp only at hSw); go_simp <;> with_reducible rfl)
      (try simp only [Act.put, List.setIfInBounds_toArray, List.set_cons_zero, List.set_cons_succ])
      refine wpAnyH_take (i := 16) (oi := ?_) (v := ?_) ?_ (by kernel_rfl) (by kernel_rfl) (by kernel_rfl) ?_ (Or.inl ⟨?_, ?_⟩) (by assumption) ?_
      rotate_left 2
      · (simp only [List.getElem?_toArray, List.getElem?_cons_succ, List.getElem?_cons_zero]; rfl)
      · exact fun _ _ _ h => h
      · rfl
      · (intro w hSw; (try dsimp only at hSw); go_simp <;> with_reducible rfl)
      (try simp only [Act.put, List.setIfInBounds_toArray, List.set_cons_zero, List.set_cons_succ])
      refine wpAnyH_done (by kernel_rfl) ?_ _
      go_wp2_with fail
      go_ret
      exact ⟨by rw [HZ.out]; rfl, HW2.out.only⟩
    · have HZ : Hid (z = decide (r = i)) := Lib.hid (by rw [HB.out, decide_eq_false h4]; simp)
      have h4a : (m.K == 4) = false := by simpa using h4
      have HK := Lib.hid h4
      obtain ⟨v, hv⟩ : ∃ v, ((r : Int) == (i : Int)) = v := ⟨_, rfl⟩
      have HV : Hid (decide (r = i) = v) := Lib.hid (by rw [← hv, Bool.eq_iff_iff]; simp; omega)
      rw [HV.out] at HZ
      clear HB h4
      go_enter Tryz.func97, Tryz.ntmps97
      go_upto_region 1 with fail
      generalize w.alloc (.cells #[.int .u64 m.sq, .int .i64 m.K, .string m.k, .int .u64 m.x, .string m.v, .int .i64 m.off, .int .u64 m.num] 80) = w1 at *
      generalize w.heap.size = pm at *
      refine wp_region_held_drew (S := (fun w' => w'.cell? ⟨pm, 0, none⟩ = some (.int .u64 m.sq) ∧ w'.cell? ⟨pm, 1, none⟩ = some (.int .i64 m.K) ∧ w'.cell? ⟨pm, 2, none⟩ = some (.string m.k) ∧ w'.cell? ⟨pm, 3, none⟩ = some (.int .u64 m.x) ∧ w'.cell? ⟨pm, 4, none⟩ = some (.string m.v) ∧ w'.cell? ⟨pm, 5, none⟩ = some (.int .i64 m.off) ∧ w'.cell? ⟨pm, 6, none⟩ = some (.int .u64 m.num) ∧ w'.cell? ⟨pn, 0, none⟩ = some (.bool n.leaf) ∧ w'.cell? ⟨pn, 1, none⟩ = some (.slice h.eo n.es.length h.ec) ∧ w'.cell? ⟨pn, 2, none⟩ = some (.slice h.po n.ps.length h.pc) ∧ w'.cell? ⟨pn, 3, none⟩ = some (.slice h.ko n.ks.length h.kc) ∧ w'.cell? ⟨pn, 4, none⟩ = some (.slice h.bo n.bs.length h.bc) ∧ w'.cell? ⟨pk, 0, none⟩ = some (.int .i64 (i : Int)))) (by kernel_rfl) ?_ (fun hHeld => ?_)
      · exact HW.out.cells ((Only.refl _ w1).drew)
      refine wpAnyH_take (i := 0) (oi := ?_) (v := ?_) ?_ (by kernel_rfl) (by kernel_rfl) (by kernel_rfl) ?_ (Or.inl ⟨?_, ?_⟩) (by assumption) ?_
      rotate_left 2
      · (simp only [List.getElem?_toArray, List.getElem?_cons_zero]; rfl)
      · exact fun _ _ _ h => h
      · rfl
      · (intro w hSw; (try dsimp only at hSw); go_simp <;> with_reducible rfl)
      (try simp only [Act.put, List.setIfInBounds_toArray, List.set_cons_zero, List.set_cons_succ])
      refine wpAnyH_ready (rs := [1]) (by kernel_rfl) (by simp) (AllReadyH.cons (o := ?o1_2) ?h1_2 (fun K hK => ?s1_2) AllReadyH.nil)
      case h1_2 => (simp only [List.getElem?_toArray, List.getElem?_cons_succ, List.getElem?_cons_zero]; rfl)
      case' s1_2 =>
        (go_simp; refine (HC.out _).mono ?_; rintro e wb ⟨rfl, hbb⟩; have HW2 := Lib.hid (HW.out.keep ((Only.refl _ w1).drew.trans hbb (fun _ _ h => h))); clear hbb)
        refine hK.out _ _ ?_ (fun hHeld => ?_)
      · exact HW2.out.cells (Only.refl _ _)
      clear hK K
      (try simp only [Act.put, List.setIfInBounds_toArray, List.set_cons_zero, List.set_cons_succ])
      refine wpAnyH_take (i := 2) (oi := ?_) (v := ?_) ?_ (by kernel_rfl) (by kernel_rfl) (by kernel_rfl) ?_ (Or.inl ⟨?_, ?_⟩) (by assumption) ?_
      rotate_left 2
      · (simp only [List.getElem?_toArray, List.getElem?_cons_succ, List.getElem?_cons_zero]; rfl)
      · exact fun _ _ _ h => h
      · rfl
      · (intro w hSw; (try dsimp only at hSw); go_simp <;> with_reducible rfl)
      (try simp only [Act.put, List.setIfInBounds_toArray, List.set_cons_zero, List.set_cons_succ])
      refine wpAnyH_take (i := 3) (oi := ?_) (v := ?_) ?_ (by kernel_rfl) (by kernel_rfl) (by kernel_rfl) ?_ (Or.inl ⟨?_, ?_⟩) (by assumption) ?_
      rotate_left 2
      · (simp only [List.getElem?_toArray, List.getElem?_cons_succ, List.getElem?_cons_zero]; rfl)
      · exact fun _ _ _ h => h
      · rfl
      · (intro w hSw; (try dsimp only at hSw); go_simp <;> with_reducible rfl)
      (try simp only [Act.put, List.setIfInBounds_toArray, List.set_cons_zero, List.set_cons_succ])
      refine wpAnyH_take (i := 4) (oi := ?_) (v := ?_) ?_ (by kernel_rfl) (by kernel_rfl) (by kernel_rfl) ?_ (Or.inl ⟨?_, ?_⟩) (by assumption) ?_
      rotate_left 2
      · (simp only [List.getElem?_toArray, List.getElem?_cons_succ, List.getElem?_cons_zero]; rfl)
      · exact fun _ _ _ h => h
      · rfl
      · (intro w hSw; (try dsimp only at hSw); go_simp <;> with_reducible rfl)
      (try simp only [Act.put, List.setIfInBounds_toArray, List.set_cons_zero, List.set_cons_succ])
      refine wpAnyH_take (i := 5) (oi := ?_) (v := ?_) ?_ (by kernel_rfl) (by kernel_rfl) (by kernel_rfl) ?_ (Or.inl ⟨?_, ?_⟩) (by assumption) ?_
      rotate_left 2
      · (simp only [List.getElem?_toArray, List.getElem?_cons_succ, List.getElem?_cons_zero]; rfl)
      · exact fun _ _ _ h => h
      · rfl
      · (intro w hSw; (try dsimp only at hSw); go_simp <;> with_reducible rfl)
      (try simp only [Act.put, List.setIfInBounds_toArray, List.set_cons_zero, List.set_cons_succ])
      refine wpAnyH_take (i := 6) (oi := ?_) (v := ?_) ?_ (by kernel_rfl) (by kernel_rfl) (by kernel_rfl) ?_ (Or.inl ⟨?_, ?_⟩) (by assumption) ?_
      rotate_left 2
      · (simp only [List.getElem?_toArray, List.getElem?_cons_succ, List.getElem?_cons_zero]; rfl)
      · exact fun _ _ _ h => h
      · rfl
      · (intro w hSw; (try dsimp only at hSw); go_simp <;> with_reducible rfl)
      (try simp only [Act.put, List.setIfInBounds_toArray, List.set_cons_zero, List.set_cons_succ])
      refine wpAnyH_take (i := 7) (oi := ?_) (v := ?_) ?_ (by kernel_rfl) (by kernel_rfl) (by kernel_rfl) ?_ (Or.inl ⟨?_, ?_⟩) (by assumption) ?_
      rotate_left 2
      · (simp only [List.getElem?_toArray, List.getElem?_cons_succ, List.getElem?_cons_zero]; rfl)
      · exact fun _ _ _ h => h
      · rfl
      · (intro w hSw; (try dsimp only at hSw); go_simp <;> with_reducible rfl)
      (try simp only [Act.put, List.setIfInBounds_toArray, List.set_cons_zero, List.set_cons_succ])
      refine wpAnyH_take (i := 8) (oi := ?_) (v := ?_) ?_ (by kernel_rfl) (by kernel_rfl) (by kernel_rfl) ?_ (Or.inl ⟨?_, ?_⟩) (by assumption) ?_
      rotate_left 2
      · (simp only [List.getElem?_toArray, List.getElem?_cons_succ, List.getElem?_cons_zero]; rfl)
      · exact fun _ _ _ h => h
      · rfl
      · (intro w hSw; (try dsimp only at hSw); go_simp <;> with_reducible rfl)
      (try simp only [Act.put, List.setIfInBounds_toArray, List.set_cons_zero, List.set_cons_succ])
      refine wpAnyH_take (i := 9) (oi := ?_) (v := ?_) ?_ (by kernel_rfl) (by kernel_rfl) (by kernel_rfl) ?_ (Or.inl ⟨?_, ?_⟩) (by assumption) ?_
      rotate_left 2
      · (simp only [List.getElem?_toArray, List.getElem?_cons_succ, List.getElem?_cons_zero]; rfl)
      · exact fun _ _ _ h => h
      · rfl
      · (intro w hSw; (try dsimp only at hSw); go_simp <;> with_reducible rfl)
      (try simp only [Act.put, List.setIfInBounds_toArray, List.set_cons_zero, List.set_cons_succ])
      refine wpAnyH_take (i := 10) (oi := ?_) (v := ?_) ?_ (by kernel_rfl) (by kernel_rfl) (by kernel_rfl) ?_ (Or.inl ⟨?_, ?_⟩) (by assumption) ?_
      rotate_left 2
      · (simp only [List.getElem?_toArray, List.getElem?_cons_succ, List.getElem?_cons_zero]; rfl)
      · exact fun _ _ _ h => h
      · rfl
      · (intro w hSw; (try dsimp only at hSw); go_simp <;> with_reducible rfl)
      (try simp only [Act.put, List.setIfInBounds_toArray, List.set_cons_zero, List.set_cons_succ])
      refine wpAnyH_take (i := 12) (oi := ?_) (v := ?_) ?_ (by kernel_rfl) (by kernel_rfl) (by kernel_rfl) ?_ (Or.inl ⟨?_, ?_⟩) (by assumption) ?_
      rotate_left 2
      · (simp only [List.getElem?_toArray, List.getElem?_cons_succ, List.getElem?_cons_zero]; rfl)
      · exact fun _ _ _ h => h
      · rfl
      · (intro w hSw; (try dsimp only at hSw); go_simp <;> with_reducible rfl)
      (try simp only [Act.put, List.setIfInBounds_toArray, List.set_cons_zero, List.set_cons_succ])
      refine wpAnyH_ready (rs := [11]) (by kernel_rfl) (by simp) (AllReadyH.cons (o := ?o11_3) ?h11_3 (fun K hK => ?s11_3) AllReadyH.nil)
      case h11_3 => (simp only [List.getElem?_toArray, List.getElem?_cons_succ, List.getElem?_cons_zero]; rfl)
      case' s11_3 =>
        (go_simp; refine (HR.out _ HW2.out.c.nd).mono ?_; rintro e wc ⟨rfl, hbb⟩; have HW3 := Lib.hid (HW2.out.keep hbb); clear hbb)
        refine hK.out _ _ ?_ (fun hHeld => ?_)
      · exact HW3.out.cells (Only.refl _ _)
      clear hK K
      (try simp only [Act.put, List.setIfInBounds_toArray, List.set_cons_zero, List.set_cons_succ])
      refine wpAnyH_take (i := 13) (oi := ?_) (v := ?_) ?_ (by kernel_rfl) (by kernel_rfl) (by kernel_rfl) ?_ (Or.inl ⟨?_, ?_⟩) (by assumption) ?_
      rotate_left 2
      · (simp only [List.getElem?_toArray, List.getElem?_cons_succ, List.getElem?_cons_zero]; rfl)
      · exact fun _ _ _ h => h
      · rfl
      · (intro w hSw; (try dsimp only at hSw); go_simp <;> with_reducible rfl)
      (try simp only [Act.put, List.setIfInBounds_toArray, List.set_cons_zero, List.set_cons_succ])
      refine wpAnyH_take (i := 14) (oi := ?_) (v := ?_) ?_ (by kernel_rfl) (by kernel_rfl) (by kernel_rfl) ?_ (Or.inl ⟨?_, ?_⟩) (by assumption) ?_
      rotate_left 2
      · (simp only [List.getElem?_toArray, List.getElem?_cons_succ, List.getElem?_cons_zero]; rfl)
      · exact fun _ _ _ h => h
      · rfl
      · (intro w hSw; (try dsimp only at hSw); go_simp <;> with_reducible rfl)
      (try simp only [Act.put, List.setIfInBounds_toArray, List.set_cons_zero, List.set_cons_succ])
      refine wpAnyH_take (i := 15) (oi := ?_) (v := ?_) ?_ (by kernel_rfl) (by kernel_rfl) (by kernel_rfl) ?_ (Or.inl ⟨?_, ?_⟩) (by assumption) ?_
      rotate_left 2
      · (simp only [List.getElem?_toArray, List.getElem?_cons_succ, List.getElem?_cons_zero]; rfl)
      · exact fun _ _ _ h => h
      · rfl
      · (intro w hSw; (try dsimp only at hSw); go_simp <;> with_reducible rfl)
      (try simp only [Act.put, List.setIfInBounds_toArray, List.set_cons_zero, List.set_cons_succ])
      refine wpAnyH_take (i := 16) (oi := ?_) (v := ?_) ?_ (by kernel_rfl) (by kernel_rfl) (by kernel_rfl) ?_ (Or.inl ⟨?_, ?_⟩) (by assumption) ?_
      rotate_left 2
      · (simp only [List.getElem?_toArray, List.getElem?_cons_succ, List.getElem?_cons_zero]; rfl)
      · exact fun _ _ _ h => h
      · rfl
      · (intro w hSw; (try dsimp only at hSw); go_simp <;> with_reducible rfl)
      (try simp only [Act.put, List.setIfInBounds_toArray, List.set_cons_zero, List.set_cons_succ])
      refine wpAnyH_done (by kernel_rfl) ?_ _
      go_wp2_with fail
      go_ret
      exact ⟨by rw [HZ.out]; rfl, HW3.out.only⟩
  · have HZ : Hid (z = false) := Lib.hid (by rw [HB.out, decide_eq_false h0]; rfl)
    have h0a : (c == 0) = false := by simpa using h0
    clear HB HR h0
    go_enter Tryz.func97, Tryz.ntmps97
    go_upto_region 1 with fail
    generalize w.alloc (.cells #[.int .u64 m.sq, .int .i64 m.K, .string m.k, .int .u64 m.x, .string m.v, .int .i64 m.off, .int .u64 m.num] 80) = w1 at *
    generalize w.heap.size = pm at *
    refine wp_region_held_drew (S := (fun w' => w'.cell? ⟨pm, 0, none⟩ = some (.int .u64 m.sq) ∧ w'.cell? ⟨pm, 1, none⟩ = some (.int .i64 m.K) ∧ w'.cell? ⟨pm, 2, none⟩ = some (.string m.k) ∧ w'.cell? ⟨pm, 3, none⟩ = some (.int .u64 m.x) ∧ w'.cell? ⟨pm, 4, none⟩ = some (.string m.v) ∧ w'.cell? ⟨pm, 5, none⟩ = some (.int .i64 m.off) ∧ w'.cell? ⟨pm, 6, none⟩ = some (.int .u64 m.num) ∧ w'.cell? ⟨pn, 0, none⟩ = some (.bool n.leaf) ∧ w'.cell? ⟨pn, 1, none⟩ = some (.slice h.eo n.es.length h.ec) ∧ w'.cell? ⟨pn, 2, none⟩ = some (.slice h.po n.ps.length h.pc) ∧ w'.cell? ⟨pn, 3, none⟩ = some (.slice h.ko n.ks.length h.kc) ∧ w'.cell? ⟨pn, 4, none⟩ = some (.slice h.bo n.bs.length h.bc) ∧ w'.cell? ⟨pk, 0, none⟩ = some (.int .i64 (i : Int)))) (by kernel_rfl) ?_ (fun hHeld => ?_)
    · exact HW.out.cells ((Only.refl _ w1).drew)
    refine wpAnyH_take (i := 0) (oi := ?_) (v := ?_) ?_ (by kernel_rfl) (by kernel_rfl) (by kernel_rfl) ?_ (Or.inl ⟨?_, ?_⟩) (by assumption) ?_
    rotate_left 2
    · (simp only [List.getElem?_toArray, List.getElem?_cons_zero]; rfl)
    · exact fun _ _ _ h => h
    · rfl
    · (intro w hSw; (try dsimp only at hSw); go_simp <;> with_reducible rfl)
    (try simp only [Act.put, List.setIfInBounds_toArray, List.set_cons_zero, List.set_cons_succ])
    refine wpAnyH_ready (rs := [1]) (by kernel_rfl) (by simp) (AllReadyH.cons (o := ?o1_4) ?h1_4 (fun K hK => ?s1_4) AllReadyH.nil)
    case h1_4 => (simp only [List.getElem?_toArray, List.getElem?_cons_succ, List.getElem?_cons_zero]; rfl)
    case' s1_4 =>
      (go_simp; refine (HC.out _).mono ?_; rintro e wb ⟨rfl, hbb⟩; have HW2 := Lib.hid (HW.out.keep ((Only.refl _ w1).drew.trans hbb (fun _ _ h => h))); clear hbb)
      refine hK.out _ _ ?_ (fun hHeld => ?_)
    · exact HW2.out.cells (Only.refl _ _)
    clear hK K
    (try simp only [Act.put, List.setIfInBounds_toArray, List.set_cons_zero, List.set_cons_succ])
    refine wpAnyH_take (i := 2) (oi := ?_) (v := ?_) ?_ (by kernel_rfl) (by kernel_rfl) (by kernel_rfl) ?_ (Or.inl ⟨?_, ?_⟩) (by assumption) ?_
    rotate_left 2
    · (simp only [List.getElem?_toArray, List.getElem?_cons_succ, List.getElem?_cons_zero]; rfl)
    · exact fun _ _ _ h => h
    · rfl
    · (intro w hSw; (try dsimp only at hSw); go_simp <;> with_reducible rfl)
    (try simp only [Act.put, List.setIfInBounds_toArray, List.set_cons_zero, List.set_cons_succ])
    refine wpAnyH_take (i := 3) (oi := ?_) (v := ?_) ?_ (by kernel_rfl) (by kernel_rfl) (by kernel_rfl) ?_ (Or.inl ⟨?_, ?_⟩) (by assumption) ?_
    rotate_left 2
    · (simp only [List.getElem?_toArray, List.getElem?_cons_succ, List.getElem?_cons_zero]; rfl)
    · exact fun _ _ _ h => h
    · rfl
    · (intro w hSw; (try dsimp only at hSw); go_simp <;> with_reducible rfl)
    (try simp only [Act.put, List.setIfInBounds_toArray, List.set_cons_zero, List.set_cons_succ])
    refine wpAnyH_take (i := 4) (oi := ?_) (v := undef) ?_ (by kernel_rfl) (by kernel_rfl) (by kernel_rfl) ?_ (Or.inr ⟨?_, rfl⟩) (by assumption) ?_
    rotate_left 1
    · (simp only [List.getElem?_toArray, List.getElem?_cons_succ, List.getElem?_cons_zero]; rfl)
    · exact fun _ _ _ h => h
    · rfl
    (try simp only [Act.put, List.setIfInBounds_toArray, List.set_cons_zero, List.set_cons_succ])
    refine wpAnyH_take (i := 5) (oi := ?_) (v := undef) ?_ (by kernel_rfl) (by kernel_rfl) (by kernel_rfl) ?_ (Or.inr ⟨?_, rfl⟩) (by assumption) ?_
    rotate_left 1
    · (simp only [List.getElem?_toArray, List.getElem?_cons_succ, List.getElem?_cons_zero]; rfl)
    · exact fun _ _ _ h => h
    · rfl
    (try simp only [Act.put, List.setIfInBounds_toArray, List.set_cons_zero, List.set_cons_succ])
    refine wpAnyH_take (i := 6) (oi := ?_) (v := undef) ?_ (by kernel_rfl) (by kernel_rfl) (by kernel_rfl) ?_ (Or.inr ⟨?_, rfl⟩) (by assumption) ?_
    rotate_left 1
    · (simp only [List.getElem?_toArray, List.getElem?_cons_succ, List.getElem?_cons_zero]; rfl)
    · exact fun _ _ _ h => h
    · rfl
    (try simp only [Act.put, List.setIfInBounds_toArray, List.set_cons_zero, List.set_cons_succ])
    refine wpAnyH_take (i := 7) (oi := ?_) (v := undef) ?_ (by kernel_rfl) (by kernel_rfl) (by kernel_rfl) ?_ (Or.inr ⟨?_, rfl⟩) (by assumption) ?_
    rotate_left 1
    · (simp only [List.getElem?_toArray, List.getElem?_cons_succ, List.getElem?_cons_zero]; rfl)
    · exact fun _ _ _ h => h
    · rfl
    (try simp only [Act.put, List.setIfInBounds_toArray, List.set_cons_zero, List.set_cons_succ])
    refine wpAnyH_take (i := 8) (oi := ?_) (v := undef) ?_ (by kernel_rfl) (by kernel_rfl) (by kernel_rfl) ?_ (Or.inr ⟨?_, rfl⟩) (by assumption) ?_
    rotate_left 1
    · (simp only [List.getElem?_toArray, List.getElem?_cons_succ, List.getElem?_cons_zero]; rfl)
    · exact fun _ _ _ h => h
    · rfl
    (try simp only [Act.put, List.setIfInBounds_toArray, List.set_cons_zero, List.set_cons_succ])
    refine wpAnyH_take (i := 9) (oi := ?_) (v := undef) ?_ (by kernel_rfl) (by kernel_rfl) (by kernel_rfl) ?_ (Or.inr ⟨?_, rfl⟩) (by assumption) ?_
    rotate_left 1
    · (simp only [List.getElem?_toArray, List.getElem?_cons_succ, List.getElem?_cons_zero]; rfl)
    · exact fun _ _ _ h => h
    · rfl
    (try simp only [Act.put, List.setIfInBounds_toArray, List.set_cons_zero, List.set_cons_succ])
    refine wpAnyH_take (i := 10) (oi := ?_) (v := undef) ?_ (by kernel_rfl) (by kernel_rfl) (by kernel_rfl) ?_ (Or.inr ⟨?_, rfl⟩) (by assumption) ?_
    rotate_left 1
    · (simp only [List.getElem?_toArray, List.getElem?_cons_succ, List.getElem?_cons_zero]; rfl)
    · exact fun _ _ _ h => h
    · rfl
    (try simp only [Act.put, List.setIfInBounds_toArray, List.set_cons_zero, List.set_cons_succ])
    refine wpAnyH_take (i := 11) (oi := ?_) (v := undef) ?_ (by kernel_rfl) (by kernel_rfl) (by kernel_rfl) ?_ (Or.inr ⟨?_, rfl⟩) (by assumption) ?_
    rotate_left 1
    · (simp only [List.getElem?_toArray, List.getElem?_cons_succ, List.getElem?_cons_zero]; rfl)
    · exact fun _ _ _ h => h
    · rfl
    (try simp only [Act.put, List.setIfInBounds_toArray, List.set_cons_zero, List.set_cons_succ])
    refine wpAnyH_take (i := 12) (oi := ?_) (v := undef) ?_ (by kernel_rfl) (by kernel_rfl) (by kernel_rfl) ?_ (Or.inr ⟨?_, rfl⟩) (by assumption) ?_
    rotate_left 1
    · (simp only [List.getElem?_toArray, List.getElem?_cons_succ, List.getElem?_cons_zero]; rfl)
    · exact fun _ _ _ h => h
    · rfl
    (try simp only [Act.put, List.setIfInBounds_toArray, List.set_cons_zero, List.set_cons_succ])
    refine wpAnyH_take (i := 13) (oi := ?_) (v := undef) ?_ (by kernel_rfl) (by kernel_rfl) (by kernel_rfl) ?_ (Or.inr ⟨?_, rfl⟩) (by assumption) ?_
    rotate_left 1
    · (simp only [List.getElem?_toArray, List.getElem?_cons_succ, List.getElem?_cons_zero]; rfl)
    · exact fun _ _ _ h => h
    · rfl
    (try simp only [Act.put, List.setIfInBounds_toArray, List.set_cons_zero, List.set_cons_succ])
    refine wpAnyH_take (i := 14) (oi := ?_) (v := undef) ?_ (by kernel_rfl) (by kernel_rfl) (by kernel_rfl) ?_ (Or.inr ⟨?_, rfl⟩) (by assumption) ?_
    rotate_left 1
    · (simp only [List.getElem?_toArray, List.getElem?_cons_succ, List.getElem?_cons_zero]; rfl)
    · exact fun _ _ _ h => h
    · rfl
    (try simp only [Act.put, List.setIfInBounds_toArray, List.set_cons_zero, List.set_cons_succ])
    refine wpAnyH_take (i := 15) (oi := ?_) (v := ?_) ?_ (by kernel_rfl) (by kernel_rfl) (by kernel_rfl) ?_ (Or.inl ⟨?_, ?_⟩) (by assumption) ?_
    rotate_left 2
    · (simp only [List.getElem?_toArray, List.getElem?_cons_succ, List.getElem?_cons_zero]; rfl)
    · exact fun _ _ _ h => h
    · rfl
    · (intro w hSw; (try dsimp only at hSw); go_simp <;> with_reducible rfl)
    (try simp only [Act.put, List.setIfInBounds_toArray, List.set_cons_zero, List.set_cons_succ])
    refine wpAnyH_take (i := 16) (oi := ?_) (v := ?_) ?_ (by kernel_rfl) (by kernel_rfl) (by kernel_rfl) ?_ (Or.inl ⟨?_, ?_⟩) (by assumption) ?_
    rotate_left 2
    · (simp only [List.getElem?_toArray, List.getElem?_cons_succ, List.getElem?_cons_zero]; rfl)
    · exact fun _ _ _ h => h
    · rfl
    · (intro w hSw; (try dsimp only at hSw); go_simp <;> with_reducible rfl)
    (try simp only [Act.put, List.setIfInBounds_toArray, List.set_cons_zero, List.set_cons_succ])
    refine wpAnyH_done (by kernel_rfl) ?_ _
    go_wp2_with fail
    go_ret
    exact ⟨by rw [HZ.out]; rfl, HW2.out.only⟩

end Go.Proofs.YtookbmpaoljelaaGreat
