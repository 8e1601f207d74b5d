/-
  Package node: rise and all (with the library's ContainsFunc and IndexFunc) at entries, texts and messages; Route, Waiting; the library's Contains. (Written by wip/tools/gennode2.py.)
-/
import Derived.Test.YtookbmpaoljelaaNode1
import Derived.IntWalk
namespace Go.Proofs.Ytookbmpaoljelaa
open Go Go.RowKit
set_option linter.unusedVariables false
set_option linter.unusedSimpArgs false
set_option maxRecDepth 100000

/-- What IndexFunc says: a place, just if not all fit. -/
def IdxP (q : Bool) (w : World) (e : Ending) (w' : World) : Prop := ∃ z : Int, e = .returned (.int .i64 z) ∧ (0 ≤ z ↔ q = false) ∧ Only (fun _ => False) w w'
theorem idx_yes {q : Bool} {w w' : World} (z : Int) (hz : 0 ≤ z) (hq : q = false) (ho : Only (fun _ => False) w w') : IdxP q w (.returned (.int .i64 z)) w' := ⟨z, rfl, ⟨fun _ => hq, fun _ => hz⟩, ho⟩
theorem idx_no {q : Bool} {w w' : World} (hq : q = true) (ho : Only (fun _ => False) w w') : IdxP q w (.returned (.int .i64 (-1))) w' := ⟨-1, rfl, ⟨fun h => by omega, fun h => by rw [hq] at h; cases h⟩, ho⟩
set_option maxHeartbeats 2000000 in
theorem rise_e (ao : Option Addr) (n c : Nat) (l : List En) (w : World) (hl : SlG w ao l) (hn : n = l.length) (hb : n ≤ 140737488351232) :
    Calls Try.prog 49 #[.slice ao n c, .func (.func 48) #[] #[]] w fun r w' => r = .returned (.bool (riseB entryLt l)) ∧ Only (fun _ => False) w w' := by
  have HL := Lib.hid hl
  have HN := Lib.hid hn
  clear hl hn
  go_enter Try.func49, Try.ntmps49
  go_wp2_with fail
  go_loopw [5] (fun i wr => ∃ k : Nat, (k ≤ n) ∧ i = .int .i64 ((k : Int) + 1) ∧ Hid (∀ j, j < k → j + 1 < l.length → entryLt (l.getD j default) (l.getD (j + 1) default) = true) ∧ Hid (Only (fun _ => False) w wr)) (fun i _ => n + 1 - (intOf i).toNat)
  case atStart => exact ⟨0, Nat.zero_le _, rfl, Lib.hid (fun j hj => by omega), Lib.hid (Only.refl _ _)⟩
  case round =>
    obtain ⟨k, hk, rfl, HI, HO⟩ := hrel
    by_cases hlt : k + 1 < n
    · obtain ⟨g, off, rfl, x0, x1, x2, x3, x4, x5⟩ := (HL.out.keep HO.out).en (j := k) (by rw [← HN.out]; omega)
      obtain ⟨g2, off2, he, y0, y1, y2, y3, y4, y5⟩ := (HL.out.keep HO.out).en (j := k + 1) (by rw [← HN.out]; omega)
      simp only [Option.some.injEq, Addr.mk.injEq, and_true] at he
      obtain ⟨rfl, rfl⟩ := he
      have HE := Lib.hid (rise_no (lt := entryLt) (l := l) (i := k) (by rw [← HN.out]; omega))
      have HX : Hid (entryLt (l.getD k default) (l.getD (k + 1) default) = true → ∀ j, j < k + 1 → j + 1 < l.length → entryLt (l.getD j default) (l.getD (j + 1) default) = true) := Lib.hid (fun h j hj h2 => by
        by_cases e : j = k
        · subst e; exact h
        · exact HI.out j (by omega) h2)
      generalize l.getD k default = a at *
      generalize l.getD (k + 1) default = b at *
      have HC := Lib.hid (fun W => elt_any a b W)
      obtain ⟨q, hq⟩ : ∃ q, entryLt a b = q := ⟨_, rfl⟩
      rw [hq] at HC HE HX
      clear hq HI
      have hltI : (k : Int) + 1 < (n : Int) := by omega
      have h0 : (0 : Int) ≤ (k : Int) := by omega
      have h1 : (0 : Int) ≤ (k : Int) + 1 := by omega
      have h2 : (k : Int) < (n : Int) := by omega
      go_upto_region 4 with fail
      have hs1 : IntKind.i64.wrap (k : Int) = (k : Int) := IntWalk.i64_in _ (by omega)
      have hs2 : ((k : Int) + 1).toNat = k + 1 := by omega
      go_still_tail 10, (by kernel_rfl)
      change wpList _ _ _ _ _ wr.drew
      clear x0 x1 x2 x3 x4 x5 y0 y1 y2 y3 y4 y5 hs1 hs2
      go_wp2_with fail
      refine (HC.out _).mono ?_
      rintro e w1 ⟨rfl, ho⟩
      have HO2 := Lib.hid (HO.out.drew.trans ho (fun _ _ h => h))
      clear ho HO HC
      cases q with
      | true =>
        go_wp2_with fail
        go_roundw
        case rel => exact ⟨k + 1, by omega, by go_num, Lib.hid (HX.out (by first | rfl | trivial)), HO2⟩
        case measure => simp [intOf]; omega
      | false =>
        go_wp2_with fail
        go_ret
        exact ⟨by rw [HE.out (by first | rfl | trivial)]; rfl, HO2.out⟩
    · have hltI : ¬ (k : Int) + 1 < (n : Int) := by omega
      have HE : Hid (riseB entryLt l = true) := Lib.hid ((rise_iff entryLt l).2 (fun i hi => HI.out i (by have := HN.out; omega) hi))
      go_wp2_with fail
      go_ret
      exact ⟨by rw [HE.out]; rfl, HO.out⟩

set_option maxHeartbeats 2000000 in
theorem rise_s (ao : Option Addr) (n c : Nat) (l : List ByteArray) (w : World) (hl : SlG w ao l) (hn : n = l.length) (hb : n ≤ 140737488351232) :
    Calls Try.prog 53 #[.slice ao n c, .func (.func 54) #[] #[]] w fun r w' => r = .returned (.bool (riseB blt l)) ∧ Only (fun _ => False) w w' := by
  have HL := Lib.hid hl
  have HN := Lib.hid hn
  clear hl hn
  go_enter Try.func53, Try.ntmps53
  go_wp2_with fail
  go_loopw [5] (fun i wr => ∃ k : Nat, (k ≤ n) ∧ i = .int .i64 ((k : Int) + 1) ∧ Hid (∀ j, j < k → j + 1 < l.length → blt (l.getD j default) (l.getD (j + 1) default) = true) ∧ Hid (Only (fun _ => False) w wr)) (fun i _ => n + 1 - (intOf i).toNat)
  case atStart => exact ⟨0, Nat.zero_le _, rfl, Lib.hid (fun j hj => by omega), Lib.hid (Only.refl _ _)⟩
  case round =>
    obtain ⟨k, hk, rfl, HI, HO⟩ := hrel
    by_cases hlt : k + 1 < n
    · obtain ⟨g, off, rfl, x0⟩ := (HL.out.keep HO.out).st (j := k) (by rw [← HN.out]; omega)
      obtain ⟨g2, off2, he, y0⟩ := (HL.out.keep HO.out).st (j := k + 1) (by rw [← HN.out]; omega)
      simp only [Option.some.injEq, Addr.mk.injEq, and_true] at he
      obtain ⟨rfl, rfl⟩ := he
      have HE := Lib.hid (rise_no (lt := blt) (l := l) (i := k) (by rw [← HN.out]; omega))
      have HX : Hid (blt (l.getD k default) (l.getD (k + 1) default) = true → ∀ j, j < k + 1 → j + 1 < l.length → blt (l.getD j default) (l.getD (j + 1) default) = true) := Lib.hid (fun h j hj h2 => by
        by_cases e : j = k
        · subst e; exact h
        · exact HI.out j (by omega) h2)
      generalize l.getD k default = a at *
      generalize l.getD (k + 1) default = b at *
      have HC := Lib.hid (fun W => less_any a b W)
      obtain ⟨q, hq⟩ : ∃ q, blt a b = q := ⟨_, rfl⟩
      rw [hq] at HC HE HX
      clear hq HI
      have hltI : (k : Int) + 1 < (n : Int) := by omega
      have h0 : (0 : Int) ≤ (k : Int) := by omega
      have h1 : (0 : Int) ≤ (k : Int) + 1 := by omega
      have h2 : (k : Int) < (n : Int) := by omega
      go_upto_region 4 with fail
      have hs1 : IntKind.i64.wrap (k : Int) = (k : Int) := IntWalk.i64_in _ (by omega)
      have hs2 : ((k : Int) + 1).toNat = k + 1 := by omega
      go_still_tail 10, (by kernel_rfl)
      change wpList _ _ _ _ _ wr.drew
      clear x0 y0 hs1 hs2
      go_wp2_with fail
      refine (HC.out _).mono ?_
      rintro e w1 ⟨rfl, rfl⟩
      have HO2 := Lib.hid HO.out.drew
      clear HO HC
      cases q with
      | true =>
        go_wp2_with fail
        go_roundw
        case rel => exact ⟨k + 1, by omega, by go_num, Lib.hid (HX.out (by first | rfl | trivial)), HO2⟩
        case measure => simp [intOf]; omega
      | false =>
        go_wp2_with fail
        go_ret
        exact ⟨by rw [HE.out (by first | rfl | trivial)]; rfl, HO2.out⟩
    · have hltI : ¬ (k : Int) + 1 < (n : Int) := by omega
      have HE : Hid (riseB blt l = true) := Lib.hid ((rise_iff blt l).2 (fun i hi => HI.out i (by have := HN.out; omega) hi))
      go_wp2_with fail
      go_ret
      exact ⟨by rw [HE.out]; rfl, HO.out⟩

set_option maxHeartbeats 2000000 in
theorem rise_m (ao : Option Addr) (n c : Nat) (l : List Ms) (w : World) (hl : SlG w ao l) (hn : n = l.length) (hb : n ≤ 140737488351232) :
    Calls Try.prog 85 #[.slice ao n c, .func (.func 84) #[] #[]] w fun r w' => r = .returned (.bool (riseB msgLt l)) ∧ Only (fun _ => False) w w' := by
  have HL := Lib.hid hl
  have HN := Lib.hid hn
  clear hl hn
  go_enter Try.func85, Try.ntmps85
  go_wp2_with fail
  go_loopw [5] (fun i wr => ∃ k : Nat, (k ≤ n) ∧ i = .int .i64 ((k : Int) + 1) ∧ Hid (∀ j, j < k → j + 1 < l.length → msgLt (l.getD j default) (l.getD (j + 1) default) = true) ∧ Hid (Only (fun _ => False) w wr)) (fun i _ => n + 1 - (intOf i).toNat)
  case atStart => exact ⟨0, Nat.zero_le _, rfl, Lib.hid (fun j hj => by omega), Lib.hid (Only.refl _ _)⟩
  case round =>
    obtain ⟨k, hk, rfl, HI, HO⟩ := hrel
    by_cases hlt : k + 1 < n
    · obtain ⟨g, off, rfl, x0, x1, x2, x3, x4, x5, x6⟩ := (HL.out.keep HO.out).ms (j := k) (by rw [← HN.out]; omega)
      obtain ⟨g2, off2, he, y0, y1, y2, y3, y4, y5, y6⟩ := (HL.out.keep HO.out).ms (j := k + 1) (by rw [← HN.out]; omega)
      simp only [Option.some.injEq, Addr.mk.injEq, and_true] at he
      obtain ⟨rfl, rfl⟩ := he
      have HE := Lib.hid (rise_no (lt := msgLt) (l := l) (i := k) (by rw [← HN.out]; omega))
      have HX : Hid (msgLt (l.getD k default) (l.getD (k + 1) default) = true → ∀ j, j < k + 1 → j + 1 < l.length → msgLt (l.getD j default) (l.getD (j + 1) default) = true) := Lib.hid (fun h j hj h2 => by
        by_cases e : j = k
        · subst e; exact h
        · exact HI.out j (by omega) h2)
      generalize l.getD k default = a at *
      generalize l.getD (k + 1) default = b at *
      have HC := Lib.hid (fun W => mlt_any a b W)
      obtain ⟨q, hq⟩ : ∃ q, msgLt a b = q := ⟨_, rfl⟩
      rw [hq] at HC HE HX
      clear hq HI
      have hltI : (k : Int) + 1 < (n : Int) := by omega
      have h0 : (0 : Int) ≤ (k : Int) := by omega
      have h1 : (0 : Int) ≤ (k : Int) + 1 := by omega
      have h2 : (k : Int) < (n : Int) := by omega
      go_upto_region 4 with fail
      have hs1 : IntKind.i64.wrap (k : Int) = (k : Int) := IntWalk.i64_in _ (by omega)
      have hs2 : ((k : Int) + 1).toNat = k + 1 := by omega
      go_still_tail 10, (by kernel_rfl)
      change wpList _ _ _ _ _ wr.drew
      clear x0 x1 x2 x3 x4 x5 x6 y0 y1 y2 y3 y4 y5 y6 hs1 hs2
      go_wp2_with fail
      refine (HC.out _).mono ?_
      rintro e w1 ⟨rfl, ho⟩
      have HO2 := Lib.hid (HO.out.drew.trans ho (fun _ _ h => h))
      clear ho HO HC
      cases q with
      | true =>
        go_wp2_with fail
        go_roundw
        case rel => exact ⟨k + 1, by omega, by go_num, Lib.hid (HX.out (by first | rfl | trivial)), HO2⟩
        case measure => simp [intOf]; omega
      | false =>
        go_wp2_with fail
        go_ret
        exact ⟨by rw [HE.out (by first | rfl | trivial)]; rfl, HO2.out⟩
    · have hltI : ¬ (k : Int) + 1 < (n : Int) := by omega
      have HE : Hid (riseB msgLt l = true) := Lib.hid ((rise_iff msgLt l).2 (fun i hi => HI.out i (by have := HN.out; omega) hi))
      go_wp2_with fail
      go_ret
      exact ⟨by rw [HE.out]; rfl, HO.out⟩

theorem all1_e (a : En) (p : Nat) (w : World) (hc : w.cell? ⟨p, 0, none⟩ = some (.func (.func 51) #[] #[])) :
    Calls Try.prog 78 #[env a, .pointer (some ⟨p, 0, none⟩)] w fun r w' => r = .returned (.bool (!entryB a)) ∧ Only (fun _ => False) w w' := by
  have HB := Lib.hid (fun o => (Only.refl (fun _ => False) w).alloc o)
  have hc2 : (w.alloc (.cells #[.string a.k, .bool a.h, .string a.v, .int .u64 a.x, .bool a.n, .string a.nv] 45)).cell? ⟨p, 0, none⟩ = some (.func (.func 51) #[] #[]) := (HB.out _).cellq hc
  have hca := efits_any a (w.alloc (.cells #[.string a.k, .bool a.h, .string a.v, .int .u64 a.x, .bool a.n, .string a.nv] 45))
  obtain ⟨q, hq⟩ : ∃ q, entryB a = q := ⟨_, rfl⟩
  rw [hq] at hca
  have HQ := Lib.hid hq
  have HCA := Lib.hid hca
  clear hc hq hca 
  go_enter Try.func78, Try.ntmps78
  go_wp2_with fail
  refine HCA.out.mono ?_
  rintro e w1 ⟨rfl, ho⟩
  have HO2 := Lib.hid ((HB.out _).trans ho (fun _ _ h => h))
  clear ho
  cases q
  all_goals
    go_wp2_with fail
    go_ret
    exact ⟨by rw [HQ.out]; rfl, HO2.out⟩
set_option maxHeartbeats 2000000 in
theorem xf_e (pf : En → Bool) (ao : Option Addr) (n c : Nat) (l : List En) (p : Nat) (w : World) (hl : SlG w ao l) (hn : n = l.length) (hb : n ≤ 140737488351232)
    (HF : ∀ W (a : En), Only (fun _ => False) w W → Calls Try.prog 78 #[env a, .pointer (some ⟨p, 0, none⟩)] W fun r w' => r = .returned (.bool (!pf a)) ∧ Only (fun _ => False) W w') :
    Calls Try.prog 96 #[.slice ao n c, .func (.func 78) #[] #[.pointer (some ⟨p, 0, none⟩)]] w (IdxP (l.all pf) w) := by
  obtain ⟨q0, hq0⟩ : ∃ q0, l.all pf = q0 := ⟨_, rfl⟩
  rw [hq0]
  have HQ0 := Lib.hid hq0
  clear hq0
  have HL := Lib.hid hl
  have HN := Lib.hid hn
  have HFF := Lib.hid HF
  clear hl hn HF
  go_enter Try.func96, Try.ntmps96
  go_wp2_with fail
  go_loopw [8] (fun i wr => ∃ k : Nat, (k ≤ n) ∧ i = .int .i64 (k : Int) ∧ Hid (∀ j, j < k → pf (l.getD j default) = true) ∧ Hid (Only (fun _ => False) w wr)) (fun i _ => n - (intOf i).toNat)
  case atStart => exact ⟨0, Nat.zero_le _, rfl, Lib.hid (fun j hj => by omega), Lib.hid (Only.refl _ _)⟩
  case round =>
    obtain ⟨k, hk, rfl, HI, HO⟩ := hrel
    by_cases hlt : k < n
    · obtain ⟨g, off, rfl, x0, x1, x2, x3, x4, x5⟩ := (HL.out.keep HO.out).en (j := k) (by rw [← HN.out]; omega)
      have HE : Hid (pf (l.getD k default) = false → q0 = false) := Lib.hid (fun h => by rw [← HQ0.out]; exact all_no (f := pf) (l := l) (i := k) (by rw [← HN.out]; omega) h)
      have HX : Hid (pf (l.getD k default) = true → ∀ j, j < k + 1 → pf (l.getD j default) = true) := Lib.hid (fun h j hj => by
        by_cases e : j = k
        · subst e; exact h
        · exact HI.out j (by omega))
      generalize l.getD k default = a at *
      have HC := Lib.hid (HFF.out wr a HO.out)
      obtain ⟨q, hq⟩ : ∃ q, pf a = q := ⟨_, rfl⟩
      rw [hq] at HC HE HX
      clear hq HI
      have hltI : (k : Int) < (n : Int) := by omega
      have h0 : (0 : Int) ≤ (k : Int) := by omega
      go_wp2_with fail
      refine HC.out.mono ?_
      rintro e w1 ⟨rfl, ho⟩
      have HO2 := Lib.hid (HO.out.trans ho (fun _ _ h => h))
      clear ho HO HC x0 x1 x2 x3 x4 x5
      cases q with
      | true =>
        simp only [Bool.not_true]
        go_wp2_with fail
        go_roundw
        case rel => exact ⟨k + 1, by omega, by go_num, Lib.hid (HX.out (by first | rfl | trivial)), HO2⟩
        case measure => simp [intOf]; omega
      | false =>
        simp only [Bool.not_false]
        go_wp2_with fail
        go_ret
        exact idx_yes _ (by omega) (HE.out (by first | rfl | trivial)) HO2.out
    · have hltI : ¬ (k : Int) < (n : Int) := by omega
      have HE : Hid (q0 = true) := Lib.hid (by rw [← HQ0.out]; exact all_iff.2 (fun i hi => HI.out i (by have := HN.out; omega)))
      go_wp2_with fail
      go_ret
      exact idx_no HE.out HO.out
theorem cf_e (pf : En → Bool) (ao : Option Addr) (n c : Nat) (l : List En) (p : Nat) (w : World) (hl : SlG w ao l) (hn : n = l.length) (hb : n ≤ 140737488351232)
    (HF : ∀ W (a : En), Only (fun _ => False) w W → Calls Try.prog 78 #[env a, .pointer (some ⟨p, 0, none⟩)] W fun r w' => r = .returned (.bool (!pf a)) ∧ Only (fun _ => False) W w') :
    Calls Try.prog 77 #[.slice ao n c, .func (.func 78) #[] #[.pointer (some ⟨p, 0, none⟩)]] w fun r w' => r = .returned (.bool (!l.all pf)) ∧ Only (fun _ => False) w w' := by
  have hx := xf_e pf ao n c l p w hl hn hb HF
  clear hl hn HF
  generalize l.all pf = q at *
  have HX := Lib.hid hx
  clear hx
  go_enter Try.func77, Try.ntmps77
  go_wp2_with fail
  refine HX.out.mono ?_
  rintro e w1 ⟨z, rfl, hz, ho⟩
  have HO := Lib.hid ho
  have HZ := Lib.hid hz
  clear ho hz HX
  by_cases h : 0 ≤ z
  · have HV := Lib.hid (HZ.out.1 h)
    have hd : decide (0 ≤ z) = true := by simpa using h
    go_wp2_with fail
    go_ret
    exact ⟨by rw [HV.out]; first | rfl | simp [hd], HO.out⟩
  · have HV : Hid (q = true) := Lib.hid (by
      cases e : q with
      | true => rfl
      | false => exact absurd (HZ.out.2 e) h)
    have hd : decide (0 ≤ z) = false := by simpa using h
    go_wp2_with fail
    go_ret
    exact ⟨by rw [HV.out]; first | rfl | simp [hd], HO.out⟩
theorem all_e (ao : Option Addr) (n c : Nat) (l : List En) (w : World) (hl : SlG w ao l) (hn : n = l.length) (hb : n ≤ 140737488351232) :
    Calls Try.prog 50 #[.slice ao n c, .func (.func 51) #[] #[]] w fun r w' => r = .returned (.bool (l.all entryB)) ∧ Only (fun _ => False) w w' := by
  have HB := Lib.hid (fun o => (Only.refl (fun _ => False) w).alloc o)
  have hx := (cf_e entryB ao n c l w.heap.size (w.alloc (.cells #[.func (.func 51) #[] #[]] 86)) (hl.keep (HB.out _)) hn hb
    (fun W a ho => all1_e a w.heap.size W (ho.cellq (by go_simp)) ))
  clear hl hn 
  generalize l.all entryB = q at *
  have HX := Lib.hid hx
  clear hx
  go_enter Try.func50, Try.ntmps50
  go_wp2_with fail
  refine HX.out.mono ?_
  rintro e w1 ⟨rfl, ho⟩
  have HO := Lib.hid ((HB.out _).trans ho (fun _ _ h => h))
  clear ho HX
  cases q
  all_goals
    go_wp2_with fail
    go_ret
    exact ⟨rfl, HO.out⟩

theorem all1_s (a : ByteArray) (p : Nat) (w : World) (hc : w.cell? ⟨p, 0, none⟩ = some (.func (.func 56) #[] #[])) :
    Calls Try.prog 83 #[.string a, .pointer (some ⟨p, 0, none⟩)] w fun r w' => r = .returned (.bool (!(fun s => decide (s.size ≤ 256)) a)) ∧ Only (fun _ => False) w w' := by
  have HB := Lib.hid (fun o => (Only.refl (fun _ => False) w).alloc o)
  have hc2 : w.cell? ⟨p, 0, none⟩ = some (.func (.func 56) #[] #[]) := hc
  have hca := keyfits_any a w
  obtain ⟨q, hq⟩ : ∃ q, (fun s => decide (s.size ≤ 256)) a = q := ⟨_, rfl⟩
  simp only [] at hq; rw [hq] at hca
  have HQ := Lib.hid hq
  have HCA := Lib.hid hca
  clear hc hq hca 
  go_enter Try.func83, Try.ntmps83
  go_wp2_with fail
  refine HCA.out.mono ?_
  rintro e w1 ⟨rfl, rfl⟩
  have HO2 := Lib.hid (Only.refl (fun _ => False) w)
  cases q
  all_goals
    go_wp2_with fail
    go_ret
    exact ⟨by rw [HQ.out]; rfl, HO2.out⟩
set_option maxHeartbeats 2000000 in
theorem xf_s (pf : ByteArray → Bool) (ao : Option Addr) (n c : Nat) (l : List ByteArray) (p : Nat) (w : World) (hl : SlG w ao l) (hn : n = l.length) (hb : n ≤ 140737488351232)
    (HF : ∀ W (a : ByteArray), Only (fun _ => False) w W → Calls Try.prog 83 #[.string a, .pointer (some ⟨p, 0, none⟩)] W fun r w' => r = .returned (.bool (!pf a)) ∧ Only (fun _ => False) W w') :
    Calls Try.prog 97 #[.slice ao n c, .func (.func 83) #[] #[.pointer (some ⟨p, 0, none⟩)]] w (IdxP (l.all pf) w) := by
  obtain ⟨q0, hq0⟩ : ∃ q0, l.all pf = q0 := ⟨_, rfl⟩
  rw [hq0]
  have HQ0 := Lib.hid hq0
  clear hq0
  have HL := Lib.hid hl
  have HN := Lib.hid hn
  have HFF := Lib.hid HF
  clear hl hn HF
  go_enter Try.func97, Try.ntmps97
  go_wp2_with fail
  go_loopw [8] (fun i wr => ∃ k : Nat, (k ≤ n) ∧ i = .int .i64 (k : Int) ∧ Hid (∀ j, j < k → pf (l.getD j default) = true) ∧ Hid (Only (fun _ => False) w wr)) (fun i _ => n - (intOf i).toNat)
  case atStart => exact ⟨0, Nat.zero_le _, rfl, Lib.hid (fun j hj => by omega), Lib.hid (Only.refl _ _)⟩
  case round =>
    obtain ⟨k, hk, rfl, HI, HO⟩ := hrel
    by_cases hlt : k < n
    · obtain ⟨g, off, rfl, x0⟩ := (HL.out.keep HO.out).st (j := k) (by rw [← HN.out]; omega)
      have HE : Hid (pf (l.getD k default) = false → q0 = false) := Lib.hid (fun h => by rw [← HQ0.out]; exact all_no (f := pf) (l := l) (i := k) (by rw [← HN.out]; omega) h)
      have HX : Hid (pf (l.getD k default) = true → ∀ j, j < k + 1 → pf (l.getD j default) = true) := Lib.hid (fun h j hj => by
        by_cases e : j = k
        · subst e; exact h
        · exact HI.out j (by omega))
      generalize l.getD k default = a at *
      have HC := Lib.hid (HFF.out wr a HO.out)
      obtain ⟨q, hq⟩ : ∃ q, pf a = q := ⟨_, rfl⟩
      rw [hq] at HC HE HX
      clear hq HI
      have hltI : (k : Int) < (n : Int) := by omega
      have h0 : (0 : Int) ≤ (k : Int) := by omega
      go_wp2_with fail
      refine HC.out.mono ?_
      rintro e w1 ⟨rfl, ho⟩
      have HO2 := Lib.hid (HO.out.trans ho (fun _ _ h => h))
      clear ho HO HC x0
      cases q with
      | true =>
        simp only [Bool.not_true]
        go_wp2_with fail
        go_roundw
        case rel => exact ⟨k + 1, by omega, by go_num, Lib.hid (HX.out (by first | rfl | trivial)), HO2⟩
        case measure => simp [intOf]; omega
      | false =>
        simp only [Bool.not_false]
        go_wp2_with fail
        go_ret
        exact idx_yes _ (by omega) (HE.out (by first | rfl | trivial)) HO2.out
    · have hltI : ¬ (k : Int) < (n : Int) := by omega
      have HE : Hid (q0 = true) := Lib.hid (by rw [← HQ0.out]; exact all_iff.2 (fun i hi => HI.out i (by have := HN.out; omega)))
      go_wp2_with fail
      go_ret
      exact idx_no HE.out HO.out
theorem cf_s (pf : ByteArray → Bool) (ao : Option Addr) (n c : Nat) (l : List ByteArray) (p : Nat) (w : World) (hl : SlG w ao l) (hn : n = l.length) (hb : n ≤ 140737488351232)
    (HF : ∀ W (a : ByteArray), Only (fun _ => False) w W → Calls Try.prog 83 #[.string a, .pointer (some ⟨p, 0, none⟩)] W fun r w' => r = .returned (.bool (!pf a)) ∧ Only (fun _ => False) W w') :
    Calls Try.prog 82 #[.slice ao n c, .func (.func 83) #[] #[.pointer (some ⟨p, 0, none⟩)]] w fun r w' => r = .returned (.bool (!l.all pf)) ∧ Only (fun _ => False) w w' := by
  have hx := xf_s pf ao n c l p w hl hn hb HF
  clear hl hn HF
  generalize l.all pf = q at *
  have HX := Lib.hid hx
  clear hx
  go_enter Try.func82, Try.ntmps82
  go_wp2_with fail
  refine HX.out.mono ?_
  rintro e w1 ⟨z, rfl, hz, ho⟩
  have HO := Lib.hid ho
  have HZ := Lib.hid hz
  clear ho hz HX
  by_cases h : 0 ≤ z
  · have HV := Lib.hid (HZ.out.1 h)
    have hd : decide (0 ≤ z) = true := by simpa using h
    go_wp2_with fail
    go_ret
    exact ⟨by rw [HV.out]; first | rfl | simp [hd], HO.out⟩
  · have HV : Hid (q = true) := Lib.hid (by
      cases e : q with
      | true => rfl
      | false => exact absurd (HZ.out.2 e) h)
    have hd : decide (0 ≤ z) = false := by simpa using h
    go_wp2_with fail
    go_ret
    exact ⟨by rw [HV.out]; first | rfl | simp [hd], HO.out⟩
theorem all_s (ao : Option Addr) (n c : Nat) (l : List ByteArray) (w : World) (hl : SlG w ao l) (hn : n = l.length) (hb : n ≤ 140737488351232) :
    Calls Try.prog 55 #[.slice ao n c, .func (.func 56) #[] #[]] w fun r w' => r = .returned (.bool (l.all (fun s => decide (s.size ≤ 256)))) ∧ Only (fun _ => False) w w' := by
  have HB := Lib.hid (fun o => (Only.refl (fun _ => False) w).alloc o)
  have hx := (cf_s (fun s => decide (s.size ≤ 256)) ao n c l w.heap.size (w.alloc (.cells #[.func (.func 56) #[] #[]] 82)) (hl.keep (HB.out _)) hn hb
    (fun W a ho => all1_s a w.heap.size W (ho.cellq (by go_simp)) ))
  clear hl hn 
  generalize l.all (fun s => decide (s.size ≤ 256)) = q at *
  have HX := Lib.hid hx
  clear hx
  go_enter Try.func55, Try.ntmps55
  go_wp2_with fail
  refine HX.out.mono ?_
  rintro e w1 ⟨rfl, ho⟩
  have HO := Lib.hid ((HB.out _).trans ho (fun _ _ h => h))
  clear ho HX
  cases q
  all_goals
    go_wp2_with fail
    go_ret
    exact ⟨rfl, HO.out⟩

theorem all1_m (pn pk : Nat) (pf : Ms → Bool) (a : Ms) (p : Nat) (w : World) (hc : w.cell? ⟨p, 0, none⟩ = some (.func (.func 87) #[] #[.pointer (some ⟨pn, 0, none⟩), .pointer (some ⟨pk, 0, none⟩)])) (HF : ∀ W (a : Ms), Only (fun _ => False) w W → Calls Try.prog 87 #[msv a, .pointer (some ⟨pn, 0, none⟩), .pointer (some ⟨pk, 0, none⟩)] W fun r w2 => r = .returned (.bool (pf a)) ∧ Only (fun _ => False) W w2) :
    Calls Try.prog 99 #[msv a, .pointer (some ⟨p, 0, none⟩)] w fun r w' => r = .returned (.bool (!pf a)) ∧ Only (fun _ => False) w w' := by
  have HB := Lib.hid (fun o => (Only.refl (fun _ => False) w).alloc o)
  have HFF := Lib.hid HF
  clear HF
  have hc2 : (w.alloc (.cells #[.int .u64 a.sq, .int .i64 a.K, .string a.k, .int .u64 a.x, .string a.v, .int .i64 a.off, .int .u64 a.num] 57)).cell? ⟨p, 0, none⟩ = some (.func (.func 87) #[] #[.pointer (some ⟨pn, 0, none⟩), .pointer (some ⟨pk, 0, none⟩)]) := (HB.out _).cellq hc
  have hca := HFF.out (w.alloc (.cells #[.int .u64 a.sq, .int .i64 a.K, .string a.k, .int .u64 a.x, .string a.v, .int .i64 a.off, .int .u64 a.num] 57)) a (HB.out _)
  obtain ⟨q, hq⟩ : ∃ q, pf a = q := ⟨_, rfl⟩
  rw [hq] at hca
  have HQ := Lib.hid hq
  have HCA := Lib.hid hca
  clear hc hq hca HFF
  go_enter Try.func99, Try.ntmps99
  go_wp2_with fail
  refine HCA.out.mono ?_
  rintro e w1 ⟨rfl, ho⟩
  have HO2 := Lib.hid ((HB.out _).trans ho (fun _ _ h => h))
  clear ho
  cases q
  all_goals
    go_wp2_with fail
    go_ret
    exact ⟨by rw [HQ.out]; rfl, HO2.out⟩
set_option maxHeartbeats 2000000 in
theorem xf_m (pf : Ms → Bool) (ao : Option Addr) (n c : Nat) (l : List Ms) (p : Nat) (w : World) (hl : SlG w ao l) (hn : n = l.length) (hb : n ≤ 140737488351232)
    (HF : ∀ W (a : Ms), Only (fun _ => False) w W → Calls Try.prog 99 #[msv a, .pointer (some ⟨p, 0, none⟩)] W fun r w' => r = .returned (.bool (!pf a)) ∧ Only (fun _ => False) W w') :
    Calls Try.prog 101 #[.slice ao n c, .func (.func 99) #[] #[.pointer (some ⟨p, 0, none⟩)]] w (IdxP (l.all pf) w) := by
  obtain ⟨q0, hq0⟩ : ∃ q0, l.all pf = q0 := ⟨_, rfl⟩
  rw [hq0]
  have HQ0 := Lib.hid hq0
  clear hq0
  have HL := Lib.hid hl
  have HN := Lib.hid hn
  have HFF := Lib.hid HF
  clear hl hn HF
  go_enter Try.func101, Try.ntmps101
  go_wp2_with fail
  go_loopw [8] (fun i wr => ∃ k : Nat, (k ≤ n) ∧ i = .int .i64 (k : Int) ∧ Hid (∀ j, j < k → pf (l.getD j default) = true) ∧ Hid (Only (fun _ => False) w wr)) (fun i _ => n - (intOf i).toNat)
  case atStart => exact ⟨0, Nat.zero_le _, rfl, Lib.hid (fun j hj => by omega), Lib.hid (Only.refl _ _)⟩
  case round =>
    obtain ⟨k, hk, rfl, HI, HO⟩ := hrel
    by_cases hlt : k < n
    · obtain ⟨g, off, rfl, x0, x1, x2, x3, x4, x5, x6⟩ := (HL.out.keep HO.out).ms (j := k) (by rw [← HN.out]; omega)
      have HE : Hid (pf (l.getD k default) = false → q0 = false) := Lib.hid (fun h => by rw [← HQ0.out]; exact all_no (f := pf) (l := l) (i := k) (by rw [← HN.out]; omega) h)
      have HX : Hid (pf (l.getD k default) = true → ∀ j, j < k + 1 → pf (l.getD j default) = true) := Lib.hid (fun h j hj => by
        by_cases e : j = k
        · subst e; exact h
        · exact HI.out j (by omega))
      generalize l.getD k default = a at *
      have HC := Lib.hid (HFF.out wr a HO.out)
      obtain ⟨q, hq⟩ : ∃ q, pf a = q := ⟨_, rfl⟩
      rw [hq] at HC HE HX
      clear hq HI
      have hltI : (k : Int) < (n : Int) := by omega
      have h0 : (0 : Int) ≤ (k : Int) := by omega
      go_wp2_with fail
      refine HC.out.mono ?_
      rintro e w1 ⟨rfl, ho⟩
      have HO2 := Lib.hid (HO.out.trans ho (fun _ _ h => h))
      clear ho HO HC x0 x1 x2 x3 x4 x5 x6
      cases q with
      | true =>
        simp only [Bool.not_true]
        go_wp2_with fail
        go_roundw
        case rel => exact ⟨k + 1, by omega, by go_num, Lib.hid (HX.out (by first | rfl | trivial)), HO2⟩
        case measure => simp [intOf]; omega
      | false =>
        simp only [Bool.not_false]
        go_wp2_with fail
        go_ret
        exact idx_yes _ (by omega) (HE.out (by first | rfl | trivial)) HO2.out
    · have hltI : ¬ (k : Int) < (n : Int) := by omega
      have HE : Hid (q0 = true) := Lib.hid (by rw [← HQ0.out]; exact all_iff.2 (fun i hi => HI.out i (by have := HN.out; omega)))
      go_wp2_with fail
      go_ret
      exact idx_no HE.out HO.out
theorem cf_m (pf : Ms → Bool) (ao : Option Addr) (n c : Nat) (l : List Ms) (p : Nat) (w : World) (hl : SlG w ao l) (hn : n = l.length) (hb : n ≤ 140737488351232)
    (HF : ∀ W (a : Ms), Only (fun _ => False) w W → Calls Try.prog 99 #[msv a, .pointer (some ⟨p, 0, none⟩)] W fun r w' => r = .returned (.bool (!pf a)) ∧ Only (fun _ => False) W w') :
    Calls Try.prog 98 #[.slice ao n c, .func (.func 99) #[] #[.pointer (some ⟨p, 0, none⟩)]] w fun r w' => r = .returned (.bool (!l.all pf)) ∧ Only (fun _ => False) w w' := by
  have hx := xf_m pf ao n c l p w hl hn hb HF
  clear hl hn HF
  generalize l.all pf = q at *
  have HX := Lib.hid hx
  clear hx
  go_enter Try.func98, Try.ntmps98
  go_wp2_with fail
  refine HX.out.mono ?_
  rintro e w1 ⟨z, rfl, hz, ho⟩
  have HO := Lib.hid ho
  have HZ := Lib.hid hz
  clear ho hz HX
  by_cases h : 0 ≤ z
  · have HV := Lib.hid (HZ.out.1 h)
    have hd : decide (0 ≤ z) = true := by simpa using h
    go_wp2_with fail
    go_ret
    exact ⟨by rw [HV.out]; first | rfl | simp [hd], HO.out⟩
  · have HV : Hid (q = true) := Lib.hid (by
      cases e : q with
      | true => rfl
      | false => exact absurd (HZ.out.2 e) h)
    have hd : decide (0 ≤ z) = false := by simpa using h
    go_wp2_with fail
    go_ret
    exact ⟨by rw [HV.out]; first | rfl | simp [hd], HO.out⟩
theorem all_m (pn pk : Nat) (pf : Ms → Bool) (ao : Option Addr) (n c : Nat) (l : List Ms) (w : World) (hl : SlG w ao l) (hn : n = l.length) (hb : n ≤ 140737488351232) (HF : ∀ W (a : Ms), Only (fun _ => False) w W → Calls Try.prog 87 #[msv a, .pointer (some ⟨pn, 0, none⟩), .pointer (some ⟨pk, 0, none⟩)] W fun r w2 => r = .returned (.bool (pf a)) ∧ Only (fun _ => False) W w2) :
    Calls Try.prog 86 #[.slice ao n c, .func (.func 87) #[] #[.pointer (some ⟨pn, 0, none⟩), .pointer (some ⟨pk, 0, none⟩)]] w fun r w' => r = .returned (.bool (l.all pf)) ∧ Only (fun _ => False) w w' := by
  have HB := Lib.hid (fun o => (Only.refl (fun _ => False) w).alloc o)
  have hx := (cf_m pf ao n c l w.heap.size (w.alloc (.cells #[.func (.func 87) #[] #[.pointer (some ⟨pn, 0, none⟩), .pointer (some ⟨pk, 0, none⟩)]] 112)) (hl.keep (HB.out _)) hn hb
    (fun W a ho => all1_m pn pk pf a w.heap.size W (ho.cellq (by go_simp)) (fun W2 a ho2 => HF W2 a (((HB.out _).trans ho (fun _ _ h => h)).trans ho2 (fun _ _ h => h)))))
  clear hl hn HF
  generalize l.all pf = q at *
  have HX := Lib.hid hx
  clear hx
  go_enter Try.func86, Try.ntmps86
  go_wp2_with fail
  refine HX.out.mono ?_
  rintro e w1 ⟨rfl, ho⟩
  have HO := Lib.hid ((HB.out _).trans ho (fun _ _ h => h))
  clear ho HX
  cases q
  all_goals
    go_wp2_with fail
    go_ret
    exact ⟨rfl, HO.out⟩

end Go.Proofs.Ytookbmpaoljelaa
