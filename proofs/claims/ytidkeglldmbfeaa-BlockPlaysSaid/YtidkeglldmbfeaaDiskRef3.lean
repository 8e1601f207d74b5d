/-
  Contracts of the reference's disk: Sync.
-/
import Derived.Test.YtidkeglldmbfeaaDiskRef2
namespace Go.Proofs.Ytidkeglldmbfeaa
open Go Go.RowKit
set_option linter.unusedVariables false
set_option linter.unusedSimpArgs false
set_option maxRecDepth 100000

theorem RefM.keptCell {w : World} {r gk gs ck cs : Nat} {vw : Value} {f : Int} {dn : Bool} {wr sy n m : Nat} {kb sb : List Nat} {wb : List (Nat × Nat)} (h : RefM w r gk gs ck cs vw f dn wr sy n m kb sb wb) {j : Nat} (hj : j < n) : w.cell? ⟨gk, j, none⟩ = some (sl64 (kb.getD j 0)) := by
  rw [h.kept.cellAt j (by simpa using hj)]
  simp [List.getD_eq_getElem?_getD, h.lk, hj]
theorem RefM.seenCell {w : World} {r gk gs ck cs : Nat} {vw : Value} {f : Int} {dn : Bool} {wr sy n m : Nat} {kb sb : List Nat} {wb : List (Nat × Nat)} (h : RefM w r gk gs ck cs vw f dn wr sy n m kb sb wb) {j : Nat} (hj : j < n) : w.cell? ⟨gs, j, none⟩ = some (sl64 (sb.getD j 0)) := by
  rw [h.seen.cellAt j (by simpa using hj)]
  simp [List.getD_eq_getElem?_getD, h.ls, hj]
theorem RefM.cell {w : World} {r gk gs ck cs : Nat} {vw : Value} {f : Int} {dn : Bool} {wr sy n m : Nat} {kb sb : List Nat} {wb : List (Nat × Nat)} (h : RefM w r gk gs ck cs vw f dn wr sy n m kb sb wb) (j : Nat) :
    w.cell? ⟨r, j, none⟩ = (#[.slice (some ⟨gk, 0, none⟩) n ck, .slice (some ⟨gs, 0, none⟩) n cs, vw, .int .i64 f, .bool dn, .int .i64 wr, .int .i64 sy] : Array Value)[j]? := by
  simp [World.cell?, h.at']
theorem RefM.free {w : World} {r gk gs ck cs : Nat} {vw : Value} {f : Int} {dn : Bool} {wr sy n m : Nat} {kb sb : List Nat} {wb : List (Nat × Nat)} (h : RefM w r gk gs ck cs vw f dn wr sy n m kb sb wb) (j : Nat) : w.frozen? ⟨r, j, none⟩ = false := by
  simp [World.frozen?, h.at']
theorem set_take_drop {α : Type} {xs ys : List α} {k : Nat} {d : α} (hl : xs.length = ys.length) (hk : k < xs.length) : (ys.take k ++ xs.drop k).set k (ys.getD k d) = ys.take (k + 1) ++ xs.drop (k + 1) := by
  have h1 : (ys.take k).length = k := by simp; omega
  rw [List.set_append_right _ _ (by omega), h1, Nat.sub_self, List.drop_eq_getElem_cons hk, List.set_cons_zero, List.take_succ_eq_append_getElem (by omega), List.append_assoc]
  simp [List.getD_eq_getElem?_getD, show k < ys.length by omega]

set_option maxHeartbeats 400000 in
theorem ref_sync_gone {w : World} {r gk gs ck cs : Nat} {vw : Value} {f : Int} {kb sb : List Nat} {wb : List (Nat × Nat)} {D : DS} (h : RefAt w r gk gs ck cs vw f kb sb wb D) (hd : D.down = true) :
    Calls Try.prog 27 #[.pointer (some ⟨r, 0, none⟩)] w fun e w' => e = .returned (.int .i64 4) ∧ w = w' := by
  have hc : w.cell? ⟨r, 4, none⟩ = some (.bool D.down) := h.cell 4
  rw [hd] at hc
  clear h hd
  go_enter Try.func27, Try.ntmps27
  go_wp2
  go_ret
  exact ⟨rfl, rfl⟩

set_option maxRecDepth 100000 in
set_option maxHeartbeats 1000000 in
theorem ref_sync_ok {w : World} {r gk gs ck cs : Nat} {vw : Value} {f : Int} {kb sb : List Nat} {wb : List (Nat × Nat)} {D : DS} (h : RefAt w r gk gs ck cs vw f kb sb wb D) (hcoh : Coh D) (hd : D.down = false) (hsy : D.sy ≤ 1000000) :
    Calls Try.prog 27 #[.pointer (some ⟨r, 0, none⟩)] w fun e w' => e = .returned (.int .i64 0) ∧ RefAt w' r gk gs ck cs (.slice none 0 0) f sb sb [] D.sync ∧ Only (RCore r gk gs vw) w w' := by
  have HA : Hid (∀ w', RefM w' r gk gs ck cs (.slice none 0 0) f false D.wr (D.sy + 1) D.n 0 sb sb [] → Only (RCore r gk gs vw) w w' → RefAt w' r gk gs ck cs (.slice none 0 0) f sb sb [] D.sync) := Lib.hid (fun w' hm ho => by
    have e : D.sync = { D with K := D.N, W := [], sy := D.sy + 1 } := by simp [DS.sync, hd]; exact hcoh.symm
    rw [e]
    refine ⟨⟨h.ok.n, h.ok.N, h.ok.N, fun x hx => by simp at hx, h.ok.fuse⟩, by rw [hd]; exact hm, fun _ => h.fuse hd, fun j hj => (h.hs j hj).hold h.m ho, fun j hj => (h.hs j hj).hold h.m ho, fun j hj => by simp at hj⟩)
  have hm := h.m
  rw [hd] at hm
  have hn := h.ok.n
  obtain ⟨n, en⟩ : ∃ n, n = D.n := ⟨_, rfl⟩
  obtain ⟨m, em⟩ : ∃ m, m = D.W.length := ⟨_, rfl⟩
  obtain ⟨sy, es⟩ : ∃ sy, sy = D.sy := ⟨_, rfl⟩
  obtain ⟨wrn, ew⟩ : ∃ wrn, wrn = D.wr := ⟨_, rfl⟩
  rw [← en] at HA hm hn
  rw [← em] at hm
  rw [← es] at HA hm hsy
  rw [← ew] at HA hm
  clear h hd hcoh en em es ew
  have hc4 := hm.cell 4
  have hlk := hm.lk
  have hls := hm.ls
  have HM0 := Lib.hid hm
  have HL := Lib.hid (show kb.length = sb.length by rw [hlk, hls])
  have HLk := Lib.hid hlk
  have HLs := Lib.hid hls
  clear hm hlk hls
  simp only [List.getElem?_toArray, List.getElem?_cons_succ, List.getElem?_cons_zero] at hc4
  go_enter Try.func27, Try.ntmps27
  go_wp2_with fail
  clear hc4
  go_loopw [3] (fun i wr => ∃ k : Nat, k ≤ n ∧ i = .int .i64 k ∧ Hid (RefM wr r gk gs ck cs vw f false wrn sy n m (sb.take k ++ kb.drop k) sb wb) ∧ Hid (Only (RCore r gk gs vw) w wr)) (fun i _ => n - (intOf i).toNat)
  case atStart => exact ⟨0, Nat.zero_le _, rfl, Lib.hid (by simpa using HM0.out), Lib.hid (Only.refl _ _)⟩
  case round =>
    clear HM0
    obtain ⟨k, hk, rfl, HM, HO⟩ := hrel
    have hc0 := HM.out.cell 0
    have hc1 := HM.out.cell 1
    simp only [List.getElem?_toArray, List.getElem?_cons_succ, List.getElem?_cons_zero] at hc0 hc1
    by_cases hlt : k < n
    · have hd1 := HM.out.seenCell hlt
      rw [sl64] at hd1
      have hd0 := HM.out.keptCell hlt
      obtain ⟨hm2, hfz⟩ := HM.out.putKept hlt (sb.getD k 0)
      rw [set_take_drop HL.out (by rw [HLk.out]; exact hlt)] at hm2
      rw [sl64] at hm2
      obtain ⟨b, hb⟩ : ∃ b, b = sb.getD k 0 := ⟨_, rfl⟩
      rw [← hb] at hm2 hd1
      have HM2 := Lib.hid hm2
      have HO2 := Lib.hid (HO.out.setCell (p := ⟨gk, k, none⟩) (fun _ => .inr (.inl rfl)) (.slice (some ⟨b, 0, none⟩) 64 64))
      have hltI : (k : Int) < (n : Int) := by omega
      have hk0 : (0 : Int) ≤ (k : Int) := by omega
      clear hm2 HM HO hb
      go_upto_region 6 with fail
      go_region
      all_goals
        go_wp2
        go_roundw
        case rel => exact ⟨k + 1, by omega, by go_num, Lib.hid (HM2.out.keep (fun _ _ => rfl)), Lib.hid HO2.out.drew⟩
        case measure => simp [intOf]; omega
    · obtain rfl : k = n := by omega
      have hm2 := HM.out
      rw [List.take_of_length_le (by rw [HLs.out]; exact Nat.le_refl _), List.drop_of_length_le (by rw [HLk.out]; exact Nat.le_refl _), List.append_nil] at hm2
      have hf2 := hm2.free 2
      have hm3 := hm2.calm
      have hf6 := hm3.free 6
      have hc6 := hm3.cell 6
      simp only [List.getElem?_toArray, List.getElem?_cons_succ, List.getElem?_cons_zero] at hc6
      have hc2 := hm2.cell 2
      simp only [List.getElem?_toArray, List.getElem?_cons_succ, List.getElem?_cons_zero] at hc2
      have HM4 := Lib.hid (hm3.set (f' := f) (dn' := false) (wr' := wrn) (sy' := sy + 1) 6 (.int .i64 ((sy : Int) + 1)) rfl)
      have HO4 := Lib.hid ((HO.out.setCell (p := ⟨r, 2, none⟩) (fun _ => .inl rfl) (.slice none 0 0)).setCell (p := ⟨r, 6, none⟩) (fun _ => .inl rfl) (.int .i64 ((sy : Int) + 1)))
      clear hm2 hm3 HM HO hlt hk
      go_wp2_with fail
      go_ret
      exact ⟨rfl, HA.out _ HM4.out HO4.out, HO4.out⟩

end Go.Proofs.Ytidkeglldmbfeaa
