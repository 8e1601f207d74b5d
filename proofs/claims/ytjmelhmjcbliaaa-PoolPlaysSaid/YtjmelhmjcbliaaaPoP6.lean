/-
  Package pool: room.
-/
import Derived.Test.YtjmelhmjcbliaaaPoP5
namespace Go.Proofs.Ytjmelhmjcbliaaa
open Go Go.RowKit
set_option linter.unusedVariables false
set_option linter.unusedSimpArgs false
set_option maxRecDepth 100000

theorem Bk.take_len (b : Bk) (id : Int) (x : List UInt8) : (b.take id x).asked = b.asked ∧ b.ids.length ≤ (b.take id x).ids.length ∧ (b.take id x).ids.length ≤ b.ids.length + 1 := by
  unfold Bk.take
  cases b.at id with
  | none => exact ⟨rfl, by simp, by simp⟩
  | some i => exact ⟨rfl, Nat.le_refl _, Nat.le_succ _⟩
theorem Bk.save_len (b : Bk) (id : Int) (x : List UInt8) : (b.save id x).1.asked.length = b.asked.length + 1 ∧ (b.save id x).1.ids.length ≤ b.ids.length + 1 := by
  by_cases h : b.full = 0
  · rw [Bk.save_no h]
    exact ⟨by unfold Bk.ask; simp, Nat.le_succ _⟩
  · rw [Bk.save_yes h]
    have h1 := Bk.take_len ((b.ask (2 * id + 1)).less) id x
    have h2 : ((b.ask (2 * id + 1)).less).asked.length = b.asked.length + 1 := by rw [less_eq]; unfold Bk.ask; simp
    have h3 : ((b.ask (2 * id + 1)).less).ids = b.ids := by rw [less_eq]; rfl
    rw [h3] at h1
    exact ⟨by rw [h1.1]; exact h2, h1.2.2⟩
theorem Po.save_len (p : Po) (i : Nat) : (p.save i).1.L.length = p.L.length ∧ (p.save i).1.most = p.most ∧ (p.save i).1.bk.asked.length ≤ p.bk.asked.length + 1 ∧ (p.save i).1.bk.ids.length ≤ p.bk.ids.length + 1 := by
  have h1 := Bk.save_len p.bk (p.pl i).id (p.pl i).b
  unfold Po.save
  split
  · split
    · exact ⟨List.length_set, rfl, by rw [h1.1]; exact Nat.le_refl _, h1.2⟩
    · exact ⟨rfl, rfl, by rw [h1.1]; exact Nat.le_refl _, h1.2⟩
  · exact ⟨rfl, rfl, Nat.le_succ _, Nat.le_succ _⟩
/-- How the ways of goes end. -/
theorem Po.goes_len (p : Po) : p.goes.1.most = p.most ∧ p.goes.1.bk.asked.length ≤ p.bk.asked.length + 1 ∧ p.goes.1.bk.ids.length ≤ p.bk.ids.length + 1 ∧ p.goes.1.L.length ≤ p.L.length ∧ (p.goes.2.2 = 0 → p.goes.1.L.length + 1 = p.L.length) ∧ (p.goes.2.2 ≠ 0 → p.goes.1.L.length = p.L.length) := by
  have hn := nextP_len (2 * p.L.length) p.L p.hand
  cases hx : (nextP (2 * p.L.length) p.L p.hand).2 with
  | none =>
    rw [goes_none hx]
    refine ⟨rfl, Nat.le_succ _, Nat.le_succ _, Nat.le_of_eq hn, fun h => by simp at h, fun _ => hn⟩
  | some i =>
    have hs := Po.save_len { p with L := (nextP (2 * p.L.length) p.L p.hand).1, hand := i } i
    cases hv : (Po.save { p with L := (nextP (2 * p.L.length) p.L p.hand).1, hand := i } i).2 with
    | false =>
      rw [goes_no hx hv]
      exact ⟨hs.2.1, hs.2.2.1, hs.2.2.2, by rw [hs.1]; exact Nat.le_of_eq hn, fun h => by simp at h, fun _ => hs.1.trans hn⟩
    | true =>
      rw [goes_yes hx hv]
      have hi : i < p.L.length := by
        by_cases h0 : p.L.length = 0
        · rw [h0] at hx
          cases hx
        · exact (nextP_some _ _ _ _ hx h0).1
      have hlen : (Po.out (Po.save { p with L := (nextP (2 * p.L.length) p.L p.hand).1, hand := i } i).1 i).L.length + 1 = p.L.length := by
        show (List.eraseIdx _ _).length + 1 = _
        rw [List.length_eraseIdx_of_lt (by rw [hs.1]; show i < (nextP _ _ _).1.length; rw [hn]; exact hi), hs.1]
        show (nextP _ _ _).1.length - 1 + 1 = _
        rw [hn]
        omega
      exact ⟨hs.2.1, hs.2.2.1, hs.2.2.2, Nat.le_trans (Nat.le_succ _) (Nat.le_of_eq hlen), fun _ => hlen, fun h => absurd rfl h⟩
/-- What room leaves. -/
def RoomPost (w0 w' : World) (p bb : Nat) (L Z : List Pb) (st st' : Po) (J : Res) (e : Ending) : Prop :=
  ∃ L' Z', Keeps (L ++ Z) (L' ++ Z') ∧ e = .returned (.tuple #[]) ∧ Own w0 w' (Sep (PoR p bb L' Z' st') J)
theorem roomP_yes {k : Nat} {p : Po} (h : p.most < p.L.length) (h2 : p.goes.2.2 = 0) : roomP (k + 1) p = roomP k p.goes.1 := by rw [roomP, if_pos h, if_pos h2]
theorem roomP_stop {k : Nat} {p : Po} (h : p.most < p.L.length) (h2 : p.goes.2.2 ≠ 0) : roomP (k + 1) p = p.goes.1 := by rw [roomP, if_pos h, if_neg h2]
theorem roomP_no {k : Nat} {p : Po} (h : ¬ p.most < p.L.length) : roomP k p = p := by
  cases k with
  | zero => rfl
  | succ k => rw [roomP, if_neg h]
def rowLen (w : World) (p : Nat) : Nat := match w.cell? ⟨p, 2, none⟩ with
  | some (.slice _ n _) => n
  | _ => 0
theorem Own.rowLen {w0 w : World} {p bb : Nat} {L Z : List Pb} {st : Po} {J : Res} (h : Own w0 w (Sep (PoR p bb L Z st) J)) : Go.Proofs.Ytjmelhmjcbliaaa.rowLen w p = st.L.length := by
  obtain ⟨mb, ro, rc, D, hm, hs, h1⟩ := h.openPo
  have h2 := h1.blk5c.1.2.2.1
  unfold Go.Proofs.Ytjmelhmjcbliaaa.rowLen
  rw [h2]
  exact hm.len
set_option maxHeartbeats 4000000 in
theorem proom_any {w0 w : World} {p bb : Nat} {L Z : List Pb} {st : Po} {J : Res} [Stab J] (h : Own w0 w (Sep (PoR p bb L Z st) J)) (hq : st.bk.asked.length + L.length ≤ 1000000000) (hb : st.bk.ids.length + L.length ≤ 1000000000) :
    Calls Try.prog 34 #[ptr p] w (fun e w' => RoomPost w0 w' p bb L Z st st.room J e) := by
  have HX0 : Hid (∃ L1 Z1 st1, Keeps (L ++ Z) (L1 ++ Z1) ∧ roomP st1.L.length st1 = st.room ∧ L1.length = st1.L.length ∧ st1.bk.asked.length + L1.length ≤ 1000000000 ∧ st1.bk.ids.length + L1.length ≤ 1000000000 ∧ Own w0 w (Sep (PoR p bb L1 Z1 st1) J)) := Lib.hid ⟨L, Z, st, Keeps.refl _, rfl, by obtain ⟨D, hm⟩ := h.poM; exact hm.len, hq, hb, h⟩
  clear h hq hb
  go_enter Try.func34, Try.ntmps34
  go_wp2_with fail
  go_loopw [4] (fun v wr => True ∧ Hid (∃ L1 Z1 st1, Keeps (L ++ Z) (L1 ++ Z1) ∧ roomP st1.L.length st1 = st.room ∧ L1.length = st1.L.length ∧ st1.bk.asked.length + L1.length ≤ 1000000000 ∧ st1.bk.ids.length + L1.length ≤ 1000000000 ∧ Own w0 wr (Sep (PoR p bb L1 Z1 st1) J))) (fun _ wr => rowLen wr p)
  case atStart => exact ⟨trivial, HX0⟩
  case round =>
    clear HX0
    obtain ⟨_, HX⟩ := hrel
    obtain ⟨L1, Z1, st1, k1, k2, k3, k4, k5, k6⟩ := HX.out
    have HK1 := Lib.hid k1
    have HK2 := Lib.hid k2
    have HK3 := Lib.hid k3
    have HK4 := Lib.hid k4
    have HK5 := Lib.hid k5
    have HO := Lib.hid k6.drew
    have HM0 : Hid (rowLen wr p = st1.L.length) := Lib.hid k6.rowLen
    clear HX k1 k2 k4 k5 k6
    obtain ⟨mb, ro, rc, D, hm, hs, h1⟩ := HO.out.openPo
    obtain ⟨n, hn⟩ : ∃ n, L1.length = n := ⟨_, rfl⟩
    unfold poc at h1
    rw [hn] at h1 k3
    obtain ⟨e0, e1, e2, e3, e4⟩ := h1.blk5c.1
    have HN := Lib.hid hn
    have HNS := Lib.hid k3
    clear h1 hm hs hn k3
    go_upto_region 0 with fail
    refine anyG.start (fun w' => w'.cell? ⟨p, 1, none⟩ = some (.int .i64 (st1.most : Int)) ∧ w'.cell? ⟨p, 2, none⟩ = some (.slice ro n rc)) [] (by kernel_rfl) ?_ (fun hHeld => ?_)
    · exact ⟨e1, e2⟩
    refine anyG.take [] (i := 0) (oi := ?_) (v := ?_) ?_ (by kernel_rfl) (by kernel_rfl) (by kernel_rfl) (by kernel_rfl) (by kernel_rfl) (by kernel_rfl) ?_ (Or.inl ⟨?_, ?_⟩) (by assumption) ?_
    rotate_left 2
    · (simp only [List.getElem?_toArray, List.getElem?_cons_zero]; rfl)
    · exact fun _ _ _ h => h
    · rfl
    · (intro w hSw; (try dsimp only at hSw); go_simp <;> with_reducible rfl)
    (try simp only [Act.put, List.setIfInBounds_toArray, List.set_cons_zero, List.set_cons_succ])
    refine anyG.take [] (i := 1) (oi := ?_) (v := ?_) ?_ (by kernel_rfl) (by kernel_rfl) (by kernel_rfl) (by kernel_rfl) (by kernel_rfl) (by kernel_rfl) ?_ (Or.inl ⟨?_, ?_⟩) (by assumption) ?_
    rotate_left 2
    · (simp only [List.getElem?_toArray, List.getElem?_cons_succ, List.getElem?_cons_zero]; rfl)
    · exact fun _ _ _ h => h
    · rfl
    · (intro w hSw; (try dsimp only at hSw); go_simp <;> with_reducible rfl)
    (try simp only [Act.put, List.setIfInBounds_toArray, List.set_cons_zero, List.set_cons_succ])
    refine anyG.take [] (i := 2) (oi := ?_) (v := ?_) ?_ (by kernel_rfl) (by kernel_rfl) (by kernel_rfl) (by kernel_rfl) (by kernel_rfl) (by kernel_rfl) ?_ (Or.inl ⟨?_, ?_⟩) (by assumption) ?_
    rotate_left 2
    · (simp only [List.getElem?_toArray, List.getElem?_cons_succ, List.getElem?_cons_zero]; rfl)
    · exact fun _ _ _ h => h
    · rfl
    · (intro w hSw; (try dsimp only at hSw); go_simp <;> with_reducible rfl)
    (try simp only [Act.put, List.setIfInBounds_toArray, List.set_cons_zero, List.set_cons_succ])
    refine anyG.take [] (i := 3) (oi := ?_) (v := ?_) ?_ (by kernel_rfl) (by kernel_rfl) (by kernel_rfl) (by kernel_rfl) (by kernel_rfl) (by kernel_rfl) ?_ (Or.inl ⟨?_, ?_⟩) (by assumption) ?_
    rotate_left 2
    · (simp only [List.getElem?_toArray, List.getElem?_cons_succ, List.getElem?_cons_zero]; rfl)
    · exact fun _ _ _ h => h
    · rfl
    · (intro w hSw; (try dsimp only at hSw); go_simp <;> with_reducible rfl)
    (try simp only [Act.put, List.setIfInBounds_toArray, List.set_cons_zero, List.set_cons_succ])
    refine anyG.take [] (i := 4) (oi := ?_) (v := ?_) ?_ (by kernel_rfl) (by kernel_rfl) (by kernel_rfl) (by kernel_rfl) (by kernel_rfl) (by kernel_rfl) ?_ (Or.inl ⟨?_, ?_⟩) (by assumption) ?_
    rotate_left 2
    · (simp only [List.getElem?_toArray, List.getElem?_cons_succ, List.getElem?_cons_zero]; rfl)
    · exact fun _ _ _ h => h
    · rfl
    · (intro w hSw; (try dsimp only at hSw); go_simp <;> with_reducible rfl)
    (try simp only [Act.put, List.setIfInBounds_toArray, List.set_cons_zero, List.set_cons_succ])
    refine anyG.take [] (i := 5) (oi := ?_) (v := ?_) ?_ (by kernel_rfl) (by kernel_rfl) (by kernel_rfl) (by kernel_rfl) (by kernel_rfl) (by kernel_rfl) ?_ (Or.inl ⟨?_, ?_⟩) (by assumption) ?_
    rotate_left 2
    · (simp only [List.getElem?_toArray, List.getElem?_cons_succ, List.getElem?_cons_zero]; rfl)
    · exact fun _ _ _ h => h
    · rfl
    · (intro w hSw; (try dsimp only at hSw); go_simp <;> with_reducible rfl)
    (try simp only [Act.put, List.setIfInBounds_toArray, List.set_cons_zero, List.set_cons_succ])
    refine anyG.take [] (i := 6) (oi := ?_) (v := ?_) ?_ (by kernel_rfl) (by kernel_rfl) (by kernel_rfl) (by kernel_rfl) (by kernel_rfl) (by kernel_rfl) ?_ (Or.inl ⟨?_, ?_⟩) (by assumption) ?_
    rotate_left 2
    · (simp only [List.getElem?_toArray, List.getElem?_cons_succ, List.getElem?_cons_zero]; rfl)
    · exact fun _ _ _ h => h
    · rfl
    · (intro w hSw; (try dsimp only at hSw); go_simp <;> with_reducible rfl)
    (try simp only [Act.put, List.setIfInBounds_toArray, List.set_cons_zero, List.set_cons_succ])
    refine anyG.take [] (i := 7) (oi := ?_) (v := ?_) ?_ (by kernel_rfl) (by kernel_rfl) (by kernel_rfl) (by kernel_rfl) (by kernel_rfl) (by kernel_rfl) ?_ (Or.inl ⟨?_, ?_⟩) (by assumption) ?_
    rotate_left 2
    · (simp only [List.getElem?_toArray, List.getElem?_cons_succ, List.getElem?_cons_zero]; rfl)
    · exact fun _ _ _ h => h
    · rfl
    · (intro w hSw; (try dsimp only at hSw); go_simp <;> with_reducible rfl)
    (try simp only [Act.put, List.setIfInBounds_toArray, List.set_cons_zero, List.set_cons_succ])
    refine anyG.take [] (i := 8) (oi := ?_) (v := ?_) ?_ (by kernel_rfl) (by kernel_rfl) (by kernel_rfl) (by kernel_rfl) (by kernel_rfl) (by kernel_rfl) ?_ (Or.inl ⟨?_, ?_⟩) (by assumption) ?_
    rotate_left 2
    · (simp only [List.getElem?_toArray, List.getElem?_cons_succ, List.getElem?_cons_zero]; rfl)
    · exact fun _ _ _ h => h
    · rfl
    · (intro w hSw; (try dsimp only at hSw); go_simp <;> with_reducible rfl)
    (try simp only [Act.put, List.setIfInBounds_toArray, List.set_cons_zero, List.set_cons_succ])
    refine anyG.take [] (i := 9) (oi := ?_) (v := ?_) ?_ (by kernel_rfl) (by kernel_rfl) (by kernel_rfl) (by kernel_rfl) (by kernel_rfl) (by kernel_rfl) ?_ (Or.inl ⟨?_, ?_⟩) (by assumption) ?_
    rotate_left 2
    · (simp only [List.getElem?_toArray, List.getElem?_cons_succ, List.getElem?_cons_zero]; rfl)
    · exact fun _ _ _ h => h
    · rfl
    · (intro w hSw; (try dsimp only at hSw); go_simp <;> with_reducible rfl)
    (try simp only [Act.put, List.setIfInBounds_toArray, List.set_cons_zero, List.set_cons_succ])
    refine anyG.done (by kernel_rfl) ?_
    clear hHeld e0 e1 e2 e3 e4
    generalize World.drew wr = w1 at *
    by_cases hmo : st1.most < n
    · have hmI : (st1.most : Int) < (n : Int) := by omega
      have HMO := Lib.hid hmo
      clear hmo
      go_wp2_with fail
      refine (pgoes_any HO.out (by have := HK4.out; omega) (by have := HK4.out; omega) (by have := HK5.out; omega)).mono ?_
      rintro e w2 ⟨L2, Z2, hkp, rfl, hown⟩
      have HKP := Lib.hid (HK1.out.trans hkp)
      have HO2 := Lib.hid hown
      have HLEN := Lib.hid (Po.goes_len st1)
      clear hkp hown HO
      by_cases hz : st1.goes.2.2 = 0
      · have HR : Hid (roomP st1.goes.1.L.length st1.goes.1 = st.room) := Lib.hid (by
          rw [← HK2.out, show st1.L.length = st1.goes.1.L.length + 1 from (HLEN.out.2.2.2.2.1 hz).symm]
          exact (roomP_yes (by rw [← HNS.out]; exact HMO.out) hz).symm)
        have HZ := Lib.hid hz
        have hl2 : L2.length = st1.goes.1.L.length := by
          obtain ⟨D, hm⟩ := HO2.out.poM
          exact hm.len
        have HL2 := Lib.hid hl2
        clear hl2
        rw [hz]
        clear hz
        go_wp2_with fail
        go_roundw
        case rel =>
          refine ⟨trivial, Lib.hid ⟨L2, Z2, st1.goes.1, HKP.out, HR.out, HL2.out, ?_, ?_, HO2.out⟩⟩
          · have h1 := HLEN.out
            have h2 := h1.2.2.2.2.1 HZ.out
            have h3 := HK4.out
            have h4 := HK3.out
            have h5 := HL2.out
            omega
          · have h1 := HLEN.out
            have h2 := h1.2.2.2.2.1 HZ.out
            have h3 := HK5.out
            have h4 := HK3.out
            have h5 := HL2.out
            omega
        case measure =>
          rw [HM0.out, HO2.out.rowLen]
          have := HLEN.out.2.2.2.2.1 HZ.out
          omega
      · have HR : Hid (st1.goes.1 = st.room) := Lib.hid (by
          have h0 : 0 < st1.L.length := by have := HMO.out; have := HNS.out; omega
          rw [← HK2.out, show st1.L.length = (st1.L.length - 1) + 1 by omega]
          exact (roomP_stop (by rw [← HNS.out]; exact HMO.out) hz).symm)
        obtain ⟨E, hE⟩ : ∃ E, st1.goes.2.2 = E := ⟨_, rfl⟩
        rw [hE] at hz ⊢
        have hzd : (E != 0) = true := by simpa using hz
        have hzn : (E == 0) = false := by simpa using hz
        clear hz
        go_wp2_with fail
        (try simp only [Exit.inBlock, Exit.then])
        refine bodyPost_ret (results_none rfl _ _ _) rfl ?_
        refine ⟨L2, Z2, HKP.out, rfl, ?_⟩
        rw [← HR.out]
        exact HO2.out
    · have hmI : ¬ (st1.most : Int) < (n : Int) := by omega
      have HR : Hid (st1 = st.room) := Lib.hid (by rw [← HK2.out]; exact (roomP_no (by rw [← HNS.out]; exact hmo)).symm)
      clear hmo
      go_wp2_with fail
      go_end0
      refine ⟨L1, Z1, HK1.out, rfl, ?_⟩
      rw [← HR.out]
      exact HO.out

end Go.Proofs.Ytjmelhmjcbliaaa
