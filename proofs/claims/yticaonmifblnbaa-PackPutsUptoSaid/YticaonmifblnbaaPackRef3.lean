/-
  Contracts of the document's own answer for an In: Flag as a whole, Text.
-/
import Derived.Test.YticaonmifblnbaaPackRef2
namespace Go.Proofs.Yticaonmifblnbaa
open Go Go.RowKit Go.Lib
set_option linter.unusedVariables false

def RFlagPost (w : World) (r : Nat) (xs : List UInt8) (bad : Bool) (e : Ending) (w' : World) : Prop :=
  e = .returned (.bool (flagR xs bad)) ∧ RefV w' r (flagL xs bad) (!flagOk xs bad) ∧ Only (fun k => k = r) w w'

theorem head_drop {bs : List UInt8} {a : Nat} : (bs.drop a).headD 0 = bs.getD a 0 := by
  rw [List.headD_eq_head?_getD, List.head?_drop, List.getD_eq_getElem?_getD]

theorem refFlag (r : Nat) (xs : List UInt8) (bad : Bool) (w : World) (h : RefV w r xs bad) :
    Calls Try.prog 40 #[.pointer (some ⟨r, 0, none⟩)] w (RFlagPost w r xs bad) := by
  obtain ⟨v, bs, a, h, rfl⟩ := h
  cases bad with
  | true =>
    refine (refFlag_bad r v bs a w h).mono ?_
    rintro e w' ⟨rfl, q, rfl⟩
    exact ⟨by simp [flagR, flagOk, can], ⟨v, bs, a, by simpa [flagOk, can] using (h.drewN q).bad true, by simp [flagL, flagOk, can]⟩, (only_drewN _ w q).trans (Only.cell _ r 2 _) (fun _ _ h => h)⟩
  | false =>
    have hc := can_iff (n := 1) h.le
    by_cases ha : a < bs.length
    · have hc' : can 1 (bs.drop a) false = true := by rw [hc]; simp; omega
      by_cases hb : (bs.getD a 0).toNat ≤ 1
      · have hok : flagOk (bs.drop a) false = true := by unfold flagOk; rw [hc', head_drop]; simpa using hb
        refine (refFlag_small r v bs a w h ha hb).mono ?_
        rintro e w' ⟨rfl, q, q', rfl⟩
        refine ⟨?_, ⟨v, bs, a + 1, ?_, by simp [flagL, hok]⟩, ((only_drewN _ w q).trans (Only.cell _ r 1 _) (fun _ _ h => h)).drewN q'⟩
        · unfold flagR; rw [hok, head_drop]; simp
        · rw [hok]; exact ((h.drewN q).move (a + 1) ha).drewN q'
      · have hok : flagOk (bs.drop a) false = false := by unfold flagOk; rw [hc', head_drop, decide_eq_false hb]; rfl
        refine (refFlag_big r v bs a w h ha (by omega)).mono ?_
        rintro e w' ⟨rfl, q, rfl⟩
        exact ⟨by simp [flagR, hok], ⟨v, bs, a, by rw [hok]; exact (h.drewN q).bad true, by simp [flagL, hok]⟩, (only_drewN _ w q).trans (Only.cell _ r 2 _) (fun _ _ h => h)⟩
    · obtain rfl : a = bs.length := by have := h.le; omega
      have hc' : can 1 (bs.drop bs.length) false = false := by rw [hc]; simp
      have hok : flagOk (bs.drop bs.length) false = false := by unfold flagOk; rw [hc']; rfl
      refine (refFlag_none r v bs w h).mono ?_
      rintro e w' ⟨rfl, q, rfl⟩
      exact ⟨by simp only [flagR, hok]; simp, ⟨v, bs, bs.length, by rw [hok]; exact (h.drewN q).bad true, by simp only [flagL, hok]; simp⟩, (only_drewN _ w q).trans (Only.cell _ r 2 _) (fun _ _ h => h)⟩

set_option maxHeartbeats 400000 in
theorem refText_bad (r : Nat) (v : Value) (bs : List UInt8) (a : Nat) (w : World) (h : RefAt w r v bs a true) :
    Calls Try.prog 41 #[.pointer (some ⟨r, 0, none⟩)] w fun e w' => e = .returned (.string ⟨#[]⟩) ∧ w.setCell ⟨r, 2, none⟩ (.bool true) = w' := by
  have h2 := h.cell2
  have hf := h.free 2
  have HR := Lib.hid h; clear h
  go_enter Try.func41, Try.ntmps41
  go_wp2
  go_ret
  exact ⟨rfl, rfl⟩

set_option maxHeartbeats 400000 in
theorem refText_short2 (r : Nat) (v : Value) (bs : List UInt8) (a : Nat) (w : World) (h : RefAt w r v bs a false) (hn : bs.length < a + 2) :
    Calls Try.prog 41 #[.pointer (some ⟨r, 0, none⟩)] w fun e w' => e = .returned (.string ⟨#[]⟩) ∧ ∃ q, (w.drewN q).setCell ⟨r, 2, none⟩ (.bool true) = w' := by
  have h2 := h.cell2
  have hf := h.free 2
  have hlt : (bs.length : Int) - (a : Int) < 2 := by omega
  have HR := Lib.hid h; clear h
  go_enter Try.func41, Try.ntmps41
  go_wp2_with fail
  refine (refLeft r v bs a false w HR.out).mono ?_
  rintro e w' ⟨rfl, q, rfl⟩
  go_wp2
  go_ret
  exact ⟨rfl, q, rfl⟩

theorem txt_num {bs : List UInt8} {a : Nat} (h : a + 2 ≤ bs.length) : txtN (bs.drop a) = (bs.getD a 0).toNat * 256 + (bs.getD (a + 1) 0).toNat := by
  have e : (bs.drop a).take 2 = [bs.getD a 0, bs.getD (a + 1) 0] := by
    rw [List.drop_eq_getElem_cons (by omega), List.drop_eq_getElem_cons (by omega), List.take_succ_cons, List.take_succ_cons, List.take_zero]
    simp [List.getD_eq_getElem?_getD, show a < bs.length by omega, show a + 1 < bs.length by omega]
  unfold txtN
  rw [e]
  simp [numB]

set_option maxHeartbeats 400000 in
theorem refText_shortN (r : Nat) (v : Value) (bs : List UInt8) (a : Nat) (w : World) (h : RefAt w r v bs a false) (h2' : a + 2 ≤ bs.length) (hn : bs.length < a + 2 + txtN (bs.drop a)) :
    Calls Try.prog 41 #[.pointer (some ⟨r, 0, none⟩)] w fun e w' => e = .returned (.string ⟨#[]⟩) ∧ ∃ q, (w.drewN q).setCell ⟨r, 2, none⟩ (.bool true) = w' := by
  rw [txt_num h2'] at hn
  have h2 := h.cell2
  have h1 := h.cell1
  have hf := h.free 2
  have hlen := h.len
  obtain ⟨ao, cap, rfl, _⟩ := h.sl.shape
  have h0 := h.cell0
  obtain ⟨g, off, rfl, hcell⟩ := h.sl.cells (k := a) (by omega)
  obtain ⟨g', off', hg, hcell'⟩ := h.sl.cells (k := a + 1) (by omega)
  simp only [Option.some.injEq, Addr.mk.injEq, and_true] at hg
  obtain ⟨rfl, rfl⟩ := hg
  obtain ⟨b, hb⟩ : ∃ b : UInt8, b = bs.getD a 0 := ⟨_, rfl⟩
  obtain ⟨c, hc⟩ : ∃ c : UInt8, c = bs.getD (a + 1) 0 := ⟨_, rfl⟩
  rw [← hb] at hcell hn
  rw [← hc] at hcell' hn
  have hbl := b.toNat_lt
  have hcl := c.toNat_lt
  clear hb hc
  have hge : ¬ (bs.length : Int) - (a : Int) < 2 := by omega
  have hd : decide ((bs.length : Int) - (a : Int) < 2) = false := by simp; omega
  have s3 : (0 : Int) ≤ (a : Int) := by omega
  have s4 : (a : Int) < (bs.length : Int) := by omega
  have s5 : (a : Int) + 1 < (bs.length : Int) := by omega
  have s6 : ((a : Int) + 1).toNat = a + 1 := by omega
  have hlt : (bs.length : Int) - (a : Int) < 2 + ((b.toNat : Int) * 256 + (c.toNat : Int)) := by omega
  have HR := Lib.hid h; clear h
  go_enter Try.func41, Try.ntmps41
  go_wp2_with fail
  refine (refLeft r _ bs a false w HR.out).mono ?_
  rintro e w' ⟨rfl, q, rfl⟩
  go_wp2_with fail
  go_quiet (fail)
  go_wp2_with fail
  refine (refLeft r _ bs a false _ (HR.out.drewN _)).mono ?_
  rintro e w' ⟨rfl, q2, rfl⟩
  go_wp2
  go_ret
  exact ⟨rfl, _, rfl⟩

theorem SlB.sub {w : World} {g off cap : Nat} {bs : List UInt8} (h : SlB w (.slice (some ⟨g, off, none⟩) bs.length cap) bs) {lo m : Nat} (hm : lo + m ≤ bs.length) :
    SlB w (.slice (if cap = lo then some ⟨g, off, none⟩ else some ⟨g, off + lo, none⟩) m (cap - lo)) ((bs.drop lo).take m) := by
  rcases h with ⟨hv, _⟩ | ⟨g', off', cap', cur, hv, h1, h2, h3, h4⟩
  · simp at hv
  · simp only [Value.slice.injEq, Option.some.injEq, Addr.mk.injEq, and_true] at hv
    obtain ⟨⟨rfl, rfl⟩, _, rfl⟩ := hv
    have hl : ((bs.drop lo).take m).length = m := by simp; omega
    by_cases hc : cap = lo
    · refine .inr ⟨g, off, cap - lo, cur, by simp [hc, hl], by omega, by omega, h3, fun j hj => ?_⟩
      omega
    · refine .inr ⟨g, off + lo, cap - lo, cur, by simp [hc, hl], by omega, by omega, h3, fun j hj => ?_⟩
      rw [hl] at hj
      rw [Nat.add_assoc, h4 (lo + j) (by omega)]
      simp only [List.getD_eq_getElem?_getD, List.getElem?_take, List.getElem?_drop]
      rw [if_pos hj]

set_option maxHeartbeats 400000 in
theorem refText_ok (r : Nat) (v : Value) (bs : List UInt8) (a : Nat) (w : World) (h : RefAt w r v bs a false) (h2' : a + 2 ≤ bs.length) (hn : a + 2 + txtN (bs.drop a) ≤ bs.length) :
    Calls Try.prog 41 #[.pointer (some ⟨r, 0, none⟩)] w fun e w' => e = .returned (.string ⟨(((bs.drop a).drop 2).take (txtN (bs.drop a))).toArray⟩) ∧ ∃ q q', ((w.drewN q).setCell ⟨r, 1, none⟩ (.int .i64 ((a + 2 + txtN (bs.drop a) : Nat) : Int))).drewN q' = w' := by
  have HT := Lib.hid (txt_num h2')
  obtain ⟨m, hm⟩ : ∃ m, m = txtN (bs.drop a) := ⟨_, rfl⟩
  rw [← hm] at hn ⊢
  have HMM := Lib.hid hm
  clear hm
  have h2 := h.cell2
  have h1 := h.cell1
  have hf := h.free 1
  have hlen := h.len
  obtain ⟨ao, cap, rfl, hlc, hcm⟩ := h.sl.shape
  have h0 := h.cell0
  obtain ⟨g, off, rfl, hcell⟩ := h.sl.cells (k := a) (by omega)
  obtain ⟨g', off', hg, hcell'⟩ := h.sl.cells (k := a + 1) (by omega)
  simp only [Option.some.injEq, Addr.mk.injEq, and_true] at hg
  obtain ⟨rfl, rfl⟩ := hg
  obtain ⟨b, hb⟩ : ∃ b : UInt8, b = bs.getD a 0 := ⟨_, rfl⟩
  obtain ⟨c, hc⟩ : ∃ c : UInt8, c = bs.getD (a + 1) 0 := ⟨_, rfl⟩
  rw [← hb] at hcell
  rw [← hc] at hcell'
  have HS : Hid ((b.toNat : Int) * 256 + (c.toNat : Int) = (m : Int)) := by show _ = _; rw [HMM.out, HT.out, hb, hc]; omega
  have hbl := b.toNat_lt
  have hcl := c.toNat_lt
  clear hb hc
  have hge : ¬ (bs.length : Int) - (a : Int) < 2 := by omega
  have hd : decide ((bs.length : Int) - (a : Int) < 2) = false := by simp; omega
  have s3 : (0 : Int) ≤ (a : Int) := by omega
  have s4 : (a : Int) < (bs.length : Int) := by omega
  have s5 : (a : Int) + 1 < (bs.length : Int) := by omega
  have s6 : ((a : Int) + 1).toNat = a + 1 := by omega
  have HR := Lib.hid h; clear h
  go_enter Try.func41, Try.ntmps41
  go_wp2_with fail
  refine (refLeft r _ bs a false w HR.out).mono ?_
  rintro e w' ⟨rfl, q, rfl⟩
  go_wp2_with fail
  go_quiet (fail)
  simp only [HS.out]
  have hge2 : ¬ (bs.length : Int) - (a : Int) < 2 + (m : Int) := by omega
  go_wp2_with fail
  refine (refLeft r _ bs a false _ (HR.out.drewN _)).mono ?_
  rintro e w' ⟨rfl, q2, rfl⟩
  go_wp2
  obtain ⟨q1, hq1⟩ : ∃ q1, q1 = q + nq + q2 := ⟨_, rfl⟩
  rw [← hq1]
  clear hq1
  have hm := Lib.hid ((HR.out.drewN q1).move (a + 2 + m) hn)
  clear h0 h1 h2 hf hcell hcell' hd hge hge2
  obtain ⟨wx, hwx⟩ : ∃ wx, wx = (w.drewN q1).setCell ⟨r, 1, none⟩ (.int .i64 ((a : Int) + (2 + (m : Int)))) := ⟨_, rfl⟩
  have HX := Lib.hid hwx
  rw [← hwx]
  have HE : Hid (((a + 2 + m : Nat) : Int) = (a : Int) + (2 + (m : Int))) := by show _ = _; omega
  have HM : Hid (RefAt wx r (.slice (some ⟨g, off, none⟩) bs.length cap) bs (a + 2 + m) false) := by
    show RefAt _ _ _ _ _ _
    rw [hwx, ← HE.out]
    exact hm.out
  clear hwx hm
  have h0 := HM.out.cell0
  have h1 : wx.cell? ⟨r, 1, none⟩ = some (.int .i64 ((a : Int) + (2 + (m : Int)))) := by rw [← HE.out]; exact HM.out.cell1
  have e1 : (a : Int) + (2 + (m : Int)) - (m : Int) = (a : Int) + 2 := by omega
  have e2 : ((a : Int) + 2).toNat = a + 2 := by omega
  have e3 : ((a : Int) + (2 + (m : Int))).toNat = a + 2 + m := by omega
  have e4 : (0 : Int) ≤ (a : Int) + 2 := by omega
  have e5 : (a : Int) + 2 ≤ (a : Int) + (2 + (m : Int)) := by omega
  have e6 : (a : Int) + (2 + (m : Int)) ≤ (cap : Int) := by omega
  have e7 : a + 2 + m - (a + 2) = m := by omega
  have hcv : ∀ q, (convert 24 9 (.slice (if cap = a + 2 then some ⟨g, off, none⟩ else some ⟨g, off + (a + 2), none⟩) m (cap - (a + 2)))).run Try.prog (wx.drewN q) = .ok (.string ⟨((bs.drop (a + 2)).take m).toArray⟩) (wx.drewN q) :=
    fun q => run_str ((HM.out.drewN q).sl.sub hn)
  go_quiet (fail)
  go_wp2
  all_goals
    go_ret
    refine ⟨?_, q1, nq, by rw [HX.out, ← HE.out]; rfl⟩
    show Ending.returned (.string ⟨((bs.drop (a + 2)).take m).toArray⟩) = _
    first | rfl | rw [List.drop_drop]

def RTextPost (w : World) (r : Nat) (xs : List UInt8) (bad : Bool) (e : Ending) (w' : World) : Prop :=
  e = .returned (.string ⟨(txtR xs bad).toArray⟩) ∧ RefV w' r (txtL xs bad) (!txtOk xs bad) ∧ Only (fun k => k = r) w w'

theorem refText (r : Nat) (xs : List UInt8) (bad : Bool) (w : World) (h : RefV w r xs bad) :
    Calls Try.prog 41 #[.pointer (some ⟨r, 0, none⟩)] w (RTextPost w r xs bad) := by
  obtain ⟨v, bs, a, h, rfl⟩ := h
  cases bad with
  | true =>
    refine (refText_bad r v bs a w h).mono ?_
    rintro e w' ⟨rfl, rfl⟩
    exact ⟨by simp [txtR, txtOk, can], ⟨v, bs, a, by simpa [txtOk, can] using h.bad true, by simp [txtL, txtOk, can]⟩, Only.cell w r 2 _⟩
  | false =>
    have hc := can_iff (n := 2) h.le
    by_cases h2 : a + 2 ≤ bs.length
    · have hc2 : can 2 (bs.drop a) false = true := by rw [hc]; simpa using h2
      have hcn : can (txtN (bs.drop a)) ((bs.drop a).drop 2) false = decide (a + 2 + txtN (bs.drop a) ≤ bs.length) := by
        rw [List.drop_drop]; exact can_iff h2
      by_cases hn : a + 2 + txtN (bs.drop a) ≤ bs.length
      · have hok : txtOk (bs.drop a) false = true := by unfold txtOk; rw [hc2, hcn, decide_eq_true hn]; rfl
        refine (refText_ok r v bs a w h h2 hn).mono ?_
        rintro e w' ⟨rfl, q, q', rfl⟩
        refine ⟨by simp [txtR, hok], ⟨v, bs, a + 2 + txtN (bs.drop a), ?_, by simp [txtL, hok]⟩, ((only_drewN _ w q).trans (Only.cell _ r 1 _) (fun _ _ h => h)).drewN q'⟩
        rw [hok]
        exact ((h.drewN q).move _ hn).drewN q'
      · have hok : txtOk (bs.drop a) false = false := by unfold txtOk; rw [hc2, hcn, decide_eq_false hn]; rfl
        refine (refText_shortN r v bs a w h h2 (by omega)).mono ?_
        rintro e w' ⟨rfl, q, rfl⟩
        exact ⟨by simp [txtR, hok], ⟨v, bs, a, by rw [hok]; exact (h.drewN q).bad true, by simp [txtL, hok]⟩, (only_drewN _ w q).trans (Only.cell _ r 2 _) (fun _ _ h => h)⟩
    · have hc2 : can 2 (bs.drop a) false = false := by rw [hc]; simpa using h2
      have hok : txtOk (bs.drop a) false = false := by unfold txtOk; rw [hc2]; rfl
      refine (refText_short2 r v bs a w h (by omega)).mono ?_
      rintro e w' ⟨rfl, q, rfl⟩
      exact ⟨by simp [txtR, hok], ⟨v, bs, a, by rw [hok]; exact (h.drewN q).bad true, by simp [txtL, hok]⟩, (only_drewN _ w q).trans (Only.cell _ r 2 _) (fun _ _ h => h)⟩

end Go.Proofs.Yticaonmifblnbaa
