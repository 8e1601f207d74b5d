/-
  Contracts of package pack's In: Text, Done.
-/
import Derived.Test.YtookbmpaoljelaaPackIn4
namespace Go.Proofs.Ytookbmpaoljelaa
open Go Go.RowKit
set_option linter.unusedVariables false
set_option linter.unusedSimpArgs false
set_option maxRecDepth 100000

theorem run_str {w : World} {v : Value} {xs : List UInt8} (h : SlB w v xs) : (convert 29 9 v).run Try.prog w = .ok (.string ⟨xs.toArray⟩) w := by
  rcases h with ⟨rfl, rfl⟩ | ⟨g, off, cap, cur, rfl, h1, h2, h3, h4⟩
  · rw [run_convert_bytes_string w 29 9 5 none 0 0 Try.underlying29 Try.underlying5 Try.underlying9]
    kernel_rfl
  · refine run_convert_bytes_back w 29 9 5 ⟨g, off, none⟩ cap xs Try.underlying29 Try.underlying5 Try.underlying9 (fun j hj => ?_)
    have hadd : (⟨g, off, none⟩ : Addr).add j = ⟨g, off + j, none⟩ := by unfold Addr.add; split <;> simp_all
    rw [hadd]
    simp only [World.cell?, h3]
    rw [if_neg (by simp), h4 j hj]
    simp [hj]

/-- What a text's take answers and leaves. -/
def txtN (xs : List UInt8) : Nat := numB (xs.take 2)
def txtOk (xs : List UInt8) (bad : Bool) : Bool := can 2 xs bad && can (txtN xs) (xs.drop 2) bad
def txtR (xs : List UInt8) (bad : Bool) : List UInt8 := if txtOk xs bad then (xs.drop 2).take (txtN xs) else []
def txtL (xs : List UInt8) (bad : Bool) : List UInt8 := if txtOk xs bad then (xs.drop 2).drop (txtN xs) else xs
def TextPost (w : World) (p : Nat) (xs : List UInt8) (bad : Bool) (e : Ending) (w' : World) : Prop :=
  ∃ v', e = .returned (.string ⟨(txtR xs bad).toArray⟩) ∧ InV w' p v' (txtL xs bad) (!txtOk xs bad) ∧ Only (fun k => k = p) w w'

set_option maxHeartbeats 400000 in
theorem text_bad (p : Nat) (v : Value) (xs : List UInt8) (w : World) (hI : InV w p v xs true) :
    Calls Try.prog 66 #[.pointer (some ⟨p, 0, none⟩)] w (TextPost w p xs true) := by
  have hc1 := hI.cell1
  have HI := Lib.hid hI; clear hI
  go_enter Try.func66, Try.ntmps66
  go_wp2_with fail
  refine (bad_any p true w hc1).mono ?_
  rintro e w' ⟨rfl, rfl⟩
  go_wp2
  go_ret
  exact ⟨v, by simp [txtR, txtOk, can], by simpa [txtL, txtOk, can] using HI.out, Only.refl _ _⟩

/-- The same block again, whatever lies in it: what may be read stays. -/
theorem InV.back {w w' : World} {p : Nat} {v v' : Value} {xs xs' : List UInt8} {bad bad' : Bool} (h : InV w p v xs bad) (h' : InV w' p v' xs' bad') (ho : Only (fun k => k = p) w w') :
    InV (w'.setCell ⟨p, 0, none⟩ v) p v xs bad' :=
  h'.set0 (h.sl.keep ho (fun k cur hk e => by subst e; have := h.at'; rw [hk] at this; simp at this))

theorem text_ok (xs : List UInt8) (b2 : Bool) (h : b2 = !can (numB (nextR 2 xs false)) (nextL 2 xs false) (!can 2 xs false)) : txtOk xs false = !b2 := by
  subst h
  cases hc : can 2 xs false <;> simp [txtOk, hc, nextR, nextL, txtN]
  simp [can]
theorem text_res (xs : List UInt8) (h : txtOk xs false = true) : txtR xs false = nextR (numB (nextR 2 xs false)) (nextL 2 xs false) (!can 2 xs false) ∧
    txtL xs false = nextL (numB (nextR 2 xs false)) (nextL 2 xs false) (!can 2 xs false) := by
  have h1 : can 2 xs false = true := by simp [txtOk] at h; exact h.1
  have h2 : can (numB (List.take 2 xs)) (List.drop 2 xs) false = true := by simp [txtOk, txtN] at h; exact h.2
  simp [txtR, txtL, h, nextR, nextL, h1, h2, txtN]

set_option maxHeartbeats 400000 in
theorem text_good (p : Nat) (v : Value) (xs : List UInt8) (w : World) (hI : InV w p v xs false) :
    Calls Try.prog 66 #[.pointer (some ⟨p, 0, none⟩)] w (TextPost w p xs false) := by
  obtain ⟨ao, cap, rfl, _⟩ := hI.sl.shape
  have hc1 := hI.cell1
  have hc0 := hI.cell0
  have HI := Lib.hid hI; clear hI
  go_enter Try.func66, Try.ntmps66
  go_wp2_with fail
  refine (bad_any p false w hc1).mono ?_
  rintro e w' ⟨rfl, rfl⟩
  go_wp2_with fail
  refine (inU16 p _ xs false w HI.out).mono ?_
  rintro e w1 ⟨v1, rfl, hI1, ho1⟩
  have HI1 := Lib.hid hI1; clear hI1
  have HO1 := Lib.hid ho1; clear ho1
  clear hc0 hc1
  obtain ⟨n, hn⟩ : ∃ n, n = numB (nextR 2 xs false) := ⟨_, rfl⟩
  have hlt : n < 65536 := by rw [hn]; exact numN_lt 2 xs false
  rw [← hn]
  have HN := Lib.hid hn; clear hn
  go_wp2_with fail
  refine (next_any p n v1 _ _ w1 HI1.out).mono ?_
  rintro e w2 ⟨r, v2, rfl, hr, hI2, ho2⟩
  obtain ⟨zs, hz⟩ : ∃ zs, zs = nextR n (nextL 2 xs false) (!can 2 xs false) := ⟨_, rfl⟩
  obtain ⟨b2, hb2⟩ : ∃ b2, b2 = !can n (nextL 2 xs false) (!can 2 xs false) := ⟨_, rfl⟩
  rw [← hz] at hr
  rw [← hb2] at hI2
  have hcv := run_str hr
  have hc1 := hI2.cell1
  have hc0 := hI2.cell0
  have hf := hI2.free 0
  have HI2 := Lib.hid hI2; clear hI2
  have HO2 := Lib.hid ho2; clear ho2
  have HZ := Lib.hid hz; clear hz
  have HB := Lib.hid hb2; clear hb2
  have HR := Lib.hid hr; clear hr
  cases b2 with
  | false =>
    go_wp2
    go_ret
    have hok := text_ok xs false (by rw [← HN.out]; exact HB.out)
    have hres := text_res xs hok
    rw [← HN.out] at hres
    refine ⟨v2, ?_, ?_, HO1.out.trans HO2.out (fun _ _ h => h)⟩
    · rw [hres.1, ← HZ.out]; rfl
    · rw [hres.2, hok]; exact HI2.out
  | true =>
    go_wp2
    go_ret
    have hok := text_ok xs true (by rw [← HN.out]; exact HB.out)
    refine ⟨.slice ao xs.length cap, ?_, ?_, (HO1.out.trans HO2.out (fun _ _ h => h)).trans (Only.cell _ _ _ _) (fun _ _ h => h)⟩
    · have : zs = [] := by
        have h1 := HZ.out
        have h2 := HB.out
        simp only [nextR] at h1
        rw [if_neg (by simp at h2; simp [h2])] at h1
        exact h1
      rw [this]
      simp [txtR, hok]
    · simpa [txtL, hok] using HI.out.back HI2.out (HO1.out.trans HO2.out (fun _ _ h => h))

theorem inText (p : Nat) (v : Value) (xs : List UInt8) (bad : Bool) (w : World) (hI : InV w p v xs bad) :
    Calls Try.prog 66 #[.pointer (some ⟨p, 0, none⟩)] w (TextPost w p xs bad) := by
  cases bad with
  | true => exact text_bad p v xs w hI
  | false => exact text_good p v xs w hI

set_option maxHeartbeats 400000 in
theorem inDone (p : Nat) (v : Value) (xs : List UInt8) (bad : Bool) (w : World) (hI : InV w p v xs bad) :
    Calls Try.prog 30 #[.pointer (some ⟨p, 0, none⟩)] w fun e w' => e = .returned (.bool (!bad && xs.isEmpty)) ∧ w = w' := by
  obtain ⟨ao, cap, rfl, _⟩ := hI.sl.shape
  have hc1 := hI.cell1
  have hc0 := hI.cell0
  have HI := Lib.hid hI; clear hI
  cases bad with
  | true =>
    go_enter Try.func30, Try.ntmps30
    go_wp2_with fail
    refine (bad_any p true w hc1).mono ?_
    rintro e w' ⟨rfl, rfl⟩
    go_wp2
    go_ret
    exact ⟨rfl, rfl⟩
  | false =>
    go_enter Try.func30, Try.ntmps30
    go_wp2_with fail
    refine (bad_any p false w hc1).mono ?_
    rintro e w' ⟨rfl, rfl⟩
    go_wp2_with fail
    refine (left_any p ao xs.length cap w hc0).mono ?_
    rintro e w' ⟨rfl, rfl⟩
    go_wp2
    go_ret
    refine ⟨?_, rfl⟩
    cases xs <;> simp
    omega

end Go.Proofs.Ytookbmpaoljelaa
