/-
  Contract of the statements' take: the program's In and the document's, side by side.
-/
import Derived.Test.YticaonmifblnbaaPackRef3
namespace Go.Proofs.Yticaonmifblnbaa
open Go Go.RowKit Go.Lib
set_option linter.unusedVariables false

/-- The program's In in block p and the document's in block r hold the same. -/
structure Both (w0 w : World) (p r : Nat) (xs : List UInt8) (bd : Bool) : Prop where
  inn : ∃ v, InV w p v xs bd
  ref : RefV w r xs bd
  gp : w0.heap.size ≤ p
  gr : w0.heap.size ≤ r
  only : Only (fun _ => False) w0 w

theorem Both.ne {w0 w : World} {p r : Nat} {xs : List UInt8} {bd : Bool} (h : Both w0 w p r xs bd) : p ≠ r := by
  intro e
  obtain ⟨v, hI⟩ := h.inn
  obtain ⟨v', bs, a, hR, _⟩ := h.ref
  have h1 := hI.at'
  rw [e, hR.cell] at h1
  simp at h1

theorem Both.step {w0 w w1 w2 : World} {p r : Nat} {xs ys : List UInt8} {bd bd' : Bool} {v : Value} (h : Both w0 w p r xs bd) (hI : InV w1 p v ys bd') (ho : Only (fun k => k = p) w w1)
    (hR : RefV w2 r ys bd') (ho2 : Only (fun k => k = r) w1 w2) : Both w0 w2 p r ys bd' :=
  ⟨⟨v, hI.keep ho2 h.ne (fun k cur hk e => by
      obtain ⟨v', bs, a, hR0, _⟩ := h.ref
      have := ho.keep hR0.cell (fun e => h.ne e.symm)
      subst e
      rw [this] at hk
      simp at hk)⟩, hR, h.gp, h.gr, (h.only.none ho (fun k e => e ▸ h.gp)).none ho2 (fun k e => e ▸ h.gr)⟩

theorem Both.mid {w0 w w1 : World} {p r : Nat} {xs : List UInt8} {bd : Bool} (h : Both w0 w p r xs bd) (ho : Only (fun k => k = p) w w1) : RefV w1 r xs bd :=
  h.ref.keep ho (fun e => h.ne e.symm) (fun k cur hk e => by
    obtain ⟨v, hI⟩ := h.inn
    subst e
    rw [hI.at'] at hk
    simp at hk)

def TakePost (w0 : World) (p r : Nat) (e : Ending) (w' : World) : Prop := e = .returned (.bool true) ∧ ∃ ys bd, Both w0 w' p r ys bd

set_option maxRecDepth 100000 in
set_option maxHeartbeats 1000000 in
theorem take_any (w0 : World) (p r : Nat) (z : Int) (xs : List UInt8) (bd : Bool) (w : World) (h : Both w0 w p r xs bd) :
    Calls Try.prog 16 #[.pointer (some ⟨p, 0, none⟩), .pointer (some ⟨r, 0, none⟩), .int .i64 z] w (TakePost w0 p r) := by
  obtain ⟨v, hI⟩ := h.inn
  have HI := Lib.hid hI
  have HB := Lib.hid h
  clear h hI
  obtain ⟨m, hm6, hm⟩ := kind_cases z
  go_enter Try.func16, Try.ntmps16
  go_upto_region 2 with fail
  clear hm
  match m, hm6 with
  | 0, hm6 =>
    go_wp2_with fail
    refine (inU8 p v xs bd w HI.out).mono ?_
    rintro e w1 ⟨v1, rfl, hI1, ho1⟩
    have HR1 := Lib.hid (HB.out.mid ho1)
    have HI1 := Lib.hid hI1
    have HO1 := Lib.hid ho1
    obtain ⟨x, hx⟩ : ∃ x, x = numB (nextR 1 xs bd) := ⟨_, rfl⟩
    have hxb : x < 256 := by rw [hx]; exact numN_lt 1 xs bd
    rw [← hx]
    have HX := Lib.hid hx
    clear hI1 ho1 HI hx
    go_wp2_with fail
    refine (refNum r 1 xs bd w1 HR1.out (by omega)).mono ?_
    rintro e w2 ⟨rfl, hR2, ho2⟩
    rw [← HX.out]
    have HS := Lib.hid (HB.out.step HI1.out HO1.out hR2 ho2)
    clear hR2 ho2 HI1 HO1 HR1
    go_wp2
    go_ret
    exact ⟨rfl, _, _, HS.out⟩
  | 1, hm6 =>
    go_wp2_with fail
    refine (inU16 p v xs bd w HI.out).mono ?_
    rintro e w1 ⟨v1, rfl, hI1, ho1⟩
    have HR1 := Lib.hid (HB.out.mid ho1)
    have HI1 := Lib.hid hI1
    have HO1 := Lib.hid ho1
    obtain ⟨x, hx⟩ : ∃ x, x = numB (nextR 2 xs bd) := ⟨_, rfl⟩
    have hxb : x < 65536 := by rw [hx]; exact numN_lt 2 xs bd
    rw [← hx]
    have HX := Lib.hid hx
    clear hI1 ho1 HI hx
    go_wp2_with fail
    refine (refNum r 2 xs bd w1 HR1.out (by omega)).mono ?_
    rintro e w2 ⟨rfl, hR2, ho2⟩
    rw [← HX.out]
    have HS := Lib.hid (HB.out.step HI1.out HO1.out hR2 ho2)
    clear hR2 ho2 HI1 HO1 HR1
    go_wp2
    go_ret
    exact ⟨rfl, _, _, HS.out⟩
  | 2, hm6 =>
    go_wp2_with fail
    refine (inU32 p v xs bd w HI.out).mono ?_
    rintro e w1 ⟨v1, rfl, hI1, ho1⟩
    have HR1 := Lib.hid (HB.out.mid ho1)
    have HI1 := Lib.hid hI1
    have HO1 := Lib.hid ho1
    obtain ⟨x, hx⟩ : ∃ x, x = numB (nextR 4 xs bd) := ⟨_, rfl⟩
    have hxb : x < 4294967296 := by rw [hx]; exact numN_lt 4 xs bd
    rw [← hx]
    have HX := Lib.hid hx
    clear hI1 ho1 HI hx
    go_wp2_with fail
    refine (refNum r 4 xs bd w1 HR1.out (by omega)).mono ?_
    rintro e w2 ⟨rfl, hR2, ho2⟩
    rw [← HX.out]
    have HS := Lib.hid (HB.out.step HI1.out HO1.out hR2 ho2)
    clear hR2 ho2 HI1 HO1 HR1
    go_wp2
    go_ret
    exact ⟨rfl, _, _, HS.out⟩
  | 3, hm6 =>
    go_wp2_with fail
    refine (inU64 p v xs bd w HI.out).mono ?_
    rintro e w1 ⟨v1, rfl, hI1, ho1⟩
    have HR1 := Lib.hid (HB.out.mid ho1)
    have HI1 := Lib.hid hI1
    have HO1 := Lib.hid ho1
    obtain ⟨x, hx⟩ : ∃ x, x = numB (nextR 8 xs bd) := ⟨_, rfl⟩
    have hxb : x < 18446744073709551616 := by rw [hx]; exact numN_lt 8 xs bd
    rw [← hx]
    have HX := Lib.hid hx
    clear hI1 ho1 HI hx
    go_wp2_with fail
    refine (refNum r 8 xs bd w1 HR1.out (by omega)).mono ?_
    rintro e w2 ⟨rfl, hR2, ho2⟩
    rw [← HX.out]
    have HS := Lib.hid (HB.out.step HI1.out HO1.out hR2 ho2)
    clear hR2 ho2 HI1 HO1 HR1
    go_wp2
    go_ret
    exact ⟨rfl, _, _, HS.out⟩
  | 4, hm6 =>
    go_wp2_with fail
    refine (inFlag p v xs bd w HI.out).mono ?_
    rintro e w1 ⟨v1, rfl, hI1, ho1⟩
    have HR1 := Lib.hid (HB.out.mid ho1)
    have HI1 := Lib.hid hI1
    have HO1 := Lib.hid ho1
    clear hI1 ho1 HI
    go_wp2_with fail
    refine (refFlag r xs bd w1 HR1.out).mono ?_
    rintro e w2 ⟨rfl, hR2, ho2⟩
    have HS := Lib.hid (HB.out.step HI1.out HO1.out hR2 ho2)
    clear hR2 ho2 HI1 HO1 HR1
    go_wp2
    go_ret
    exact ⟨rfl, _, _, HS.out⟩
  | 5, hm6 =>
    go_wp2_with fail
    refine (inText p v xs bd w HI.out).mono ?_
    rintro e w1 ⟨v1, rfl, hI1, ho1⟩
    have HR1 := Lib.hid (HB.out.mid ho1)
    have HI1 := Lib.hid hI1
    have HO1 := Lib.hid ho1
    clear hI1 ho1 HI
    go_wp2_with fail
    refine (refText r xs bd w1 HR1.out).mono ?_
    rintro e w2 ⟨rfl, hR2, ho2⟩
    have HS := Lib.hid (HB.out.step HI1.out HO1.out hR2 ho2)
    clear hR2 ho2 HI1 HO1 HR1
    go_wp2
    go_ret
    exact ⟨rfl, _, _, HS.out⟩
  | m + 6, hm6 => omega

end Go.Proofs.Yticaonmifblnbaa
