/-
  What may stand in a column, and which columns there are: package value's Fits, boundFits and Column.
-/
import Derived.Test.YtcpfohjejhkgbaaDoorVal6
namespace Go.Proofs.YtcpfohjejhkgbaaDoor
open Go Go.RowKit
set_option linter.unusedVariables false
set_option linter.unusedSimpArgs false
set_option maxRecDepth 100000

/-- The value of a column. -/
abbrev colv (nm : ByteArray) (cK cM : Int) (nu : Bool) (dK dN : Int) (dS : ByteArray) : Value := .agg #[.string nm, .int .i64 cK, .int .i64 cM, .bool nu, .int .i64 dK, .int .u64 dN, .string dS]
def fitsE (cK cM : Int) (nu : Bool) (v : Vl) : Int :=
  if v.okB = false then 8 else if v.K = 0 ∧ nu = false then 8 else if v.K ≠ 0 ∧ v.K ≠ cK then 8 else if (v.K = 4 ∨ v.K = 5) ∧ cM < (v.S.length : Int) then 7 else 0
/-- What Fits' two arguments hold behind a call. -/
theorem fits_cells {nm : ByteArray} {cK cM : Int} {nu : Bool} {dK dN : Int} {dS : ByteArray} {K N : Int} {s : ByteArray} {w w1 : World} {t1 t2 : TypeId}
    (hb : Below ((w.alloc (.cells #[.string nm, .int .i64 cK, .int .i64 cM, .bool nu, .int .i64 dK, .int .u64 dN, .string dS] t1)).alloc (.cells #[.int .i64 K, .int .u64 N, .string s] t2)).heap.size ((w.alloc (.cells #[.string nm, .int .i64 cK, .int .i64 cM, .bool nu, .int .i64 dK, .int .u64 dN, .string dS] t1)).alloc (.cells #[.int .i64 K, .int .u64 N, .string s] t2)) w1) :
    w1.cell? ⟨w.heap.size, 0, none⟩ = some (.string nm) ∧ w1.cell? ⟨w.heap.size, 1, none⟩ = some (.int .i64 cK) ∧ w1.cell? ⟨w.heap.size, 2, none⟩ = some (.int .i64 cM) ∧ w1.cell? ⟨w.heap.size, 3, none⟩ = some (.bool nu) ∧
    w1.cell? ⟨w.heap.size + 1, 0, none⟩ = some (.int .i64 K) ∧ w1.cell? ⟨w.heap.size + 1, 2, none⟩ = some (.string s) := by
  refine ⟨?_, ?_, ?_, ?_, ?_, ?_⟩ <;> (rw [hb.cell (by simp <;> omega)]; go_simp)

set_option maxHeartbeats 1000000 in
theorem fits_any {nm : ByteArray} {cK cM : Int} {nu : Bool} {dK dN : Int} {dS : ByteArray} {K N : Int} {s : ByteArray} (hN : U64 N) (w : World) (hT : Tabs w) :
    Calls Tryd.prog 12 #[colv nm cK cM nu dK dN dS, vlv K N s] w fun e w' => e = .returned (.int .i64 (fitsE cK cM nu (vl K N s))) ∧ Below w.heap.size w w' := by
  have HB := Lib.hid (fun o p => below_2 w o p)
  have HT := Lib.hid (fun o p => hT.keep (HB.out o p))
  clear hT
  have hsz := ba_size s
  by_cases ho : (vl K N s).okB = true
  case neg =>
    have ho : (vl K N s).okB = false := by simpa using ho
    have HOK := Lib.hid ho
    have hr : fitsE cK cM nu (vl K N s) = 8 := by rw [fitsE, if_pos ho]
    rw [hr]
    clear ho hr hsz
    go_enter Tryd.func12, Tryd.ntmps12
    go_wp2_with fail
    refine (valid_any hN _ (HT.out _ _)).mono ?_
    rintro e w1 ⟨rfl, hb1⟩
    rw [HOK.out]
    obtain ⟨c0, c1, c2, c3, v0, v2⟩ := fits_cells hb1
    have H1 := Lib.hid ((HB.out _ _).trans (hb1.mono (by simp; omega)))
    clear hb1
    go_wp2
    go_ret
    exact ⟨rfl, H1.out⟩
  have HOK := Lib.hid ho
  by_cases k0 : K = 0
  · subst k0
    cases nu with
    | false =>
      have hr : fitsE cK cM false (vl 0 N s) = 8 := by rw [fitsE, if_neg (by rw [ho]; decide), if_pos (by simp)]
      rw [hr]
      clear ho hr hsz
      go_enter Tryd.func12, Tryd.ntmps12
      go_wp2_with fail
      refine (valid_any hN _ (HT.out _ _)).mono ?_
      rintro e w1 ⟨rfl, hb1⟩
      rw [HOK.out]
      obtain ⟨c0, c1, c2, c3, v0, v2⟩ := fits_cells hb1
      have H1 := Lib.hid ((HB.out _ _).trans (hb1.mono (by simp; omega)))
      clear hb1
      go_wp2
      go_ret
      exact ⟨rfl, H1.out⟩
    | true =>
      have hr : fitsE cK cM true (vl 0 N s) = 0 := by rw [fitsE, if_neg (by rw [ho]; decide), if_neg (by simp), if_neg (by simp), if_neg (by simp)]
      rw [hr]
      clear ho hr hsz
      go_enter Tryd.func12, Tryd.ntmps12
      go_wp2_with fail
      refine (valid_any hN _ (HT.out _ _)).mono ?_
      rintro e w1 ⟨rfl, hb1⟩
      rw [HOK.out]
      obtain ⟨c0, c1, c2, c3, v0, v2⟩ := fits_cells hb1
      have H1 := Lib.hid ((HB.out _ _).trans (hb1.mono (by simp; omega)))
      clear hb1
      go_wp2
      go_ret
      exact ⟨rfl, H1.out⟩
  have b0 : (K == 0) = false := by simpa using k0
  have d0 : (K != 0) = true := by simpa using k0
  by_cases hk : K = cK
  case neg =>
    have hr : fitsE cK cM nu (vl K N s) = 8 := by rw [fitsE, if_neg (by rw [ho]; decide), if_neg (by simp [k0]), if_pos ⟨k0, hk⟩]
    have d1 : (K != cK) = true := by simpa using hk
    rw [hr]
    clear ho hr hsz k0 hk
    go_enter Tryd.func12, Tryd.ntmps12
    go_wp2_with fail
    refine (valid_any hN _ (HT.out _ _)).mono ?_
    rintro e w1 ⟨rfl, hb1⟩
    rw [HOK.out]
    obtain ⟨c0, c1, c2, c3, v0, v2⟩ := fits_cells hb1
    have H1 := Lib.hid ((HB.out _ _).trans (hb1.mono (by simp; omega)))
    clear hb1
    go_wp2
    go_ret
    exact ⟨rfl, H1.out⟩
  subst hk
  have d1 : (K != K) = false := by simp
  by_cases h45 : K = 4 ∨ K = 5
  case neg =>
    have hr : fitsE K cM nu (vl K N s) = 0 := by rw [fitsE, if_neg (by rw [ho]; decide), if_neg (by simp [k0]), if_neg (by simp), if_neg (fun h => h45 h.1)]
    have b4 : (K == 4) = false := by simp; omega
    have b5 : (K == 5) = false := by simp; omega
    rw [hr]
    clear ho hr hsz k0 h45
    go_enter Tryd.func12, Tryd.ntmps12
    go_wp2_with fail
    refine (valid_any hN _ (HT.out _ _)).mono ?_
    rintro e w1 ⟨rfl, hb1⟩
    rw [HOK.out]
    obtain ⟨c0, c1, c2, c3, v0, v2⟩ := fits_cells hb1
    have H1 := Lib.hid ((HB.out _ _).trans (hb1.mono (by simp; omega)))
    clear hb1
    go_wp2
    go_ret
    exact ⟨rfl, H1.out⟩
  by_cases hl : cM < (s.size : Int)
  · have hr : fitsE K cM nu (vl K N s) = 7 := by rw [fitsE, if_neg (by rw [ho]; decide), if_neg (by simp [k0]), if_neg (by simp), if_pos ⟨h45, by simp only [hsz]; exact hl⟩]
    rw [hr]
    rcases h45 with rfl | rfl
    all_goals
      clear ho hr hsz k0
      go_enter Tryd.func12, Tryd.ntmps12
      go_wp2_with fail
      refine (valid_any hN _ (HT.out _ _)).mono ?_
      rintro e w1 ⟨rfl, hb1⟩
      rw [HOK.out]
      obtain ⟨c0, c1, c2, c3, v0, v2⟩ := fits_cells hb1
      have H1 := Lib.hid ((HB.out _ _).trans (hb1.mono (by simp; omega)))
      clear hb1
      go_wp2
      go_ret
      exact ⟨rfl, H1.out⟩
  · have hr : fitsE K cM nu (vl K N s) = 0 := by rw [fitsE, if_neg (by rw [ho]; decide), if_neg (by simp [k0]), if_neg (by simp), if_neg (fun h => hl (by have := h.2; simp only [hsz] at this; exact this))]
    rw [hr]
    rcases h45 with rfl | rfl
    all_goals
      clear ho hr hsz k0
      go_enter Tryd.func12, Tryd.ntmps12
      go_wp2_with fail
      refine (valid_any hN _ (HT.out _ _)).mono ?_
      rintro e w1 ⟨rfl, hb1⟩
      rw [HOK.out]
      obtain ⟨c0, c1, c2, c3, v0, v2⟩ := fits_cells hb1
      have H1 := Lib.hid ((HB.out _ _).trans (hb1.mono (by simp; omega)))
      clear hb1
      go_wp2
      go_ret
      exact ⟨rfl, H1.out⟩

def boundB (cK cM : Int) : Bool := if cK = 4 ∨ cK = 5 then decide (1 ≤ cM) && decide (cM ≤ 64) else decide (cM = 0)
def colE (nm : List UInt8) (cK cM : Int) (nu : Bool) (d : Vl) : Int :=
  if nameB nm = false then 1 else if cK < 1 ∨ 5 < cK then 8 else if boundB cK cM = false then 7 else fitsE cK cM nu d
/-- What Column's argument holds behind a call. -/
theorem col_cells {nm : ByteArray} {cK cM : Int} {nu : Bool} {dK dN : Int} {dS : ByteArray} {w w1 : World} {t1 : TypeId}
    (hb : Below (w.alloc (.cells #[.string nm, .int .i64 cK, .int .i64 cM, .bool nu, .int .i64 dK, .int .u64 dN, .string dS] t1)).heap.size (w.alloc (.cells #[.string nm, .int .i64 cK, .int .i64 cM, .bool nu, .int .i64 dK, .int .u64 dN, .string dS] t1)) w1) :
    w1.cell? ⟨w.heap.size, 0, none⟩ = some (.string nm) ∧ w1.cell? ⟨w.heap.size, 1, none⟩ = some (.int .i64 cK) ∧ w1.cell? ⟨w.heap.size, 2, none⟩ = some (.int .i64 cM) ∧ w1.cell? ⟨w.heap.size, 3, none⟩ = some (.bool nu) ∧
    w1.cell? ⟨w.heap.size, 4, none⟩ = some (.int .i64 dK) ∧ w1.cell? ⟨w.heap.size, 5, none⟩ = some (.int .u64 dN) ∧ w1.cell? ⟨w.heap.size, 6, none⟩ = some (.string dS) := by
  refine ⟨?_, ?_, ?_, ?_, ?_, ?_, ?_⟩ <;> (rw [hb.cell (by simp <;> omega)]; go_simp)


end Go.Proofs.YtcpfohjejhkgbaaDoor
