/-
  ValueFits: its walk.
-/
import Derived.Test.YtjkblmkgiiciaaaDoorValOrder
import Derived.Deep.RegionHeld3
namespace Go.Proofs.YtjkblmkgiiciaaaDoor
open Go Go.RowKit
set_option linter.unusedVariables false
set_option linter.unusedSimpArgs false
set_option maxRecDepth 100000

/-- A column that lies in block p. -/
structure At7 (w : World) (p : Nat) (nm : ByteArray) (cK cM : Int) (nu : Bool) (dK dN : Int) (dS : ByteArray) : Prop where
  c0 : w.cell? ⟨p, 0, none⟩ = some (.string nm)
  c1 : w.cell? ⟨p, 1, none⟩ = some (.int .i64 cK)
  c2 : w.cell? ⟨p, 2, none⟩ = some (.int .i64 cM)
  c3 : w.cell? ⟨p, 3, none⟩ = some (.bool nu)
  c4 : w.cell? ⟨p, 4, none⟩ = some (.int .i64 dK)
  c5 : w.cell? ⟨p, 5, none⟩ = some (.int .u64 dN)
  c6 : w.cell? ⟨p, 6, none⟩ = some (.string dS)
theorem At7.keep {w w1 : World} {p : Nat} {nm : ByteArray} {cK cM : Int} {nu : Bool} {dK dN : Int} {dS : ByteArray} (h : At7 w p nm cK cM nu dK dN dS) (hb : Below w.heap.size w w1) : At7 w1 p nm cK cM nu dK dN dS :=
  ⟨keep0 h.c0 hb, keep0 h.c1 hb, keep0 h.c2 hb, keep0 h.c3 hb, keep0 h.c4 hb, keep0 h.c5 hb, keep0 h.c6 hb⟩
theorem At7.new (w : World) (nm : ByteArray) (cK cM : Int) (nu : Bool) (dK dN : Int) (dS : ByteArray) (t : TypeId) : At7 (w.alloc (.cells #[.string nm, .int .i64 cK, .int .i64 cM, .bool nu, .int .i64 dK, .int .u64 dN, .string dS] t)) w.heap.size nm cK cM nu dK dN dS :=
  ⟨by go_simp, by go_simp, by go_simp, by go_simp, by go_simp, by go_simp, by go_simp⟩
theorem below_al (w : World) (o : Obj) : Below w.heap.size w (w.alloc o) := (Below.refl _ _).alloc (Nat.le_refl _) _

theorem fits_ok {cK cM : Int} {nu : Bool} {v : Vl} (h : fitsE cK cM nu v = 0) : v.okB = true ∧ (v.K = 0 → nu = true) ∧ (v.K ≠ 0 → v.K = cK) ∧ ¬ ((v.K = 4 ∨ v.K = 5) ∧ cM < (v.S.length : Int)) := by
  unfold fitsE at h
  by_cases h1 : v.okB = false
  · rw [if_pos h1] at h; cases h
  rw [if_neg h1] at h
  by_cases h2 : v.K = 0 ∧ nu = false
  · rw [if_pos h2] at h; cases h
  rw [if_neg h2] at h
  by_cases h3 : v.K ≠ 0 ∧ v.K ≠ cK
  · rw [if_pos h3] at h; cases h
  rw [if_neg h3] at h
  by_cases h4 : (v.K = 4 ∨ v.K = 5) ∧ cM < (v.S.length : Int)
  · rw [if_pos h4] at h; cases h
  exact ⟨by simpa using h1, fun e => by simpa [e] using h2, fun e => Classical.byContradiction fun e2 => h3 ⟨e, e2⟩, h4⟩
theorem fits_ok_mk {cK cM : Int} {nu : Bool} {v : Vl} (h1 : v.okB = true) (h2 : v.K = 0 → nu = true) (h3 : v.K ≠ 0 → v.K = cK) (h4 : ¬ ((v.K = 4 ∨ v.K = 5) ∧ cM < (v.S.length : Int))) : fitsE cK cM nu v = 0 := by
  unfold fitsE
  rw [if_neg (by rw [h1]; decide), if_neg (fun h => by rw [h2 h.1] at h; simp at h), if_neg (fun h => h.2 (h3 h.1)), if_neg h4]
theorem ok_len {v : Vl} (h : v.okB = true) (hK : v.K = 4 ∨ v.K = 5) : v.S.length ≤ 64 := by
  unfold Vl.okB at h
  rcases hK with e | e <;> rw [e] at h <;> simp at h <;> omega
theorem fits_nulls {cK cM : Int} {nu : Bool} {v : Vl} (h : fitsE cK cM nu v = 0) : fitsE cK cM true v = 0 := by
  obtain ⟨a, b, c, d⟩ := fits_ok h
  exact fits_ok_mk a (fun _ => rfl) c d
theorem fits_wide {cK cM : Int} {nu : Bool} {v : Vl} (h : fitsE cK cM nu v = 0) : fitsE cK 64 nu v = 0 := by
  obtain ⟨a, b, c, d⟩ := fits_ok h
  exact fits_ok_mk a b c (fun e => by have := ok_len a e.1; omega)
theorem fits_null (cK cM : Int) (nu : Bool) : fitsE cK cM nu (vl 0 0 ⟨#[]⟩) = if nu = true then 0 else 8 := by
  show fitsE cK cM nu ⟨0, 0, (ByteArray.mk #[]).toList⟩ = _
  rw [ba_nil]
  cases nu
  · unfold fitsE; rw [if_neg (by decide), if_pos (by simp)]; rfl
  · unfold fitsE; rw [if_neg (by decide), if_neg (by simp), if_neg (by simp), if_neg (by simp)]; rfl
theorem fits_other {cK cM oK : Int} {nu : Bool} {v : Vl} (h : fitsE cK cM nu v = 0) (hK : v.K ≠ 0) (ho : oK ≠ cK) : fitsE oK cM nu v = 8 := by
  obtain ⟨a, b, c, d⟩ := fits_ok h
  unfold fitsE
  rw [if_neg (by rw [a]; decide), if_neg (fun e => hK e.1), if_pos ⟨hK, fun e => ho (e.symm.trans (c hK))⟩]
theorem fits_bad {cK cM : Int} {nu : Bool} {v : Vl} (h : v.okB = false) : fitsE cK cM nu v = 8 := by unfold fitsE; rw [if_pos h]

/-- What the law holds in front of its questions. -/
structure FitsW (w wx : World) (p q5 q6 q7 : Nat) (nm : ByteArray) (cK cM : Int) (nu : Bool) (dK dN : Int) (dS : ByteArray) (K N : Int) (s : ByteArray) (oK : Int) : Prop where
  c : At7 wx p nm cK cM nu dK dN dS
  v : At3 wx (p + 1) K N s
  wide : At7 wx q5 nm cK 64 nu dK dN dS
  nulls : At7 wx q6 nm cK cM true dK dN dS
  other : At7 wx q7 nm oK cM nu dK dN dS
  tabs : Tabs wx
  below : Below w.heap.size w wx
theorem FitsW.keep {w wx wy : World} {p q5 q6 q7 : Nat} {nm : ByteArray} {cK cM : Int} {nu : Bool} {dK dN : Int} {dS : ByteArray} {K N : Int} {s : ByteArray} {oK : Int} (h : FitsW w wx p q5 q6 q7 nm cK cM nu dK dN dS K N s oK) (hb : Below wx.heap.size wx wy) : FitsW w wy p q5 q6 q7 nm cK cM nu dK dN dS K N s oK :=
  ⟨h.c.keep hb, h.v.keep hb, h.wide.keep hb, h.nulls.keep hb, h.other.keep hb, h.tabs.keep hb, h.below.trans (hb.mono h.below.size)⟩

theorem FitsW.cells14 {w wx : World} {p q5 q6 q7 : Nat} {nm : ByteArray} {cK cM : Int} {nu : Bool} {dK dN : Int} {dS : ByteArray} {K N : Int} {s : ByteArray} {oK : Int} (h : FitsW w wx p q5 q6 q7 nm cK cM nu dK dN dS K N s oK) :
    wx.cell? ⟨p, 0, none⟩ = some (.string nm) ∧ wx.cell? ⟨p, 1, none⟩ = some (.int .i64 cK) ∧ wx.cell? ⟨p, 2, none⟩ = some (.int .i64 cM) ∧ wx.cell? ⟨p, 3, none⟩ = some (.bool nu) ∧ wx.cell? ⟨p, 4, none⟩ = some (.int .i64 dK) ∧ wx.cell? ⟨p, 5, none⟩ = some (.int .u64 dN) ∧ wx.cell? ⟨p, 6, none⟩ = some (.string dS) ∧
    wx.cell? ⟨q6, 0, none⟩ = some (.string nm) ∧ wx.cell? ⟨q6, 1, none⟩ = some (.int .i64 cK) ∧ wx.cell? ⟨q6, 2, none⟩ = some (.int .i64 cM) ∧ wx.cell? ⟨q6, 3, none⟩ = some (.bool true) ∧ wx.cell? ⟨q6, 4, none⟩ = some (.int .i64 dK) ∧ wx.cell? ⟨q6, 5, none⟩ = some (.int .u64 dN) ∧ wx.cell? ⟨q6, 6, none⟩ = some (.string dS) :=
  ⟨h.c.c0, h.c.c1, h.c.c2, h.c.c3, h.c.c4, h.c.c5, h.c.c6, h.nulls.c0, h.nulls.c1, h.nulls.c2, h.nulls.c3, h.nulls.c4, h.nulls.c5, h.nulls.c6⟩

set_option maxHeartbeats 8000000 in
theorem fitslaw_walk {nm : ByteArray} {cK cM : Int} {nu : Bool} {dK dN : Int} {dS : ByteArray} {K N : Int} {s : ByteArray} (hD : U64 dN) (hN : U64 N) (w : World) (hT : Tabs w) :
    Calls Tryd.prog 6 #[colv nm cK cM nu dK dN dS, vlv K N s] w fun e w' => e = .returned (.bool true) ∧ Below w.heap.size w w' := by
  have HB := Lib.hid (fun o p => below_2 w o p)
  have HTA := Lib.hid (fun o p => hT.keep (HB.out o p))
  clear hT
  have HCV := Lib.hid (⟨(At7.new w nm cK cM nu dK dN dS 26).keep (below_al _ (.cells #[.int .i64 K, .int .u64 N, .string s] 24)), At3.new (w.alloc (.cells #[.string nm, .int .i64 cK, .int .i64 cM, .bool nu, .int .i64 dK, .int .u64 dN, .string dS] 26)) K N s 24⟩ : _ ∧ _)
  obtain ⟨oK, ho⟩ : ∃ oK, wrap64 (cK.tmod 5 + 1) = oK := ⟨_, rfl⟩
  have HO : Hid (1 ≤ cK → cK ≤ 5 → oK ≠ cK) := Lib.hid (fun h1 h2 => by
    have : cK = 1 ∨ cK = 2 ∨ cK = 3 ∨ cK = 4 ∨ cK = 5 := by omega
    rcases this with rfl | rfl | rfl | rfl | rfl <;> rw [← ho] <;> decide +kernel)
  go_enter Tryd.func6, Tryd.ntmps6
  go_wp2_with fail
  refine (awake_any _ (HTA.out _ _)).mono ?_
  rintro e w1 ⟨rfl, hb⟩
  obtain ⟨hc, hv⟩ := HCV.out
  rw [show (w.alloc (.cells #[.string nm, .int .i64 cK, .int .i64 cM, .bool nu, .int .i64 dK, .int .u64 dN, .string dS] 26)).heap.size = w.heap.size + 1 by simp] at hv
  replace hc := hc.keep hb
  replace hv := hv.keep hb
  have HT1 := Lib.hid ((HTA.out _ _).keep hb)
  have H1 := Lib.hid ((HB.out _ _).trans (hb.mono (HB.out _ _).size))
  have hz : w.heap.size + 1 < w1.heap.size := by have := hb.size; simp at this; omega
  clear hb HCV HTA HB
  have hc' := hc
  obtain ⟨c0, c1, c2, c3, c4, c5, c6⟩ := hc'
  go_upto_region 5 with fail
  clear c0 c1 c2 c3 c4 c5 c6
  have hw := At7.new w1 nm cK 64 nu dK dN dS 26
  have hb := below_al w1 (.cells #[.string nm, .int .i64 cK, .int .i64 64, .bool nu, .int .i64 dK, .int .u64 dN, .string dS] 26)
  obtain ⟨w2, hw2⟩ : ∃ W, w1.alloc (.cells #[.string nm, .int .i64 cK, .int .i64 64, .bool nu, .int .i64 dK, .int .u64 dN, .string dS] 26) = W := ⟨_, rfl⟩
  rw [hw2] at hw hb ⊢
  clear hw2
  replace hc := hc.keep hb
  replace hv := hv.keep hb
  replace hz := Nat.lt_of_lt_of_le hz hb.size
  have hz0 := Nat.lt_of_succ_lt hz
  replace HT1 := Lib.hid (HT1.out.keep hb)
  replace H1 := Lib.hid (H1.out.trans (hb.mono H1.out.size))
  clear hb
  have hc' := hc
  obtain ⟨c0, c1, c2, c3, c4, c5, c6⟩ := hc'
  go_upto_region 7 with fail
  clear c0 c1 c2 c3 c4 c5 c6
  have hn := At7.new w2 nm cK cM true dK dN dS 26
  have hb := below_al w2 (.cells #[.string nm, .int .i64 cK, .int .i64 cM, .bool true, .int .i64 dK, .int .u64 dN, .string dS] 26)
  obtain ⟨w3, hw3⟩ : ∃ W, w2.alloc (.cells #[.string nm, .int .i64 cK, .int .i64 cM, .bool true, .int .i64 dK, .int .u64 dN, .string dS] 26) = W := ⟨_, rfl⟩
  rw [hw3] at hn hb ⊢
  clear hw3
  replace hc := hc.keep hb
  replace hv := hv.keep hb
  replace hw := hw.keep hb
  replace hz := Nat.lt_of_lt_of_le hz hb.size
  have hz0 := Nat.lt_of_succ_lt hz
  replace HT1 := Lib.hid (HT1.out.keep hb)
  replace H1 := Lib.hid (H1.out.trans (hb.mono H1.out.size))
  clear hb
  have hc' := hc
  obtain ⟨c0, c1, c2, c3, c4, c5, c6⟩ := hc'
  go_upto_region 9 with fail
  clear c0 c1 c2 c3 c4 c5 c6
  have ho7 := At7.new w3 nm oK cM nu dK dN dS 26
  have hb := below_al w3 (.cells #[.string nm, .int .i64 oK, .int .i64 cM, .bool nu, .int .i64 dK, .int .u64 dN, .string dS] 26)
  obtain ⟨w4, hw4⟩ : ∃ W, w3.alloc (.cells #[.string nm, .int .i64 oK, .int .i64 cM, .bool nu, .int .i64 dK, .int .u64 dN, .string dS] 26) = W := ⟨_, rfl⟩
  rw [hw4] at ho7 hb ⊢
  clear hw4
  replace hc := hc.keep hb
  replace hv := hv.keep hb
  replace hw := hw.keep hb
  replace hn := hn.keep hb
  replace hz := Nat.lt_of_lt_of_le hz hb.size
  have hz0 := Nat.lt_of_succ_lt hz
  replace HT1 := Lib.hid (HT1.out.keep hb)
  replace H1 := Lib.hid (H1.out.trans (hb.mono H1.out.size))
  clear hb
  have hc' := hc
  obtain ⟨c0, c1, c2, c3, c4, c5, c6⟩ := hc'
  have HF : Hid (FitsW w w4 w.heap.size w1.heap.size w2.heap.size w3.heap.size nm cK cM nu dK dN dS K N s oK) := Lib.hid ⟨hc, hv, hw, hn, ho7, HT1.out, H1.out⟩
  clear hc hv hw hn ho7 HT1 H1 ho
  obtain ⟨v0, v1, v2⟩ := HF.out.v
  obtain ⟨E, hE⟩ : ∃ E, fitsE cK cM nu (vl K N s) = E := ⟨_, rfl⟩
  have HE := Lib.hid hE
  have HE8 : Hid ((vl K N s).okB = false → E = 8) := Lib.hid (fun h => by rw [← hE]; exact fits_bad h)
  clear hE
  go_wp2_with fail
  refine (fits_any hN _ HF.out.tabs).mono ?_
  rintro e w5 ⟨rfl, hb⟩
  rw [HE.out]
  have HF := Lib.hid (HF.out.keep hb)
  clear hb v0 v1 v2 c0 c1 c2 c3 c4 c5 c6 hz hz0
  go_upto_region 10 with fail
  go_cut [47] (fun s47 wx => s47 = .bool false ∧ Hid (FitsW w wx w.heap.size w1.heap.size w2.heap.size w3.heap.size nm cK cM nu dK dN dS K N s oK))
  case first =>
    by_cases e0 : E = 0
    · have HZ : Hid (fitsE cK cM nu (vl K N s) = 0) := Lib.hid (HE.out.trans e0)
      have HOK := Lib.hid (fits_ok HZ.out).1
      have HN1 := Lib.hid (fits_nulls HZ.out)
      have HW1 := Lib.hid (fits_wide HZ.out)
      subst e0
      obtain ⟨n0, n1, n2, n3, n4, n5, n6⟩ := HF.out.nulls
      obtain ⟨v0, v1, v2⟩ := HF.out.v
      go_wp2_with fail
      refine (fits_any hN _ HF.out.tabs).mono ?_
      rintro e w6 ⟨rfl, hb⟩
      rw [HN1.out]
      have HG := Lib.hid (HF.out.keep hb)
      clear hb v0 v1 v2 n0 n1 n2 n3 n4 n5 n6
      obtain ⟨v0, v1, v2⟩ := HG.out.v
      go_wp2_with fail
      refine (valid_any hN _ HG.out.tabs).mono ?_
      rintro e w7 ⟨rfl, hb⟩
      rw [HOK.out]
      have HI := Lib.hid (HG.out.keep hb)
      clear hb v0 v1 v2
      have c2 := HI.out.c.c2
      by_cases h64 : cM ≤ 64
      · obtain ⟨v0, v1, v2⟩ := HI.out.v
        obtain ⟨n0, n1, n2, n3, n4, n5, n6⟩ := HI.out.wide
        go_wp2_with fail
        refine (fits_any hN _ HI.out.tabs).mono ?_
        rintro e w8 ⟨rfl, hb⟩
        rw [HW1.out]
        have HJ := Lib.hid (HI.out.keep hb)
        clear hb v0 v1 v2 n0 n1 n2 n3 n4 n5 n6 c2
        go_wp2_with fail
        go_meet
        exact ⟨rfl, HJ⟩
      · go_wp2_with fail
        go_meet
        exact ⟨rfl, HI⟩
    · have eb : (E == 0) = false := by simpa using e0
      clear e0
      go_wp2_with fail
      go_meet
      exact ⟨rfl, HF⟩
  case rest =>
    obtain ⟨rfl, HG⟩ := hcut
    clear HF
    have HC2 : Hid (∀ W, Tabs W → Calls Tryd.prog 15 #[colv nm cK cM true dK dN dS, vlv 0 0 ⟨#[]⟩] W fun e w' => e = .returned (.int .i64 0) ∧ Below W.heap.size W w') := Lib.hid (fun W hW => by
      have h := fits_any (nm := nm) (cK := cK) (cM := cM) (nu := true) (dK := dK) (dN := dN) (dS := dS) (K := 0) (N := 0) (s := ⟨#[]⟩) (u64_of (by decide) (by decide)) W hW
      rw [fits_null] at h
      exact h)
    go_upto_region 12 with fail
    go_cut [60] (fun s60 wx => s60 = .bool false ∧ Hid (FitsW w wx w.heap.size w1.heap.size w2.heap.size w3.heap.size nm cK cM nu dK dN dS K N s oK))
    case first =>
      cases nu with
      | true =>
        have HC1 : Hid (∀ W, Tabs W → Calls Tryd.prog 15 #[colv nm cK cM true dK dN dS, vlv 0 0 ⟨#[]⟩] W fun e w' => e = .returned (.int .i64 0) ∧ Below W.heap.size W w') := Lib.hid (fun W hW => by
          have h := fits_any (nm := nm) (cK := cK) (cM := cM) (nu := true) (dK := dK) (dN := dN) (dS := dS) (K := 0) (N := 0) (s := ⟨#[]⟩) (u64_of (by decide) (by decide)) W hW
          rw [fits_null] at h
          exact h)
        have HFd := Lib.hid (HG.out.keep ((Below.refl _ _).drew))
        clear HG
        go_region_held3 (fun w' => w'.cell? ⟨w.heap.size, 0, none⟩ = some (.string nm) ∧ w'.cell? ⟨w.heap.size, 1, none⟩ = some (.int .i64 cK) ∧ w'.cell? ⟨w.heap.size, 2, none⟩ = some (.int .i64 cM) ∧ w'.cell? ⟨w.heap.size, 3, none⟩ = some (.bool true) ∧ w'.cell? ⟨w.heap.size, 4, none⟩ = some (.int .i64 dK) ∧ w'.cell? ⟨w.heap.size, 5, none⟩ = some (.int .u64 dN) ∧ w'.cell? ⟨w.heap.size, 6, none⟩ = some (.string dS) ∧ w'.cell? ⟨w2.heap.size, 0, none⟩ = some (.string nm) ∧ w'.cell? ⟨w2.heap.size, 1, none⟩ = some (.int .i64 cK) ∧ w'.cell? ⟨w2.heap.size, 2, none⟩ = some (.int .i64 cM) ∧ w'.cell? ⟨w2.heap.size, 3, none⟩ = some (.bool true) ∧ w'.cell? ⟨w2.heap.size, 4, none⟩ = some (.int .i64 dK) ∧ w'.cell? ⟨w2.heap.size, 5, none⟩ = some (.int .u64 dN) ∧ w'.cell? ⟨w2.heap.size, 6, none⟩ = some (.string dS))
          (first
            | exact HA2.out.cells14
            | exact HA1.out.cells14
            | exact HFd.out.cells14)
          (first
            | (go_at_call 15; (with_reducible refine (HC1.out _ HFd.out.tabs).mono ?_); rintro e w7 ⟨rfl, ha⟩; have HA1 := Lib.hid (HFd.out.keep ha); clear ha)
            | (go_at_call 15; (with_reducible refine (HC2.out _ HA1.out.tabs).mono ?_); rintro e w8 ⟨rfl, ha⟩; have HA2 := Lib.hid (HA1.out.keep ha); clear ha))
        have HH := Lib.hid HA2.out
        clear HA1 HA2 HFd HC1 HC2
        go_wp2_with fail
        go_meet
        exact ⟨rfl, HH⟩
      | false =>
        have HC1 : Hid (∀ W, Tabs W → Calls Tryd.prog 15 #[colv nm cK cM false dK dN dS, vlv 0 0 ⟨#[]⟩] W fun e w' => e = .returned (.int .i64 8) ∧ Below W.heap.size W w') := Lib.hid (fun W hW => by
          have h := fits_any (nm := nm) (cK := cK) (cM := cM) (nu := false) (dK := dK) (dN := dN) (dS := dS) (K := 0) (N := 0) (s := ⟨#[]⟩) (u64_of (by decide) (by decide)) W hW
          rw [fits_null] at h
          exact h)
        have HFd := Lib.hid (HG.out.keep ((Below.refl _ _).drew))
        clear HG
        go_region_held3 (fun w' => w'.cell? ⟨w.heap.size, 0, none⟩ = some (.string nm) ∧ w'.cell? ⟨w.heap.size, 1, none⟩ = some (.int .i64 cK) ∧ w'.cell? ⟨w.heap.size, 2, none⟩ = some (.int .i64 cM) ∧ w'.cell? ⟨w.heap.size, 3, none⟩ = some (.bool false) ∧ w'.cell? ⟨w.heap.size, 4, none⟩ = some (.int .i64 dK) ∧ w'.cell? ⟨w.heap.size, 5, none⟩ = some (.int .u64 dN) ∧ w'.cell? ⟨w.heap.size, 6, none⟩ = some (.string dS) ∧ w'.cell? ⟨w2.heap.size, 0, none⟩ = some (.string nm) ∧ w'.cell? ⟨w2.heap.size, 1, none⟩ = some (.int .i64 cK) ∧ w'.cell? ⟨w2.heap.size, 2, none⟩ = some (.int .i64 cM) ∧ w'.cell? ⟨w2.heap.size, 3, none⟩ = some (.bool true) ∧ w'.cell? ⟨w2.heap.size, 4, none⟩ = some (.int .i64 dK) ∧ w'.cell? ⟨w2.heap.size, 5, none⟩ = some (.int .u64 dN) ∧ w'.cell? ⟨w2.heap.size, 6, none⟩ = some (.string dS))
          (first
            | exact HA2.out.cells14
            | exact HA1.out.cells14
            | exact HFd.out.cells14)
          (first
            | (go_at_call 15; (with_reducible refine (HC1.out _ HFd.out.tabs).mono ?_); rintro e w7 ⟨rfl, ha⟩; have HA1 := Lib.hid (HFd.out.keep ha); clear ha)
            | (go_at_call 15; (with_reducible refine (HC2.out _ HA1.out.tabs).mono ?_); rintro e w8 ⟨rfl, ha⟩; have HA2 := Lib.hid (HA1.out.keep ha); clear ha))
        have HH := Lib.hid HA2.out
        clear HA1 HA2 HFd HC1 HC2
        go_wp2_with fail
        go_meet
        exact ⟨rfl, HH⟩
    case rest =>
      obtain ⟨rfl, HH⟩ := hcut
      clear HG HC2
      go_upto_region 14 with fail
      go_cut [83] (fun s83 wx => s83 = .bool false ∧ Hid (FitsW w wx w.heap.size w1.heap.size w2.heap.size w3.heap.size nm cK cM nu dK dN dS K N s oK))
      case first =>
        by_cases e0 : E = 0
        · have HZ : Hid (fitsE cK cM nu (vl K N s) = 0) := Lib.hid (HE.out.trans e0)
          subst e0
          obtain ⟨v0, v1, v2⟩ := HH.out.v
          have c1 := HH.out.c.c1
          by_cases hK : K = 0
          · have kb : (K != 0) = false := by simpa using hK
            clear hK
            go_wp2_with fail
            go_meet
            exact ⟨rfl, HH⟩
          · have HK := Lib.hid hK
            have kb : (K != 0) = true := by simpa using hK
            clear hK
            by_cases h1 : 1 ≤ cK
            · by_cases h5 : cK ≤ 5
              · have HO8 := Lib.hid (fits_other (oK := oK) HZ.out HK.out (HO.out h1 h5))
                obtain ⟨n0, n1, n2, n3, n4, n5, n6⟩ := HH.out.other
                go_wp2_with fail
                refine (fits_any hN _ HH.out.tabs).mono ?_
                rintro e w8 ⟨rfl, hb⟩
                rw [HO8.out]
                have HJ := Lib.hid (HH.out.keep hb)
                clear hb v0 v1 v2 c1 n0 n1 n2 n3 n4 n5 n6
                go_wp2_with fail
                go_meet
                exact ⟨rfl, HJ⟩
              · go_wp2_with fail
                go_meet
                exact ⟨rfl, HH⟩
            · go_wp2_with fail
              go_meet
              exact ⟨rfl, HH⟩
        · have eb : (E == 0) = false := by simpa using e0
          clear e0
          go_wp2_with fail
          go_meet
          exact ⟨rfl, HH⟩
      case rest =>
        obtain ⟨rfl, HI⟩ := hcut
        clear HH
        obtain ⟨v0, v1, v2⟩ := HI.out.v
        go_wp2_with fail
        refine (valid_any hN _ HI.out.tabs).mono ?_
        rintro e w9 ⟨rfl, hb⟩
        have HJ := Lib.hid (HI.out.keep hb)
        clear hb v0 v1 v2
        by_cases hok : (vl K N s).okB = true
        · rw [hok]
          clear hok
          go_wp2
          go_ret
          exact ⟨rfl, HJ.out.below⟩
        · have hok2 : (vl K N s).okB = false := by simpa using hok
          rw [hok2]
          have e8 := HE8.out hok2
          subst e8
          clear hok hok2
          go_wp2
          go_ret
          exact ⟨rfl, HJ.out.below⟩

end Go.Proofs.YtjkblmkgiiciaaaDoor
