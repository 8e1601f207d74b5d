/-
  ValueAll: its walk.
-/
import Derived.Test.YtjkblmkgiiciaaaDoorValR2
import Derived.Test.YtjkblmkgiiciaaaDoorValFits
namespace Go.Proofs.YtjkblmkgiiciaaaDoor
open Go Go.RowKit
set_option linter.unusedVariables false
set_option linter.unusedSimpArgs false
set_option maxRecDepth 100000

theorem name_below (s : ByteArray) (w : World) : Calls Tryd.prog 13 #[.string s] w fun e w' => e = .returned (.bool (nameB s.toList)) ∧ Below w.heap.size w w' := by
  refine (name_any s w).mono ?_
  rintro e w' ⟨rfl, rfl⟩
  exact ⟨rfl, Below.refl _ _⟩
theorem rname_below (s : ByteArray) (w : World) : Calls Tryd.prog 14 #[.string s] w fun e w' => e = .returned (.bool (nameB s.toList)) ∧ Below w.heap.size w w' := by
  refine (rname_any s w).mono ?_
  rintro e w' ⟨rfl, rfl⟩
  exact ⟨rfl, Below.refl _ _⟩

/-- What the law holds. -/
structure AllW (w wx : World) (p : Nat) (K N : Int) (s : ByteArray) (L M : Int) (t : ByteArray) (nm : ByteArray) (cK cM : Int) (nu : Bool) (dK dN : Int) (dS : ByteArray) : Prop where
  a : At3 wx p K N s
  b : At3 wx (p + 1) L M t
  c : At7 wx (p + 1 + 1) nm cK cM nu dK dN dS
  tabs : Tabs wx
  below : Below w.heap.size w wx
theorem AllW.keep {w wx wy : World} {p : Nat} {K N : Int} {s : ByteArray} {L M : Int} {t : ByteArray} {nm : ByteArray} {cK cM : Int} {nu : Bool} {dK dN : Int} {dS : ByteArray} (h : AllW w wx p K N s L M t nm cK cM nu dK dN dS) (hb : Below wx.heap.size wx wy) : AllW w wy p K N s L M t nm cK cM nu dK dN dS :=
  ⟨h.a.keep hb, h.b.keep hb, h.c.keep hb, h.tabs.keep hb, h.below.trans (hb.mono h.below.size)⟩
theorem AllW.cells {w wx : World} {p : Nat} {K N : Int} {s : ByteArray} {L M : Int} {t : ByteArray} {nm : ByteArray} {cK cM : Int} {nu : Bool} {dK dN : Int} {dS : ByteArray} (h : AllW w wx p K N s L M t nm cK cM nu dK dN dS) :
    wx.cell? ⟨p, 0, none⟩ = some (.int .i64 K) ∧ wx.cell? ⟨p, 1, none⟩ = some (.int .u64 N) ∧ wx.cell? ⟨p, 2, none⟩ = some (.string s) ∧ wx.cell? ⟨p + 1, 0, none⟩ = some (.int .i64 L) ∧ wx.cell? ⟨p + 1, 1, none⟩ = some (.int .u64 M) ∧ wx.cell? ⟨p + 1, 2, none⟩ = some (.string t) ∧ wx.cell? ⟨p + 1 + 1, 0, none⟩ = some (.string nm) ∧ wx.cell? ⟨p + 1 + 1, 1, none⟩ = some (.int .i64 cK) ∧ wx.cell? ⟨p + 1 + 1, 2, none⟩ = some (.int .i64 cM) ∧ wx.cell? ⟨p + 1 + 1, 3, none⟩ = some (.bool nu) ∧ wx.cell? ⟨p + 1 + 1, 4, none⟩ = some (.int .i64 dK) ∧ wx.cell? ⟨p + 1 + 1, 5, none⟩ = some (.int .u64 dN) ∧ wx.cell? ⟨p + 1 + 1, 6, none⟩ = some (.string dS) :=
  ⟨h.a.k, h.a.n, h.a.s, h.b.k, h.b.n, h.b.s, h.c.c0, h.c.c1, h.c.c2, h.c.c3, h.c.c4, h.c.c5, h.c.c6⟩

set_option maxHeartbeats 16000000 in
theorem all_walk {K N : Int} {s : ByteArray} {L M : Int} {t : ByteArray} {nm : ByteArray} {cK cM : Int} {nu : Bool} {dK dN : Int} {dS : ByteArray} (hN : U64 N) (hM : U64 M) (hD : U64 dN) (w : World) (hT : Tabs w) :
    Calls Tryd.prog 3 #[vlv K N s, vlv L M t, colv nm cK cM nu dK dN dS] w fun e w' => e = .returned (.bool true) ∧ Below w.heap.size w w' := by
  have HB := Lib.hid (fun a b c => below3 w a b c)
  have HTA := Lib.hid (fun a b c => hT.keep (HB.out a b c))
  clear hT
  have HV := Lib.hid (⟨((At3.new w K N s 24).alloc (.cells #[.int .i64 L, .int .u64 M, .string t] 24)).alloc (.cells #[.string nm, .int .i64 cK, .int .i64 cM, .bool nu, .int .i64 dK, .int .u64 dN, .string dS] 26),
    (At3.new (w.alloc (.cells #[.int .i64 K, .int .u64 N, .string s] 24)) L M t 24).alloc (.cells #[.string nm, .int .i64 cK, .int .i64 cM, .bool nu, .int .i64 dK, .int .u64 dN, .string dS] 26),
    At7.new ((w.alloc (.cells #[.int .i64 K, .int .u64 N, .string s] 24)).alloc (.cells #[.int .i64 L, .int .u64 M, .string t] 24)) nm cK cM nu dK dN dS 26⟩ : _ ∧ _ ∧ _)
  obtain ⟨B1, h1⟩ : ∃ x, (vl K N s).okB = x := ⟨_, rfl⟩
  obtain ⟨B2, h2⟩ : ∃ x, vcmp (vl K N s) (vl L M t) = x := ⟨_, rfl⟩
  obtain ⟨B3, h3⟩ : ∃ x, nameB nm.toList = x := ⟨_, rfl⟩
  obtain ⟨B4, h4⟩ : ∃ x, fitsE cK cM nu (vl K N s) = x := ⟨_, rfl⟩
  obtain ⟨B5, h5⟩ : ∃ x, colE nm.toList cK cM nu (vl dK dN dS) = x := ⟨_, rfl⟩
  have C1 := Lib.hid (fun W hW => valid_any (K := K) (s := s) hN W hW)
  have C2 := Lib.hid (fun W => rvalid_any (K := K) (s := s) hN W)
  have C3 := Lib.hid (fun W => cmp_any (K := K) (L := L) (s := s) (t := t) hN hM W)
  have C4 := Lib.hid (fun W => rcmp_any (K := K) (L := L) (s := s) (t := t) hN hM W)
  have C5 := Lib.hid (fun W => name_below nm W)
  have C6 := Lib.hid (fun W => rname_below nm W)
  have C7 := Lib.hid (fun W hW => fits_any (nm := nm) (cK := cK) (cM := cM) (nu := nu) (dK := dK) (dN := dN) (dS := dS) (K := K) (s := s) hN W hW)
  have C8 := Lib.hid (fun W => rfits_any (nm := nm) (cK := cK) (cM := cM) (nu := nu) (dK := dK) (dN := dN) (dS := dS) (K := K) (s := s) hN W)
  have C9 := Lib.hid (fun W hW => column_any (nm := nm) (cK := cK) (cM := cM) (nu := nu) (dK := dK) (dS := dS) hD W hW)
  have C10 := Lib.hid (fun W => rcolumn_any (nm := nm) (cK := cK) (cM := cM) (nu := nu) (dK := dK) (dS := dS) hD W)
  rw [h1] at C1 C2
  rw [h2] at C3 C4
  rw [h3] at C5 C6
  rw [h4] at C7 C8
  rw [h5] at C9 C10
  clear h1 h2 h3 h4 h5
  go_enter Tryd.func3, Tryd.ntmps3
  go_wp2_with fail
  refine (awake_any _ (HTA.out _ _ _)).mono ?_
  rintro e w1 ⟨rfl, hb⟩
  obtain ⟨v1, v2, v3⟩ := HV.out
  replace v1 := v1.keep hb; replace v2 := v2.keep hb; replace v3 := v3.keep hb
  have H1 := Lib.hid ((HB.out _ _ _).trans (hb.mono (HB.out _ _ _).size))
  have HT1 := Lib.hid ((HTA.out _ _ _).keep hb)
  clear hb HV
  rw [show (w.alloc (.cells #[.int .i64 K, .int .u64 N, .string s] 24)).heap.size = w.heap.size + 1 by simp, show ((w.alloc (.cells #[.int .i64 K, .int .u64 N, .string s] 24)).alloc (.cells #[.int .i64 L, .int .u64 M, .string t] 24)).heap.size = w.heap.size + 1 + 1 by simp] at *
  have HF : Hid (AllW w w1 w.heap.size K N s L M t nm cK cM nu dK dN dS) := Lib.hid ⟨v1, v2, v3, HT1.out, H1.out⟩
  clear v1 v2 v3 HT1 H1 HTA HB hN hM hD
  go_upto_region 3 with fail
  have HFd := Lib.hid (HF.out.keep ((Below.refl _ _).drew))
  clear HF
  go_region_held3 (fun w' => w'.cell? ⟨w.heap.size, 0, none⟩ = some (.int .i64 K) ∧ w'.cell? ⟨w.heap.size, 1, none⟩ = some (.int .u64 N) ∧ w'.cell? ⟨w.heap.size, 2, none⟩ = some (.string s) ∧ w'.cell? ⟨w.heap.size + 1, 0, none⟩ = some (.int .i64 L) ∧ w'.cell? ⟨w.heap.size + 1, 1, none⟩ = some (.int .u64 M) ∧ w'.cell? ⟨w.heap.size + 1, 2, none⟩ = some (.string t) ∧ w'.cell? ⟨w.heap.size + 1 + 1, 0, none⟩ = some (.string nm) ∧ w'.cell? ⟨w.heap.size + 1 + 1, 1, none⟩ = some (.int .i64 cK) ∧ w'.cell? ⟨w.heap.size + 1 + 1, 2, none⟩ = some (.int .i64 cM) ∧ w'.cell? ⟨w.heap.size + 1 + 1, 3, none⟩ = some (.bool nu) ∧ w'.cell? ⟨w.heap.size + 1 + 1, 4, none⟩ = some (.int .i64 dK) ∧ w'.cell? ⟨w.heap.size + 1 + 1, 5, none⟩ = some (.int .u64 dN) ∧ w'.cell? ⟨w.heap.size + 1 + 1, 6, none⟩ = some (.string dS))
    (first
      | exact HA10.out.cells
      | exact HA9.out.cells
      | exact HA8.out.cells
      | exact HA7.out.cells
      | exact HA6.out.cells
      | exact HA5.out.cells
      | exact HA4.out.cells
      | exact HA3.out.cells
      | exact HA2.out.cells
      | exact HA1.out.cells
      | exact HFd.out.cells)
    (first
      | (go_at_call 9; (with_reducible refine (C1.out _ HFd.out.tabs).mono ?_); rintro e w11 ⟨rfl, ha⟩; have HA1 := Lib.hid (HFd.out.keep ha); clear ha)
      | (go_at_call 10; (with_reducible refine (C2.out _).mono ?_); rintro e w12 ⟨rfl, ha⟩; have HA2 := Lib.hid (HA1.out.keep ha); clear ha)
      | (go_at_call 11; (with_reducible refine (C3.out _).mono ?_); rintro e w13 ⟨rfl, ha⟩; have HA3 := Lib.hid (HA2.out.keep ha); clear ha)
      | (go_at_call 12; (with_reducible refine (C4.out _).mono ?_); rintro e w14 ⟨rfl, ha⟩; have HA4 := Lib.hid (HA3.out.keep ha); clear ha)
      | (go_at_call 13; (with_reducible refine (C5.out _).mono ?_); rintro e w15 ⟨rfl, ha⟩; have HA5 := Lib.hid (HA4.out.keep ha); clear ha)
      | (go_at_call 14; (with_reducible refine (C6.out _).mono ?_); rintro e w16 ⟨rfl, ha⟩; have HA6 := Lib.hid (HA5.out.keep ha); clear ha)
      | (go_at_call 15; (with_reducible refine (C7.out _ HA6.out.tabs).mono ?_); rintro e w17 ⟨rfl, ha⟩; have HA7 := Lib.hid (HA6.out.keep ha); clear ha)
      | (go_at_call 16; (with_reducible refine (C8.out _).mono ?_); rintro e w18 ⟨rfl, ha⟩; have HA8 := Lib.hid (HA7.out.keep ha); clear ha)
      | (go_at_call 17; (with_reducible refine (C9.out _ HA8.out.tabs).mono ?_); rintro e w19 ⟨rfl, ha⟩; have HA9 := Lib.hid (HA8.out.keep ha); clear ha)
      | (go_at_call 18; (with_reducible refine (C10.out _).mono ?_); rintro e w20 ⟨rfl, ha⟩; have HA10 := Lib.hid (HA9.out.keep ha); clear ha))
  go_wp2
  go_ret
  exact ⟨rfl, HA10.out.below⟩

end Go.Proofs.YtjkblmkgiiciaaaDoor
