/-
  RowAll: its walk.
-/
import Derived.Test.YtgkcflindenboaaDoorRowR10
namespace Go.Proofs.YtgkcflindenboaaDoor
open Go Go.RowKit
set_option linter.unusedVariables false
set_option linter.unusedSimpArgs false
set_option maxRecDepth 100000

theorem rdec_few {cs : List Cv} {s : List UInt8} {l : List Vl} {e : Int} (h : (l, e) = rdec cs s) : l.length ≤ 24 := by
  by_cases he : e = 0
  · subst he
    obtain ⟨hc, hl, _⟩ := rdec_all h
    have := (colsB_iff.1 hc).2.1
    omega
  · unfold rdec at h
    by_cases h1 : colsB cs = false
    · rw [if_pos h1] at h
      simp only [Prod.mk.injEq] at h
      rw [h.1]; simp
    · rw [if_neg h1] at h
      cases hr : readR cs s with
      | none => rw [hr] at h; simp only [Prod.mk.injEq] at h; rw [h.1]; simp
      | some k => rw [hr] at h; simp only [Prod.mk.injEq] at h; exact absurd h.2 he
theorem vv_inj {u v : Vv} (hu : U64 u.N) (hv : U64 v.N) (h : u.vl = v.vl) : u = v := by
  obtain ⟨k, n, s⟩ := u
  obtain ⟨k2, n2, s2⟩ := v
  simp only [Vl.mk.injEq] at h
  obtain ⟨rfl, h2, h3⟩ := h
  have e1 : n = n2 := by
    have h4 := hu.lo
    have h5 := hv.lo
    simp only at h4 h5
    omega
  have e2 : s = s2 := by
    rw [ByteArray.toList_eq, ByteArray.toList_eq] at h3
    exact ByteArray.ext (Array.toList_inj.1 h3)
  rw [e1, e2]
theorem vvs_inj : ∀ {l k : List Vv}, (∀ v ∈ l, U64 v.N) → (∀ v ∈ k, U64 v.N) → l.map Vv.vl = k.map Vv.vl → l = k
  | [], [], _, _, _ => rfl
  | u :: l, v :: k, hl, hk, h => by
    simp only [List.map_cons, List.cons.injEq] at h
    rw [vv_inj (hl u (by simp)) (hk v (by simp)) h.1, vvs_inj (fun x hx => hl x (by simp [hx])) (fun x hx => hk x (by simp [hx])) h.2]
  | [], _ :: _, _, _, h => by simp at h
  | _ :: _, [], _, _, h => by simp at h

set_option maxHeartbeats 8000000 in
theorem rall_walk (w : World) {co lo : Option Addr} {cc lc : Nat} {cs : List Cv} {xs : List Vv} {s : ByteArray} {z : Int} (hc : SlCs w co cs) (hcl : cs.length ≤ 140737488355328) (hcs : Shp co cs.length cc) (hx : SlV w lo xs) (hxl : xs.length ≤ 140737488355328) (hs : s.size ≤ 140737488351232) (hT : UTab w) :
    Calls Tryd.prog 4 #[.slice co cs.length cc, .slice lo xs.length lc, .string s, .int .i64 z] w fun e w' => e = .returned (.bool true) ∧ Below w.heap.size w w' := by
  have HC := Lib.hid hc
  have HX := Lib.hid hx
  have HT := Lib.hid hT
  have HS := Lib.hid hs
  obtain ⟨n, hn⟩ : ∃ n, n = cs.length := ⟨_, rfl⟩
  obtain ⟨m, hm⟩ : ∃ m, m = xs.length := ⟨_, rfl⟩
  rw [← hn, ← hm]
  rw [← hn] at hcs
  have HCS := Lib.hid hcs
  have HN := Lib.hid hn
  have HM := Lib.hid hm
  clear hc hcl hx hxl hT hn hm hcs hs
  go_enter Tryd.func4, Tryd.ntmps4
  go_wp2_with fail
  refine (rawake_any w HT.out).mono ?_
  rintro e w1 ⟨rfl, h1⟩
  have H1 := Lib.hid h1
  clear h1
  go_wp2_with fail
  refine (rencode_any co lo n cc m lc cs xs w1 (HT.out.keep (only_bw H1.out)) (HC.out.keep H1.out) (HX.out.keep H1.out) HN.out HM.out).mono ?_
  rintro e w2 ⟨s1, er1, rfl, he1, h2⟩
  have HE1 := Lib.hid he1
  have H2 := Lib.hid (H1.out.trans h2 (fun _ _ h => h))
  clear he1 h2 H1
  go_wp2_with fail
  refine (rrencode co lo n cc m lc cs xs w2 (HC.out.keep H2.out) (HX.out.keep H2.out) HN.out HM.out).mono ?_
  rintro e w3 ⟨s2, er2, rfl, he2, h3⟩
  rw [← HE1.out] at he2
  simp only [Prod.mk.injEq] at he2
  obtain ⟨rfl, rfl⟩ := he2
  obtain ⟨S, hS⟩ : ∃ S : ByteArray, (⟨s2.toArray⟩ : ByteArray) = S := ⟨_, rfl⟩
  rw [hS]
  have H3 := Lib.hid (H2.out.trans h3 (fun _ _ h => h))
  clear h3 H2 hS HE1
  go_wp2_with fail
  refine (rdecode_any co n cc cs s w3 (HT.out.keep (only_bw H3.out)) (HC.out.keep H3.out) HN.out HCS.out).mono ?_
  rintro e w4 ⟨lv1, us1, er3, rfl, hd1, hu1, ho4⟩
  obtain ⟨ao, ac, rfl, hsl1⟩ := rowV_slV ho4 hu1
  have HD1 := Lib.hid hd1
  have HU1 := Lib.hid hu1
  have HL1 := Lib.hid hsl1
  have H4 := Lib.hid (H3.out.trans ho4.only (fun _ _ h => h))
  clear hd1 hu1 hsl1 ho4 H3
  go_wp2_with fail
  refine (rdecode8 co n cc cs s w4 (HC.out.keep H4.out) HN.out HS.out).mono ?_
  rintro e w5 ⟨lv2, us2, er4, rfl, hd2, hu2, ho5⟩
  obtain ⟨bo, bc, rfl, hsl2⟩ := rowV_slV ho5 hu2
  rw [← HD1.out] at hd2
  simp only [Prod.mk.injEq] at hd2
  obtain ⟨hd3, rfl⟩ := hd2
  obtain rfl := vvs_inj hu2 HU1.out hd3
  have HL2 := Lib.hid hsl2
  have HL3 := Lib.hid (HL1.out.keep ho5.only)
  have H5 := Lib.hid (H4.out.trans ho5.only (fun _ _ h => h))
  have HLEN : Hid (us2.length ≤ 24) := Lib.hid (by have := rdec_few HD1.out; rwa [List.length_map] at this)
  obtain ⟨q, hq⟩ : ∃ q, q = us2.length := ⟨_, rfl⟩
  rw [← hq]
  have HQ := Lib.hid hq
  clear hd3 hsl2 ho5 H4 HL1 hu2 hq HU1 HD1
  go_wp2_with fail
  refine (rplace_any co n cc cs s z w5 (HT.out.keep (only_bw H5.out)) (HC.out.keep H5.out) HN.out HCS.out).mono ?_
  rintro e w6 ⟨a6, er6, rfl, hp6, h6⟩
  have HP6 := Lib.hid hp6
  have HL2 := Lib.hid (HL2.out.keep h6)
  have HL3 := Lib.hid (HL3.out.keep h6)
  have H6 := Lib.hid (H5.out.trans h6 (fun _ _ h => h))
  clear hp6 h6 H5
  go_wp2_with fail
  refine (rplace8 co n cc cs s z w6 (HC.out.keep H6.out) HN.out HS.out).mono ?_
  rintro e w7 ⟨a7, er7, rfl, hp7, h7⟩
  rw [← HP6.out] at hp7
  simp only [Prod.mk.injEq] at hp7
  obtain ⟨rfl, rfl⟩ := hp7
  have HL2 := Lib.hid (HL2.out.keep h7)
  have HL3 := Lib.hid (HL3.out.keep h7)
  have H7 := Lib.hid (H6.out.trans h7 (fun _ _ h => h))
  clear h7 H6 HP6
  obtain ⟨fe, hfe⟩ : ∃ fe, rfits cs (xs.map Vv.vl) = fe := ⟨_, rfl⟩
  have HF1 := Lib.hid (wfits_any co lo n cc m lc cs xs w7 (HT.out.keep (only_bw H7.out)) (HC.out.keep H7.out) (HX.out.keep H7.out) HN.out HM.out)
  rw [hfe] at HF1
  have q1 : (fe == fe) = true := by simp
  have q2 : (er2 == er2) = true := by simp
  have q3 : (er4 == er4) = true := by simp
  have q4 : (a7 == a7) = true := by simp
  have q5 : (er7 == er7) = true := by simp
  have q6 : (S.toList == S.toList) = true := by simp
  have HFE := Lib.hid hfe
  clear hfe
  go_wp2_with fail
  refine HF1.out.mono ?_
  rintro e w8 ⟨rfl, h8⟩
  have HF2 := Lib.hid (rfits8 co lo n cc m lc cs xs w8 (HC.out.keep (H7.out.trans h8 (fun _ _ h => h))) (HX.out.keep (H7.out.trans h8 (fun _ _ h => h))) HN.out HM.out)
  rw [HFE.out] at HF2
  have H8 := Lib.hid (H7.out.trans h8 (fun _ _ h => h))
  have HL2 := Lib.hid (HL2.out.keep h8)
  have HL3 := Lib.hid (HL3.out.keep h8)
  clear h8 HF1 H7
  go_wp2_with fail
  refine HF2.out.mono ?_
  rintro e w9 ⟨rfl, h9⟩
  have H9 := Lib.hid (H8.out.trans h9 (fun _ _ h => h))
  have HV := Lib.hid (values_any ao bo q ac q bc us2 us2 w9 (HL3.out.keep h9) (HL2.out.keep h9) HQ.out HQ.out (by have := HLEN.out; have := HQ.out; omega) (by have := HLEN.out; have := HQ.out; omega))
  clear h9 HF2 H8
  go_wp2_with fail
  refine HV.out.mono ?_
  rintro e w10 ⟨rr, rfl, hr, h10⟩
  obtain rfl : rr = true := hr.2 rfl
  have H10 := Lib.hid (H9.out.trans h10 (fun _ _ h => h))
  clear hr h10 HV
  go_wp2_with fail
  go_ret
  exact ⟨rfl, only_bw H10.out⟩

end Go.Proofs.YtgkcflindenboaaDoor
