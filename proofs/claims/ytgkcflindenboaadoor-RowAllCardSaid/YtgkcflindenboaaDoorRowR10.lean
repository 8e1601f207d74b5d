/-
  The document's own rows: Place.
-/
import Derived.Test.YtgkcflindenboaaDoorRowR9
namespace Go.Proofs.YtgkcflindenboaaDoor
open Go Go.RowKit
set_option linter.unusedVariables false
set_option linter.unusedSimpArgs false
set_option maxRecDepth 100000

theorem irow_at {w0 w : World} {ao : Option Addr} {m ac : Nat} {ats : List Nat} (h : Own w0 w (RowV 3 1 (.slice ao m ac) ats.length (icells ats))) {j : Nat} (hj : j < ats.length) : ∃ g, ao = some ⟨g, 0, none⟩ ∧ w.cell? ⟨g, j, none⟩ = some (.int .i64 (ats.getD j 0 : Nat)) := by
  have ho := h.emp'.owns
  rcases ho.2 with ⟨e, h0⟩ | ⟨g, cap, cur, e, _⟩
  · omega
  · simp only [Value.slice.injEq] at e
    obtain ⟨rfl, rfl, rfl⟩ := e
    refine ⟨g, rfl, ?_⟩
    rw [ho.cellAt j (by omega)]
    simp [icells, List.getD_eq_getElem?_getD, hj]
theorem fitsL_at8 : ∀ {cs : List Cv} {l : List Vl} {j : Nat}, fitsL cs l = 0 → j < cs.length → j < l.length → (cs.getD j default).fit (l.getD j ⟨0, 0, []⟩) = 0
  | c :: cs, v :: l, 0, h, _, _ => by
    rw [fitsL] at h
    by_cases h1 : c.fit v = 0
    · exact h1
    · rw [if_neg h1] at h; exact absurd h h1
  | c :: cs, v :: l, j + 1, h, h1, h2 => by
    rw [fitsL] at h
    by_cases h3 : c.fit v = 0
    · rw [if_pos h3] at h
      have := fitsL_at8 h (by simpa using h1) (j := j) (by simpa using h2)
      simpa using this
    · rw [if_neg h3] at h; exact absurd h h3
  | [], _, _, _, h, _ => by simp at h
  | _ :: _, [], _, _, _, h => by simp at h
/-- What Place has to do with what take has read: a row of which Decode has told, a column of the list. -/
structure PlcS (cs : List Cv) (s : List UInt8) (k q : Nat) (vs : List Vv) (ats : List Nat) : Prop where
  lv : vs.length = q
  la : ats.length = q
  no : (2 < (cs.getD k default).K ∨ q ≤ k ∨ (vs.getD k default).K = 0) → rplace cs s (k : Int) = (0, 8)
  yes : ¬ 2 < (cs.getD k default).K → k < q → (vs.getD k default).K ≠ 0 → rplace cs s (k : Int) = (((ats.getD k 0 + 1 : Nat) : Int), 0)
  le : ∀ j, j < q → ats.getD j 0 ≤ 513
theorem place_of {cs : List Cv} {s : List UInt8} {l : List Vl} {b : UInt8} {r : List UInt8} {vs : List Vv} {ats : List Nat} {k : Nat} (h : (l, (0 : Int)) = rdec cs s) (hk : k < cs.length) (h0 : s = b :: r) (h1 : 1 ≤ b.toNat) (h2 : b.toNat ≤ cs.length) (h3 : TakeS (cs.take b.toNat) r vs ats b.toNat []) : PlcS cs s k b.toNat vs ats := by
  obtain ⟨hc, hl, hf, row, hr, hs, hr1, hr2, he⟩ := rdec_all h
  obtain ⟨c1, c2, c3⟩ := colsB_iff.1 hc
  have hlen : ¬ 512 < (b :: r).length := by
    intro e
    rw [h0, readR_long e] at hr
    cases hr
  have hrow : row = vs.map Vv.vl := by
    rw [h0, take_readY h1 h2 hlen h3] at hr
    simpa using hr.symm
  have hlv : vs.length = b.toNat := h3.rd.len
  have hla : ats.length = b.toNat := h3.len
  obtain ⟨p1, p2⟩ := h3.pos (by simp at hlen; omega) (fun c hm => c3 c (List.mem_of_mem_take hm))
  have hs0 : (s.getD 0 0).toNat = b.toNat := by rw [h0]; rfl
  have hrl : row.length = b.toNat := by rw [hrow, List.length_map, hlv]
  have hrd : (rdec cs s).2 = 0 := by rw [← h]
  have hrd1 : (rdec cs s).1 = l := by rw [← h]
  have hfk := fitsL_at8 hf hk (by rw [hl]; exact hk)
  have hck := col_zero (c3 (cs.getD k default) (by simp [hk]))
  obtain ⟨_, _, f3, _⟩ := fit_zero hfk
  have hget : k < b.toNat → l.getD k ⟨0, 0, []⟩ = (vs.getD k default).vl := by
    intro e
    have e2 : k < vs.length := by rw [hlv]; exact e
    rw [he, List.getD_eq_getElem?_getD, List.getElem?_append_left (by rw [hrl]; exact e), hrow]
    simp [List.getD_eq_getElem?_getD, e2]
  have hun : rplace cs s (k : Int) = (if ¬ ((l.getD k ⟨0, 0, []⟩).K = 1 ∨ (l.getD k ⟨0, 0, []⟩).K = 2) ∨ (b.toNat : Int) ≤ (k : Int) then ((0 : Int), (8 : Int)) else ((((rowS (l.take k)).length + 1 : Nat) : Int), (0 : Int))) := by
    unfold rplace
    rw [if_neg (by rw [hrd]; simp), if_neg (by omega), hs0, hrd1]
    simp only [Int.toNat_natCast]
  refine ⟨hlv, hla, fun e => ?_, fun e1 e2 e3 => ?_, fun j hj => ?_⟩
  · rw [hun, if_pos]
    by_cases hq : b.toNat ≤ k
    · exact .inr (by omega)
    left
    have e2 : k < b.toNat := by omega
    rw [hget e2] at f3 ⊢
    have f4 : (vs.getD k default).K = 0 ∨ (vs.getD k default).K = (cs.getD k default).K := f3
    show ¬ ((vs.getD k default).K = 1 ∨ (vs.getD k default).K = 2)
    rcases e with e | e | e
    · omega
    · omega
    · omega
  · rw [hget e2] at f3 hun
    have f4 : (vs.getD k default).K = (cs.getD k default).K := (f3 : (vs.getD k default).K = 0 ∨ _).resolve_left e3
    have f5 : (vs.getD k default).vl.K = (cs.getD k default).K := f4
    rw [hun, if_neg (by rw [f5]; have := hck.1; omega)]
    have hp := p2 k e2
    have ht : l.take k = (vs.map Vv.vl).take k := by
      rw [he, hrow, List.take_append_of_le_length (by rw [List.length_map, hlv]; omega)]
    rw [ht, hp]
    simp [rowS]
    omega
  · have hp := p2 j hj
    have hle : (rowL ((vs.map Vv.vl).take j)).length ≤ (rowL (vs.map Vv.vl)).length := by
      have e : rowL (vs.map Vv.vl) = rowL ((vs.map Vv.vl).take j) ++ rowL ((vs.map Vv.vl).drop j) := by rw [← rowL_append, List.take_append_drop]
      rw [e, List.length_append]
      omega
    have e := congrArg List.length p1
    rw [List.length_append] at e
    simp at hlen e
    omega

set_option maxHeartbeats 8000000 in
theorem rplace8 (co : Option Addr) (n cc : Nat) (cs : List Cv) (s : ByteArray) (z : Int) (w : World) (hc : SlCs w co cs) (hn : n = cs.length) (hs : s.size ≤ 140737488351232) :
    Calls Tryd.prog 17 #[.slice co n cc, .string s, .int .i64 z] w fun e w' => RPlacePost cs s.toList z w e w' := by
  have HC := Lib.hid hc
  have HN := Lib.hid hn
  have HDE := Lib.hid (rdecode8 co n cc cs s w hc hn hs)
  have HS47 := Lib.hid hs
  clear hc hn hs
  go_enter Tryd.func17, Tryd.ntmps17
  go_wp2_with fail
  refine HDE.out.mono ?_
  rintro e w1 ⟨lv, us, er, rfl, hd, hu, hown⟩
  have HD := Lib.hid hd
  have H1 := Lib.hid hown.only
  clear hd hu hown HDE
  by_cases h0 : er = 0
  case neg =>
    have hne : (er != 0) = true := by simpa using h0
    have HE : Hid ((0, er) = rplace cs s.toList z) := Lib.hid (by unfold rplace; rw [← HD.out, if_pos h0])
    clear h0
    go_wp2_with fail
    go_ret2
    exact ⟨0, er, rfl, HE.out, H1.out⟩
  subst h0
  have HAL := Lib.hid (rdec_all HD.out)
  have HCB := Lib.hid (colsB_iff.1 HAL.out.1)
  have hn24 : (n : Int) ≤ 24 := by have := HCB.out.2.1; have := HN.out; omega
  by_cases hz : z < 0
  · have HE : Hid ((0, 1) = rplace cs s.toList z) := Lib.hid (by unfold rplace; rw [← HD.out, if_neg (by simp), if_pos (.inl hz)])
    go_wp2_with fail
    go_ret2
    exact ⟨0, 1, rfl, HE.out, H1.out⟩
  by_cases hzn : (n : Int) ≤ z
  · have HE : Hid ((0, 1) = rplace cs s.toList z) := Lib.hid (by unfold rplace; rw [← HD.out, if_neg (by simp), if_pos (.inr (by rw [← HN.out]; exact hzn))])
    go_wp2_with fail
    go_ret2
    exact ⟨0, 1, rfl, HE.out, H1.out⟩
  obtain ⟨k, rfl⟩ : ∃ k : Nat, z = (k : Int) := ⟨z.toNat, by omega⟩
  have hkn : k < n := by omega
  have hltI : (k : Int) < (n : Int) := by omega
  have hkI0 : ¬ (k : Int) < 0 := by omega
  have hk0 : (0 : Int) ≤ (k : Int) := by omega
  have hknI : ¬ (n : Int) ≤ (k : Int) := by omega
  have HKL : Hid (k < cs.length) := Lib.hid (by rw [← HN.out]; exact hkn)
  have HTK := Lib.hid (rtake8 co n cc cs s w1 (HC.out.keep H1.out) HN.out HCB.out.2.2 HCB.out.2.1 HS47.out)
  clear hz hzn
  go_wp2_with fail
  refine HTK.out.mono ?_
  rintro e w2 ⟨lv2, av, vs, ats, ok, rfl, hy, hno, h2⟩
  obtain rfl : ok = true := by
    cases ok with
    | true => rfl
    | false =>
      exfalso
      obtain ⟨k2, e1, _⟩ := HAL.out.2.2.2
      rw [take_readN (hno rfl)] at e1
      cases e1
  obtain ⟨b, r, e0, e1, e2, e3⟩ := hy rfl
  have HPL := Lib.hid (place_of HD.out HKL.out e0 e1 e2 e3)
  have HU := Lib.hid e3.rd.u64
  have hq24 : b.toNat ≤ 24 := by have := HCB.out.2.1; omega
  obtain ⟨q, hq⟩ : ∃ q, b.toNat = q := ⟨_, rfl⟩
  rw [hq] at HPL hq24
  obtain ⟨lo, lc, hlv, hsl⟩ := rowV_slV h2.fst HU.out
  subst hlv
  obtain ⟨ao, ac, rfl⟩ := own_shapeN h2.snd.emp'.owns
  have HSL := Lib.hid hsl
  have HIR := Lib.hid h2.snd
  have H2 := Lib.hid (H1.out.trans h2.only (fun _ _ h => h))
  rw [HPL.out.lv]
  rw [HPL.out.la] at HIR ⊢
  clear hy hno h2 e0 e1 e2 e3 hq hsl HTK
  obtain ⟨g, off, rfl, hca⟩ := (HC.out.keep H2.out) k HKL.out
  obtain ⟨c, hce⟩ : ∃ c, cs.getD k default = c := ⟨_, rfl⟩
  have HNO := Lib.hid HPL.out.no
  have HYE := Lib.hid HPL.out.yes
  rw [hce] at hca HNO HYE
  have y1 := hca.c1
  clear hca hce
  by_cases hK : 2 < c.K
  · have HE := Lib.hid (HNO.out (.inl hK))
    go_wp2_with fail
    go_ret2
    exact ⟨0, 8, rfl, HE.out.symm, H2.out⟩
  have hK2 : ¬ (2 : Int) < c.K := hK
  by_cases hkq : q ≤ k
  · have hkqI : (q : Int) ≤ (k : Int) := by omega
    have HE := Lib.hid (HNO.out (.inr (.inl hkq)))
    go_wp2_with fail
    go_ret2
    exact ⟨0, 8, rfl, HE.out.symm, H2.out⟩
  have hkqI : ¬ (q : Int) ≤ (k : Int) := by omega
  have hkqJ : (k : Int) < (q : Int) := by omega
  obtain ⟨gv, ov, rfl, hva⟩ := HSL.out k (by rw [HPL.out.lv]; omega)
  obtain ⟨v, hve⟩ : ∃ v, vs.getD k default = v := ⟨_, rfl⟩
  rw [hve] at hva HNO HYE
  have x0 := hva.k
  clear hva hve
  by_cases hv0 : v.K = 0
  · have HE := Lib.hid (HNO.out (.inr (.inr hv0)))
    have hb0 : (v.K == 0) = true := by simpa using hv0
    clear hv0
    go_wp2_with fail
    go_ret2
    exact ⟨0, 8, rfl, HE.out.symm, H2.out⟩
  have hb0 : (v.K == 0) = false := by simpa using hv0
  have HE := Lib.hid (HYE.out hK (by omega) hv0)
  have HLE := Lib.hid (HPL.out.le k (by omega))
  obtain ⟨gi, rfl, i0⟩ := irow_at (ats := ats) (by rw [HPL.out.la]; exact HIR.out) (j := k) (by rw [HPL.out.la]; omega)
  obtain ⟨p, hp⟩ : ∃ p, ats.getD k 0 = p := ⟨_, rfl⟩
  rw [hp] at i0 HE HLE
  have hp5 : (p : Int) ≤ 513 := by have := HLE.out; omega
  clear hp hK hkq HNO HYE
  go_wp2_with fail
  go_ret2
  refine ⟨_, 0, rfl, ?_, H2.out⟩
  rw [HE.out]
  first | rfl | (congr 1; omega)

end Go.Proofs.YtgkcflindenboaaDoor
