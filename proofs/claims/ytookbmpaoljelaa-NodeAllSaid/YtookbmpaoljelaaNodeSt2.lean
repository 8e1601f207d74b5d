/-
  Nodes: their bytes there and back (pure).
-/
import Derived.Test.YtookbmpaoljelaaNodeSt
namespace Go.Proofs.Ytookbmpaoljelaa
open Go Go.RowKit
set_option linter.unusedVariables false
set_option linter.unusedSimpArgs false
set_option maxRecDepth 100000

theorem bas (s : ByteArray) : s.toList.length = s.size := by rw [ByteArray.toList_eq]; rfl
theorem pnum_enc (n x : Nat) (ys : List UInt8) (hx : x < 256 ^ n) : pNum n (beB n x ++ ys) = some (x, ys) := by
  have hl : (beB n x).length = n := beB_length n x
  have hc : can n (beB n x ++ ys) false = true := by simp [can, hl]
  unfold pNum
  rw [if_pos hc]
  have h1 : nextR n (beB n x ++ ys) false = beB n x := by
    unfold nextR
    rw [if_pos hc, List.take_append_of_le_length (by omega), List.take_of_length_le (by omega)]
  have h2 : nextL n (beB n x ++ ys) false = ys := by
    unfold nextL
    rw [if_pos hc, List.drop_append_of_le_length (by omega), List.drop_of_length_le (by omega), List.nil_append]
  rw [h1, h2, numB_be' x n hx]
theorem pnum_inv {n x : Nat} {xs ys : List UInt8} (h : pNum n xs = some (x, ys)) : xs = beB n x ++ ys ∧ x < 256 ^ n := by
  unfold pNum at h
  by_cases hc : can n xs false = true
  · rw [if_pos hc] at h
    simp only [Option.some.injEq, Prod.mk.injEq] at h
    obtain ⟨rfl, rfl⟩ := h
    have hl : n ≤ xs.length := by simpa [can] using hc
    unfold nextR nextL
    rw [if_pos hc, if_pos hc, beB_numB n _ (by rw [List.length_take]; omega), List.take_append_drop]
    exact ⟨rfl, numB_lt n _ (by rw [List.length_take]; omega)⟩
  · rw [if_neg hc] at h
    cases h
theorem pflag_enc (f : Bool) (ys : List UInt8) : pFlag (flagB f ++ ys) = some (f, ys) := by
  cases f <;> simp [pFlag, flagB, flagOk, flagR, flagL, can]
theorem pflag_inv {f : Bool} {xs ys : List UInt8} (h : pFlag xs = some (f, ys)) : xs = flagB f ++ ys := by
  unfold pFlag at h
  by_cases hc : flagOk xs false = true
  · rw [if_pos hc] at h
    simp only [Option.some.injEq, Prod.mk.injEq] at h
    obtain ⟨rfl, rfl⟩ := h
    cases xs with
    | nil => simp [flagOk, can] at hc
    | cons c r =>
      have hb : c.toNat ≤ 1 := by simpa [flagOk, can] using hc
      have : c.toNat = 0 ∨ c.toNat = 1 := by omega
      rcases this with e | e
      · obtain rfl : c = 0 := UInt8.toNat_inj.1 e
        simp [flagR, flagL, flagOk, can, flagB]
      · obtain rfl : c = 1 := UInt8.toNat_inj.1 e
        simp [flagR, flagL, flagOk, can, flagB]
  · rw [if_neg hc] at h
    cases h
theorem ba_list (s : ByteArray) : (⟨s.toList.toArray⟩ : ByteArray) = s := ba_ext (ByteArray.toList_mk s.toList)
theorem ptext_enc (s : ByteArray) (ys : List UInt8) (hs : s.size ≤ 65535) : pText (txtB s.toList ++ ys) = some (s, ys) := by
  have hz := bas s
  have hb : (beB 2 s.toList.length).length = 2 := beB_length 2 _
  have ha : txtB s.toList ++ ys = beB 2 s.toList.length ++ (s.toList ++ ys) := by simp [txtB]
  have h1 : (txtB s.toList ++ ys).take 2 = beB 2 s.toList.length := by
    rw [ha, List.take_append_of_le_length (by omega)]
    exact List.take_of_length_le (by omega)
  have h2 : (txtB s.toList ++ ys).drop 2 = s.toList ++ ys := by
    rw [ha, List.drop_append_of_le_length (by omega), List.drop_of_length_le (by omega), List.nil_append]
  have hn : txtN (txtB s.toList ++ ys) = s.toList.length := by unfold txtN; rw [h1, numB_be]; omega
  have hok : txtOk (txtB s.toList ++ ys) false = true := by
    unfold txtOk
    rw [hn, h2]
    simp [can, txtB, hb]
  unfold pText
  rw [if_pos hok]
  have h3 : txtR (txtB s.toList ++ ys) false = s.toList := by unfold txtR; rw [hok, if_pos rfl, h2, hn]; simp
  have h4 : txtL (txtB s.toList ++ ys) false = ys := by unfold txtL; rw [hok, if_pos rfl, h2, hn]; simp
  rw [h3, h4, ba_list]
theorem ptext_inv {s : ByteArray} {xs ys : List UInt8} (h : pText xs = some (s, ys)) : xs = txtB s.toList ++ ys ∧ s.size ≤ 65535 := by
  unfold pText at h
  by_cases hc : txtOk xs false = true
  · rw [if_pos hc] at h
    simp only [Option.some.injEq, Prod.mk.injEq] at h
    obtain ⟨rfl, rfl⟩ := h
    have hc2 := hc
    unfold txtOk at hc2
    rw [Bool.and_eq_true] at hc2
    have h1 : 2 ≤ xs.length := by simpa [can] using hc2.1
    have h2 : txtN xs ≤ (xs.drop 2).length := by simpa [can] using hc2.2
    have hn : txtN xs < 65536 := numB_lt 2 _ (by rw [List.length_take]; omega)
    unfold txtR txtL
    rw [if_pos hc, if_pos hc]
    have hl : ((xs.drop 2).take (txtN xs)).length = txtN xs := by rw [List.length_take]; omega
    have e1 : (⟨((xs.drop 2).take (txtN xs)).toArray⟩ : ByteArray).toList = (xs.drop 2).take (txtN xs) := ByteArray.toList_mk _
    refine ⟨?_, ?_⟩
    · unfold txtB
      rw [e1, hl, List.append_assoc, List.take_append_drop]
      have e2 : beB 2 (txtN xs) = xs.take 2 := beB_numB 2 _ (by rw [List.length_take]; omega)
      rw [e2, List.take_append_drop]
    · rw [← bas, e1, hl]; omega
  · rw [if_neg hc] at h
    cases h

/-- A reader of what is written so. -/
structure Fit {α : Type} (p : Prs α) (enc : α → List UInt8) (ok : α → Prop) : Prop where
  f : ∀ a ys, ok a → p (enc a ++ ys) = some (a, ys)
  b : ∀ xs a ys, p xs = some (a, ys) → xs = enc a ++ ys ∧ ok a
structure EnW (e : En) : Prop where
  k : e.k.size ≤ 65535
  v : e.v.size ≤ 65535
  n : e.nv.size ≤ 65535
  x : NumW e.x
structure MsT (m : Ms) : Prop where
  k : m.k.size ≤ 65535
  v : m.v.size ≤ 65535
  w : MsW m
  K0 : 0 ≤ m.K
  K1 : m.K < 256
  o0 : 0 ≤ m.off
  o1 : m.off < 65536
theorem numW_nat {x : Int} (h : NumW x) : ((x.toNat : Nat) : Int) = x ∧ x.toNat < 256 ^ 8 := by
  obtain ⟨h1, h2⟩ := h
  exact ⟨by omega, by omega⟩
theorem nat_numW {x : Nat} (h : x < 256 ^ 8) : NumW (x : Int) := ⟨by omega, by omega⟩
theorem fit_kid : Fit pKid encK NumW := by
  refine ⟨fun a ys h => ?_, fun xs a ys h => ?_⟩
  · obtain ⟨e1, e2⟩ := numW_nat h
    unfold pKid encK
    rw [pBind_some (pnum_enc 8 _ ys e2)]
    show some _ = _
    rw [e1]
  · unfold pKid at h
    obtain ⟨x, zs, h1, h2⟩ := pBind_inv h
    obtain ⟨rfl, rfl⟩ := pRet_inv h2
    obtain ⟨e1, e2⟩ := pnum_inv h1
    exact ⟨by rw [e1]; unfold encK; rw [Int.toNat_natCast], nat_numW e2⟩
theorem fit_text : Fit pText encP (fun s => s.size ≤ 65535) := ⟨fun a ys h => ptext_enc a ys h, fun xs a ys h => ptext_inv h⟩
theorem fit_entry : Fit pEntry encE EnW := by
  refine ⟨fun a ys h => ?_, fun xs a ys h => ?_⟩
  · obtain ⟨k, hh, v, x, n, nv⟩ := a
    obtain ⟨e1, e2⟩ := numW_nat h.x
    unfold pEntry encE
    simp only [List.append_assoc]
    rw [pBind_some (ptext_enc k _ h.k), pBind_some (pflag_enc hh _), pBind_some (ptext_enc v _ h.v), pBind_some (pnum_enc 8 _ _ e2), pBind_some (pflag_enc n _), pBind_some (ptext_enc nv _ h.n)]
    show some _ = _
    rw [e1]
  · unfold pEntry at h
    obtain ⟨k, z1, h1, h⟩ := pBind_inv h
    obtain ⟨hh, z2, h2, h⟩ := pBind_inv h
    obtain ⟨v, z3, h3, h⟩ := pBind_inv h
    obtain ⟨x, z4, h4, h⟩ := pBind_inv h
    obtain ⟨n, z5, h5, h⟩ := pBind_inv h
    obtain ⟨nv, z6, h6, h⟩ := pBind_inv h
    obtain ⟨rfl, rfl⟩ := pRet_inv h
    obtain ⟨f1, g1⟩ := ptext_inv h1
    have f2 := pflag_inv h2
    obtain ⟨f3, g3⟩ := ptext_inv h3
    obtain ⟨f4, g4⟩ := pnum_inv h4
    have f5 := pflag_inv h5
    obtain ⟨f6, g6⟩ := ptext_inv h6
    refine ⟨?_, ⟨g1, g3, g6, nat_numW g4⟩⟩
    rw [f1, f2, f3, f4, f5, f6]
    simp [encE]
theorem fit_msg : Fit pMsg encM MsT := by
  refine ⟨fun a ys h => ?_, fun xs a ys h => ?_⟩
  · obtain ⟨sq, K, k, x, v, off, num⟩ := a
    obtain ⟨e1, e2⟩ := numW_nat ⟨h.w.s0, h.w.s1⟩
    obtain ⟨e3, e4⟩ := numW_nat ⟨h.w.x0, h.w.x1⟩
    obtain ⟨e5, e6⟩ := numW_nat ⟨h.w.n0, h.w.n1⟩
    have hK0 := h.K0
    have hK1 := h.K1
    have ho0 := h.o0
    have ho1 := h.o1
    simp only at e1 e2 e3 e4 e5 e6 hK0 hK1 ho0 ho1
    unfold pMsg encM
    simp only [List.append_assoc]
    rw [pBind_some (pnum_enc 8 _ _ e2), pBind_some (pnum_enc 1 _ _ (by omega)), pBind_some (ptext_enc k _ h.k), pBind_some (pnum_enc 8 _ _ e4), pBind_some (ptext_enc v _ h.v), pBind_some (pnum_enc 2 _ _ (by omega)), pBind_some (pnum_enc 8 _ _ e6)]
    show some _ = _
    rw [e1, e3, e5, show ((K.toNat : Nat) : Int) = K by omega, show ((off.toNat : Nat) : Int) = off by omega]
  · unfold pMsg at h
    obtain ⟨sq, z1, h1, h⟩ := pBind_inv h
    obtain ⟨K, z2, h2, h⟩ := pBind_inv h
    obtain ⟨k, z3, h3, h⟩ := pBind_inv h
    obtain ⟨x, z4, h4, h⟩ := pBind_inv h
    obtain ⟨v, z5, h5, h⟩ := pBind_inv h
    obtain ⟨off, z6, h6, h⟩ := pBind_inv h
    obtain ⟨num, z7, h7, h⟩ := pBind_inv h
    obtain ⟨rfl, rfl⟩ := pRet_inv h
    obtain ⟨f1, g1⟩ := pnum_inv h1
    obtain ⟨f2, g2⟩ := pnum_inv h2
    obtain ⟨f3, g3⟩ := ptext_inv h3
    obtain ⟨f4, g4⟩ := pnum_inv h4
    obtain ⟨f5, g5⟩ := ptext_inv h5
    obtain ⟨f6, g6⟩ := pnum_inv h6
    obtain ⟨f7, g7⟩ := pnum_inv h7
    refine ⟨?_, ⟨g3, g5, ⟨(nat_numW g1).1, (nat_numW g1).2, (nat_numW g4).1, (nat_numW g4).2, (nat_numW g7).1, (nat_numW g7).2⟩, by show (0 : Int) ≤ (K : Int); omega, by show (K : Int) < 256; omega, by show (0 : Int) ≤ (off : Int); omega, by show (off : Int) < 65536; omega⟩⟩
    rw [f1, f2, f3, f4, f5, f6, f7]
    simp [encM]
theorem fit_many {α : Type} {p : Prs α} {enc : α → List UInt8} {ok : α → Prop} (h : Fit p enc ok) : ∀ n, Fit (pMany p n) (fun l => l.flatMap enc) (fun l => l.length = n ∧ ∀ a ∈ l, ok a)
  | 0 => ⟨fun a ys hk => by
      have : a = [] := List.eq_nil_of_length_eq_zero hk.1
      subst this
      rfl, fun xs a ys hk => by
      obtain ⟨rfl, rfl⟩ := pRet_inv hk
      exact ⟨rfl, rfl, fun a ha => by cases ha⟩⟩
  | n + 1 => by
    have ih := fit_many h n
    refine ⟨fun a ys hk => ?_, fun xs a ys hk => ?_⟩
    · match a, hk with
      | b :: l, ⟨h1, h2⟩ =>
        rw [pMany, List.flatMap_cons, List.append_assoc, pBind_some (h.f b _ (h2 b (by simp)))]
        rw [pBind_some (ih.f l ys ⟨by simpa using h1, fun x hx => h2 x (by simp [hx])⟩)]
        rfl
    · rw [pMany] at hk
      obtain ⟨b, z1, h1, hk⟩ := pBind_inv hk
      obtain ⟨l, z2, h2, hk⟩ := pBind_inv hk
      obtain ⟨rfl, rfl⟩ := pRet_inv hk
      obtain ⟨f1, g1⟩ := h.b _ _ _ h1
      obtain ⟨f2, g2, g3⟩ := ih.b _ _ _ h2
      refine ⟨?_, by simp [g2], fun x hx => ?_⟩
      · rw [f1, f2]; simp
      · rcases List.mem_cons.1 hx with rfl | hx
        · exact g1
        · exact g3 x hx
theorem fit_buf : Fit pBuf encL (fun l => l.length < 65536 ∧ ∀ m ∈ l, MsT m) := by
  refine ⟨fun a ys h => ?_, fun xs a ys h => ?_⟩
  · unfold pBuf encL
    rw [List.append_assoc, pBind_some (pnum_enc 2 _ _ (by have := h.1; omega))]
    exact (fit_many fit_msg a.length).f a ys ⟨rfl, h.2⟩
  · unfold pBuf at h
    obtain ⟨c, z1, h1, h2⟩ := pBind_inv h
    obtain ⟨f1, g1⟩ := pnum_inv h1
    obtain ⟨f2, g2, g3⟩ := (fit_many fit_msg c).b _ _ _ h2
    refine ⟨?_, by rw [g2]; omega, g3⟩
    rw [f1, f2, encL, g2]
    simp

/-- A node that can be written and read. -/
structure NdT (n : Nd) : Prop where
  l : n.leaf = true → n.ps = [] ∧ n.ks = [] ∧ n.bs = [] ∧ n.es.length < 65536 ∧ ∀ e ∈ n.es, EnW e
  i : n.leaf = false → n.es = [] ∧ n.ks.length < 65536 ∧ n.ps.length = n.ks.length - 1 ∧ n.bs.length = n.ks.length ∧ (∀ k ∈ n.ks, NumW k) ∧ (∀ p ∈ n.ps, p.size ≤ 65535) ∧ ∀ l ∈ n.bs, l.length < 65536 ∧ ∀ m ∈ l, MsT m
theorem fit_node : Fit pNode encN NdT := by
  refine ⟨fun a ys h => ?_, fun xs a ys h => ?_⟩
  · obtain ⟨leaf, es, ps, ks, bs⟩ := a
    cases leaf with
    | true =>
      obtain ⟨e1, e2, e3, e4, e5⟩ := h.l rfl
      simp only at e1 e2 e3 e4 e5
      subst e1 e2 e3
      unfold pNode encN
      rw [List.append_assoc, pBind_some (pflag_enc true _)]
      simp only [if_true]
      unfold pLeaf
      rw [List.append_assoc, pBind_some (pnum_enc 2 _ _ (by omega)), pBind_some ((fit_many fit_entry es.length).f es ys ⟨rfl, e5⟩)]
      rfl
    | false =>
      obtain ⟨e1, e2, e3, e4, e5, e6, e7⟩ := h.i rfl
      simp only at e1 e2 e3 e4 e5 e6 e7
      subst e1
      unfold pNode encN
      rw [List.append_assoc, pBind_some (pflag_enc false _)]
      simp only [Bool.false_eq_true, if_false]
      unfold pInner
      rw [List.append_assoc, pBind_some (pnum_enc 2 _ _ (by omega)), List.append_assoc, pBind_some ((fit_many fit_kid ks.length).f ks _ ⟨rfl, e5⟩), List.append_assoc, pBind_some ((fit_many fit_text (ks.length - 1)).f ps _ ⟨e3, e6⟩), pBind_some ((fit_many fit_buf ks.length).f bs ys ⟨e4, e7⟩)]
      rfl
  · unfold pNode at h
    obtain ⟨leaf, z1, h1, h⟩ := pBind_inv h
    have f1 := pflag_inv h1
    cases leaf with
    | true =>
      simp only [if_true] at h
      unfold pLeaf at h
      obtain ⟨c, z2, h2, h⟩ := pBind_inv h
      obtain ⟨es, z3, h3, h⟩ := pBind_inv h
      obtain ⟨rfl, rfl⟩ := pRet_inv h
      obtain ⟨f2, g2⟩ := pnum_inv h2
      obtain ⟨f3, g3, g4⟩ := (fit_many fit_entry c).b _ _ _ h3
      refine ⟨?_, fun _ => ⟨rfl, rfl, rfl, by show es.length < _; rw [g3]; omega, g4⟩, fun e => by cases e⟩
      rw [f1, f2, f3]
      unfold encN
      simp [g3]
    | false =>
      simp only [Bool.false_eq_true, if_false] at h
      unfold pInner at h
      obtain ⟨c, z2, h2, h⟩ := pBind_inv h
      obtain ⟨ks, z3, h3, h⟩ := pBind_inv h
      obtain ⟨ps, z4, h4, h⟩ := pBind_inv h
      obtain ⟨bs, z5, h5, h⟩ := pBind_inv h
      obtain ⟨rfl, rfl⟩ := pRet_inv h
      obtain ⟨f2, g2⟩ := pnum_inv h2
      obtain ⟨f3, g3, g3'⟩ := (fit_many fit_kid c).b _ _ _ h3
      obtain ⟨f4, g4, g4'⟩ := (fit_many fit_text (c - 1)).b _ _ _ h4
      obtain ⟨f5, g5, g5'⟩ := (fit_many fit_buf c).b _ _ _ h5
      refine ⟨?_, (fun e => by cases e), fun _ => ⟨rfl, by show ks.length < _; rw [g3]; omega, by show ps.length = ks.length - 1; rw [g3, g4], by show bs.length = ks.length; rw [g3, g5], g3', g4', g5'⟩⟩
      rw [f1, f2, f3, f4, f5]
      unfold encN
      simp [g3]

end Go.Proofs.Ytookbmpaoljelaa
