/-
  The reference's Parse, out of what its guess answers.
-/
import Derived.Test.YtcpfohjejhkgbaaDoorValR8
namespace Go.Proofs.YtcpfohjejhkgbaaDoor
open Go Go.RowKit
set_option linter.unusedVariables false
set_option linter.unusedSimpArgs false
set_option maxRecDepth 100000

/-- What the reference's guess answers (to be proved). -/
def GuessRet (s : ByteArray) (w : World) (e : Ending) (w' : World) : Prop :=
  ∃ (K N : Int) (S : ByteArray), e = .returned (vlv K N S) ∧ U64 N ∧ Reads s.toList (vl K N S) ∧ Below w.heap.size w w'

set_option maxHeartbeats 2000000 in
theorem rparse_of (s : ByteArray) (hg : ∀ W, Calls Tryd.prog 19 #[.string s] W fun e w' => GuessRet s W e w') (w : World) :
    Calls Tryd.prog 7 #[.string s] w fun e w' => ParseRet s w e w' := by
  have HG := Lib.hid hg
  clear hg
  have HB := Lib.hid (fun o => (Below.refl w.heap.size w).alloc (Nat.le_refl _) o)
  have hsz := ba_size s
  have hnil : vl 0 0 ⟨#[]⟩ = ⟨0, 0, []⟩ := by show (⟨0, 0, (ByteArray.mk #[]).toList⟩ : Vl) = _; rw [ba_nil]
  have HBAD : Hid (s.toList = [] ∨ 194 < s.toList.length → (vl 0 0 ⟨#[]⟩, (2 : Int)) = vparse s.toList) := Lib.hid (fun h => by rw [vparse_bad h, hnil])
  clear hnil
  by_cases h0 : s.size = 0
  · have he := empty_of h0
    have HR := Lib.hid (HBAD.out (.inl (by simpa using he)))
    clear hsz h0 HBAD
    go_enter Tryd.func7, Tryd.ntmps7
    go_wp2_with fail
    refine (HG.out _).mono ?_
    rintro e w1 ⟨K, N, S, rfl, hN, hr, hb1⟩
    have H1 := Lib.hid ((HB.out _).trans (hb1.mono (by simp)))
    obtain ⟨⟨c0, c1, c2⟩, f0, f1, f2⟩ := res_cells hb1
    have H2 := Lib.hid (fun a b c => (below_set3 H1.out a b c).alloc (below_set3 H1.out a b c).size (.cells #[.int .i64 K, .int .u64 N, .string S] 24))
    have hlt : w.heap.size < w1.heap.size := by have := cell_lt c0; simpa using this
    have hb2 := Below.refl (w1.alloc (.cells #[.int .i64 K, .int .u64 N, .string S] 24)).heap.size (w1.alloc (.cells #[.int .i64 K, .int .u64 N, .string S] 24))
    have e0 := keep_cell c0 hb2
    have e1 := keep_cell c1 hb2
    have e2 := keep_cell c2 hb2
    have g0 := keep_frozen c0 f0 hb2
    have g1 := keep_frozen c1 f1 hb2
    have g2 := keep_frozen c2 f2 hb2
    clear hr hN hb1 hb2
    go_wp2
    refine bodyPost_ret (v := .tuple #[vlv 0 0 ⟨#[]⟩, .int .i64 2]) (by simp [results, Tryd.results7, go_sem, e0, e1, e2, c0, c1, c2, hlt]) rfl ?_
    exact ⟨0, 0, _, 2, rfl, ⟨by omega, by omega⟩, HR.out, H2.out _ _ _⟩
  have he := nonempty_of (s := s) (by omega)
  have HNE : Hid (s.toList ≠ []) := Lib.hid (fun h => by rw [h] at hsz; simp at hsz; omega)
  clear hsz h0 HBAD
  go_enter Tryd.func7, Tryd.ntmps7
  go_wp2_with fail
  refine (HG.out _).mono ?_
  rintro e w1 ⟨K, N, S, rfl, hN, hr, hb1⟩
  have HN := Lib.hid hN
  have HR := Lib.hid hr
  have H1 := Lib.hid ((HB.out _).trans (hb1.mono (by simp)))
  obtain ⟨⟨c0, c1, c2⟩, f0, f1, f2⟩ := res_cells hb1
  obtain ⟨X, hX⟩ : ∃ X : ByteArray, (⟨(vtext (vl K N S)).toArray⟩ : ByteArray) = X := ⟨_, rfl⟩
  have HX : Hid (X.toList = vtext (vl K N S)) := Lib.hid (by rw [← hX, ba_mk1 (vtext (vl K N S))])
  have HTX : Hid (∀ W, Calls Tryd.prog 8 #[vlv K N S] W fun e w' => e = .returned (.string X) ∧ Below W.heap.size W w') := Lib.hid (fun W => by
    have h := rtext_any (K := K) (s := S) hN W
    rw [hX] at h
    exact h)
  clear hr hN hb1 hX
  go_wp2_with fail
  refine (HTX.out _).mono ?_
  rintro e w2 ⟨rfl, hb2⟩
  obtain ⟨d0, d1, d2⟩ := val_cells hb2
  have e0 := keep_cell c0 hb2
  have e1 := keep_cell c1 hb2
  have e2 := keep_cell c2 hb2
  have g0 := keep_frozen c0 f0 hb2
  have g1 := keep_frozen c1 f1 hb2
  have g2 := keep_frozen c2 f2 hb2
  have H2 := Lib.hid (below_set3 (H1.out.trans (((Below.refl _ w1).alloc (Nat.le_refl _) _).trans (hb2.mono (by simp)) |>.mono H1.out.size)))
  have hne : w1.heap.size ≠ w.heap.size := by have := cell_lt c0; simp at this; omega
  clear hb2 c0 c1 c2 f0 f1 f2 HTX
  have hvp := vparse_reads HR.out (u64_m HN.out) HNE.out
  by_cases hx : X.toList = s.toList
  · have hb : (X.toList == s.toList) = true := by simpa using hx
    rw [if_pos (by rw [← HX.out]; exact hx)] at hvp
    have HV := Lib.hid hvp
    clear hx hvp
    go_wp2
    refine bodyPost_ret (v := .tuple #[vlv K N S, .int .i64 0]) (by simp [results, Tryd.results7, go_sem, e0, e1, e2, d0, d1, d2, hne]) rfl ?_
    exact ⟨K, N, S, 0, rfl, HN.out, HV.out.symm, H2.out _ _ _⟩
  · have hb : (X.toList == s.toList) = false := by simpa using hx
    rw [if_neg (by rw [← HX.out]; exact hx)] at hvp
    have HV : Hid ((vl 0 0 ⟨#[]⟩, (2 : Int)) = vparse s.toList) := Lib.hid (by
      rw [hvp]
      show ((⟨0, 0, (ByteArray.mk #[]).toList⟩ : Vl), (2 : Int)) = _
      rw [ba_nil])
    clear hx hvp
    go_wp2
    refine bodyPost_ret (v := .tuple #[vlv 0 0 ⟨#[]⟩, .int .i64 2]) (by simp [results, Tryd.results7, go_sem, e0, e1, e2]) rfl ?_
    exact ⟨0, 0, _, 2, rfl, ⟨by omega, by omega⟩, HV.out, H2.out _ _ _⟩

end Go.Proofs.YtcpfohjejhkgbaaDoor
