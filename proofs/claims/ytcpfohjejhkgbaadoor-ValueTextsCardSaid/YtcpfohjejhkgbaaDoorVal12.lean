/-
  Texts read: package value's Parse.
-/
import Derived.Test.YtcpfohjejhkgbaaDoorVal11
import Derived.Test.YtcpfohjejhkgbaaDoorVal6
import Derived.Test.YtcpfohjejhkgbaaDoorVal8
namespace Go.Proofs.YtcpfohjejhkgbaaDoor
open Go Go.RowKit
set_option linter.unusedVariables false
set_option linter.unusedSimpArgs false
set_option maxRecDepth 100000

/-- What a way to read texts may answer: the document's. -/
def ParseRet (s : ByteArray) (w : World) (e : Ending) (w' : World) : Prop :=
  ∃ (K N : Int) (S : ByteArray) (er : Int), e = .returned (.tuple #[vlv K N S, .int .i64 er]) ∧ U64 N ∧ (vl K N S, er) = vparse s.toList ∧ Below w.heap.size w w'
theorem vt_len (v : Vl) (hN : v.N < M64) : (vtext v).length ≤ 194 := by
  cases hv : v.okB with
  | false => rw [(vtext_nil v).2 hv]; simp
  | true =>
    have hS : v.S.length ≤ 64 := by
      have h := ok_size (K := v.K) (N := (v.N : Int)) (s := ⟨v.S.toArray⟩) (by
        show Vl.okB ⟨v.K, (v.N : Int).toNat, (ByteArray.mk v.S.toArray).toList⟩ = true
        rw [ba_mk1]; exact hv)
      rw [bl_mk] at h
      exact h
    rcases text_kinds v hv hN with ⟨_, t⟩ | ⟨_, t⟩ | ⟨_, t⟩ | ⟨_, t⟩ | ⟨_, t⟩ | ⟨_, t⟩ | ⟨_, t⟩
    · rw [t]; decide
    · rw [t]; decide
    · rw [t]; decide
    · rw [t, List.length_cons, hexB_length]; omega
    · rw [t]; have := escB_length v.S; simp only [List.length_cons, List.length_append, List.length_nil]; omega
    · rw [t, List.length_append]; have := dig_len20 (n := v.N) (by omega); simp only [List.length_cons, List.length_nil]; omega
    · rw [t]; unfold itxt
      split
      · have := dig_len20 (n := M64 - v.N) (by omega); simp only [List.length_cons]; omega
      · have := dig_len20 (n := v.N) (by omega); omega
theorem vparse_bad {s : List UInt8} (h : s = [] ∨ 194 < s.length) : vparse s = (⟨0, 0, []⟩, 2) := by
  rcases h with h | h
  · unfold vparse; rw [if_pos (.inl h)]
  · exact vparse_none (fun v hv hN e => by have := vt_len v hN; rw [e] at this; omega) (guess_lt s)
theorem u64_m {n : Int} (h : U64 n) : n.toNat < M64 := by have := h.lo; have := h.hi; unfold M64; omega

theorem cell_lt {w : World} {a : Addr} {v : Value} (h : w.cell? a = some v) : a.block < w.heap.size := by
  rcases Nat.lt_or_ge a.block w.heap.size with h' | h'
  · exact h'
  · simp [World.cell?, Array.getElem?_eq_none h'] at h
theorem keep_cell {w w1 : World} {o : Obj} {a : Addr} {v : Value} (h : w.cell? a = some v) (hb : Below (w.alloc o).heap.size (w.alloc o) w1) : w1.cell? a = some v := by
  have hl := cell_lt h
  have hb2 : Below w.heap.size w w1 := ((Below.refl _ w).alloc (Nat.le_refl _) o).trans (hb.mono (by simp))
  rw [hb2.cell hl]; exact h
theorem keep_frozen {w w1 : World} {o : Obj} {a : Addr} {v : Value} (h : w.cell? a = some v) (hf : w.frozen? a = false) (hb : Below (w.alloc o).heap.size (w.alloc o) w1) : w1.frozen? a = false := by
  have hl := cell_lt h
  have hb2 : Below w.heap.size w w1 := ((Below.refl _ w).alloc (Nat.le_refl _) o).trans (hb.mono (by simp))
  rw [hb2.frozen hl]; exact hf

set_option maxHeartbeats 2000000 in
theorem parse_any (s : ByteArray) (w : World) (hT : Tabs w) :
    Calls Tryd.prog 6 #[.string s] w fun e w' => ParseRet s w e w' := by
  have HB := Lib.hid (fun o => (Below.refl w.heap.size w).alloc (Nat.le_refl _) o)
  have HTA := Lib.hid (fun o => hT.keep (HB.out o))
  have hsz := ba_size s
  have hnil : vl 0 0 ⟨#[]⟩ = ⟨0, 0, []⟩ := by show (⟨0, 0, (ByteArray.mk #[]).toList⟩ : Vl) = _; rw [ba_nil]
  have HBAD : Hid (s.toList = [] ∨ 194 < s.toList.length → (vl 0 0 ⟨#[]⟩, (2 : Int)) = vparse s.toList) := Lib.hid (fun h => by rw [vparse_bad h, hnil])
  clear hT hnil
  by_cases h0 : s.size = 0
  · have he := empty_of h0
    have HR := Lib.hid (HBAD.out (.inl (by simpa using he)))
    clear hsz h0 HBAD
    go_enter Tryd.func6, Tryd.ntmps6
    go_wp2
    refine bodyPost_ret (v := .tuple #[vlv 0 0 ⟨#[]⟩, .int .i64 2]) (by simp [results, Tryd.results6, go_sem]) rfl ?_
    exact ⟨0, 0, _, 2, rfl, ⟨by omega, by omega⟩, HR.out, HB.out _⟩
  have he := nonempty_of (s := s) (by omega)
  by_cases h194 : (194 : Int) < s.size
  · have HR := Lib.hid (HBAD.out (.inr (by rw [hsz]; omega)))
    clear hsz h0 HBAD
    go_enter Tryd.func6, Tryd.ntmps6
    go_wp2
    refine bodyPost_ret (v := .tuple #[vlv 0 0 ⟨#[]⟩, .int .i64 2]) (by simp [results, Tryd.results6, go_sem]) rfl ?_
    exact ⟨0, 0, _, 2, rfl, ⟨by omega, by omega⟩, HR.out, HB.out _⟩
  have HSZ : Hid (s.size ≤ 4096) := Lib.hid (by omega)
  have HNE : Hid (s.toList ≠ []) := Lib.hid (fun h => by rw [h] at hsz; simp at hsz; omega)
  clear hsz h0 HBAD
  go_enter Tryd.func6, Tryd.ntmps6
  go_wp2_with fail
  refine (read_any s HSZ.out _ (HTA.out _)).mono ?_
  rintro e w1 ⟨K, N, S, rfl, hN, hr, hb1⟩
  have HN := Lib.hid hN
  have HR := Lib.hid hr
  have HT1 := Lib.hid ((HTA.out _).keep hb1)
  have H1 := Lib.hid ((HB.out _).trans (hb1.mono (by simp)))
  obtain ⟨⟨c0, c1, c2⟩, f0, f1, f2⟩ := res_cells hb1
  obtain ⟨X, hX⟩ : ∃ X : ByteArray, (⟨(vtext (vl K N S)).toArray⟩ : ByteArray) = X := ⟨_, rfl⟩
  have HX : Hid (X.toList = vtext (vl K N S)) := Lib.hid (by rw [← hX, ba_mk1 (vtext (vl K N S))])
  have HTX : Hid (∀ W, Tabs W → Calls Tryd.prog 5 #[vlv K N S] W fun e w' => e = .returned (.string X) ∧ Below W.heap.size W w') := Lib.hid (fun W hW => by
    have h := text_any (K := K) (s := S) hN W hW
    rw [hX] at h
    exact h)
  clear hr hN hb1 hX
  go_wp2_with fail
  refine (HTX.out _ (HT1.out.keep ((Below.refl _ _).alloc (Nat.le_refl _) _))).mono ?_
  rintro e w2 ⟨rfl, hb2⟩
  obtain ⟨d0, d1, d2⟩ := val_cells hb2
  have e0 := keep_cell c0 hb2
  have e1 := keep_cell c1 hb2
  have e2 := keep_cell c2 hb2
  have g0 := keep_frozen c0 f0 hb2
  have g1 := keep_frozen c1 f1 hb2
  have g2 := keep_frozen c2 f2 hb2
  have H2 := Lib.hid (below_set3 (H1.out.trans (((Below.refl _ w1).alloc (Nat.le_refl _) _).trans (hb2.mono (by simp)) |>.mono H1.out.size)))
  have hne : w1.heap.size ≠ w.heap.size := by have := cell_lt c0; simp at this; omega
  clear hb2 c0 c1 c2 f0 f1 f2 HTX
  have hvp := vparse_reads HR.out (u64_m HN.out) HNE.out
  by_cases hx : X.toList = s.toList
  · have hb : (X.toList == s.toList) = true := by simpa using hx
    rw [if_pos (by rw [← HX.out]; exact hx)] at hvp
    have HV := Lib.hid hvp
    clear hx hvp
    go_wp2
    refine bodyPost_ret (v := .tuple #[vlv K N S, .int .i64 0]) (by simp [results, Tryd.results6, go_sem, e0, e1, e2, d0, d1, d2, hne]) rfl ?_
    exact ⟨K, N, S, 0, rfl, HN.out, HV.out.symm, H2.out _ _ _⟩
  · have hb : (X.toList == s.toList) = false := by simpa using hx
    rw [if_neg (by rw [← HX.out]; exact hx)] at hvp
    have HV : Hid ((vl 0 0 ⟨#[]⟩, (2 : Int)) = vparse s.toList) := Lib.hid (by
      rw [hvp]
      show ((⟨0, 0, (ByteArray.mk #[]).toList⟩ : Vl), (2 : Int)) = _
      rw [ba_nil])
    clear hx hvp
    go_wp2
    refine bodyPost_ret (v := .tuple #[vlv 0 0 ⟨#[]⟩, .int .i64 2]) (by simp [results, Tryd.results6, go_sem, e0, e1, e2]) rfl ?_
    exact ⟨0, 0, _, 2, rfl, ⟨by omega, by omega⟩, HV.out, H2.out _ _ _⟩

end Go.Proofs.YtcpfohjejhkgbaaDoor
