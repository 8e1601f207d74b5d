/-
  The reference's guess: the fixed texts, and numbers.
-/
import Derived.Test.YtcpfohjejhkgbaaDoorValG1
namespace Go.Proofs.YtcpfohjejhkgbaaDoor
open Go Go.RowKit
set_option linter.unusedVariables false
set_option linter.unusedSimpArgs false
set_option maxRecDepth 100000

theorem guess_true (s : ByteArray) (h : s.toList = tTrue) (w : World) : Calls Tryd.prog 19 #[.string s] w fun e w' => GuessRet s w e w' := by
  have e1 : (s.toList == [116, 114, 117, 101]) = true := by rw [h]; rfl
  have HRD : Hid (Reads s.toList (vl 3 1 ⟨#[]⟩)) := Lib.hid (by
    show Reads s.toList ⟨3, 1, (ByteArray.mk #[]).toList⟩
    rw [ba_nil, h]
    exact reads_of (by decide) (by decide) (by decide))
  have HB := Lib.hid (fun o p => below_2 w o p)
  clear h
  go_enter Tryd.func19, Tryd.ntmps19
  go_wp2
  refine bodyPost_ret (v := vlv 3 1 ⟨#[]⟩) (by simp [results, Tryd.results19, go_sem]) rfl ?_
  exact ⟨3, 1, _, rfl, ⟨by omega, by omega⟩, HRD.out, by repeat (first | exact Below.refl _ _ | refine Below.setCell ?_ (by simp) _ | refine Below.alloc ?_ (by simp <;> omega) _)⟩
theorem guess_false (s : ByteArray) (h : s.toList = tFalse) (w : World) : Calls Tryd.prog 19 #[.string s] w fun e w' => GuessRet s w e w' := by
  have e1 : (s.toList == [116, 114, 117, 101]) = false := by rw [h]; rfl
  have e2 : (s.toList == [102, 97, 108, 115, 101]) = true := by rw [h]; rfl
  have HRD : Hid (Reads s.toList (vl 3 0 ⟨#[]⟩)) := Lib.hid (by
    show Reads s.toList ⟨3, 0, (ByteArray.mk #[]).toList⟩
    rw [ba_nil, h]
    exact reads_of (by decide) (by decide) (by decide))
  have HB := Lib.hid (fun o p => below_2 w o p)
  clear h
  go_enter Tryd.func19, Tryd.ntmps19
  go_wp2
  refine bodyPost_ret (v := vlv 3 0 ⟨#[]⟩) (by simp [results, Tryd.results19, go_sem]) rfl ?_
  exact ⟨3, 0, _, rfl, ⟨by omega, by omega⟩, HRD.out, by repeat (first | exact Below.refl _ _ | refine Below.setCell ?_ (by simp) _ | refine Below.alloc ?_ (by simp <;> omega) _)⟩
theorem guess_null (s : ByteArray) (h : s.toList = tNull) (w : World) : Calls Tryd.prog 19 #[.string s] w fun e w' => GuessRet s w e w' := by
  have e1 : (s.toList == [116, 114, 117, 101]) = false := by rw [h]; rfl
  have e2 : (s.toList == [102, 97, 108, 115, 101]) = false := by rw [h]; rfl
  have e3 : (s.toList == [110, 117, 108, 108]) = true := by rw [h]; rfl
  have hsz : s.size = 4 := by rw [← ba_size, h]; rfl
  have h0 : 0 < s.size := by omega
  have hhd := head_of s h0
  have hx : (s[0]'h0) = 110 := by
    rw [h] at hhd
    exact (List.cons.inj hhd).1.symm
  have hz : (((s[0]'h0).toNat : Nat) : Int) = 110 := by rw [hx]; rfl
  have hpos : (0 : Int) < (s.size : Int) := by omega
  have hpos1 : (1 : Int) < (s.size : Int) := by omega
  have HRD : Hid (Reads s.toList (vl 0 0 ⟨#[]⟩)) := Lib.hid (by
    show Reads s.toList ⟨0, 0, (ByteArray.mk #[]).toList⟩
    rw [ba_nil, h]
    exact reads_of (by decide) (by decide) (by decide))
  have HB := Lib.hid ((Below.refl w.heap.size w).alloc (Nat.le_refl _) (.cells #[.int .i64 0, .int .u64 0, .string ⟨#[]⟩] 24))
  clear h hhd hx hsz
  go_enter Tryd.func19, Tryd.ntmps19
  go_wp2
  refine bodyPost_ret (v := vlv 0 0 ⟨#[]⟩) (by simp [results, Tryd.results19, go_sem]) rfl ?_
  exact ⟨0, 0, _, rfl, ⟨by omega, by omega⟩, HRD.out, by repeat (first | exact Below.refl _ _ | refine Below.setCell ?_ (by simp) _ | refine Below.alloc ?_ (by simp <;> omega) _)⟩


theorem heap_setc {w : World} {p : Nat} {cs : Array Value} {t : TypeId} {fr : Nat × Nat} (h : w.heap[p]? = some (.cells cs t fr)) (o : Nat) (u : Value) :
    (w.setCell ⟨p, o, none⟩ u).heap[p]? = some (.cells (cs.setIfInBounds o u) t fr) := by
  simp only [World.setCell, Array.getElem?_modify, if_pos, h, Option.map_some]
  rfl
structure GN (w wr : World) (K : Int) (x : Nat) : Prop where
  r : wr.heap[w.heap.size]? = some (.cells #[.int .i64 0, .int .u64 0, .string ⟨#[]⟩] 24 (0, 0))
  v : wr.heap[w.heap.size + 1]? = some (.cells #[.int .i64 K, .int .u64 (x : Int), .string ⟨#[]⟩] 24 (0, 0))
  below : Below w.heap.size w wr
theorem GN.cells {w wr : World} {K : Int} {x : Nat} (h : GN w wr K x) :
    (wr.cell? ⟨w.heap.size + 1, 0, none⟩ = some (.int .i64 K) ∧ wr.cell? ⟨w.heap.size + 1, 1, none⟩ = some (.int .u64 (x : Int)) ∧ wr.cell? ⟨w.heap.size + 1, 2, none⟩ = some (.string ⟨#[]⟩)) ∧
    (wr.frozen? ⟨w.heap.size + 1, 0, none⟩ = false ∧ wr.frozen? ⟨w.heap.size + 1, 1, none⟩ = false ∧ wr.frozen? ⟨w.heap.size + 1, 2, none⟩ = false) := by
  simp [World.cell?, World.frozen?, h.v]
theorem GN.res {w wr : World} {K : Int} {x : Nat} (h : GN w wr K x) :
    (wr.cell? ⟨w.heap.size, 0, none⟩ = some (.int .i64 0) ∧ wr.cell? ⟨w.heap.size, 1, none⟩ = some (.int .u64 0) ∧ wr.cell? ⟨w.heap.size, 2, none⟩ = some (.string ⟨#[]⟩)) ∧
    (wr.frozen? ⟨w.heap.size, 0, none⟩ = false ∧ wr.frozen? ⟨w.heap.size, 1, none⟩ = false ∧ wr.frozen? ⟨w.heap.size, 2, none⟩ = false) := by
  simp [World.cell?, World.frozen?, h.r]
theorem GN.drew {w wr : World} {K : Int} {x : Nat} (h : GN w wr K x) : GN w wr.drew K x := ⟨h.r, h.v, h.below.drew⟩
theorem GN.num {w wr : World} {K : Int} {x : Nat} (h : GN w wr K x) (y : Nat) : GN w (wr.setCell ⟨w.heap.size + 1, 1, none⟩ (.int .u64 (y : Int))) K y :=
  ⟨(Below.heap_setCell _ _ _ _ (by simp)).trans h.r, by have := heap_setc h.v 1 (.int .u64 (y : Int)); simpa using this, h.below.setCell (by simp) _⟩
theorem GN.kind {w wr : World} {K : Int} {x : Nat} (h : GN w wr K x) (L : Int) : GN w (wr.setCell ⟨w.heap.size + 1, 0, none⟩ (.int .i64 L)) L x :=
  ⟨(Below.heap_setCell _ _ _ _ (by simp)).trans h.r, by have := heap_setc h.v 0 (.int .i64 L); simpa using this, h.below.setCell (by simp) _⟩
theorem num_step (T : ByteArray) (a k : Nat) (hk : k < T.size) (ha : a ≤ k) : numM ((T.toList.take (k + 1)).drop a) = stepM (numM ((T.toList.take k).drop a)) T[k] := by
  rw [take_step T k hk, List.drop_append_of_le_length (by rw [List.length_take, ba_size]; omega), numM_snoc]
theorem num_end (T : ByteArray) (a k : Nat) (hk : k ≤ T.size) (h30 : k ≤ 30) (h : k = T.size ∨ k = 30) : numM ((T.toList.take k).drop a) = numM ((T.toList.take 30).drop a) := by
  rcases h with rfl | rfl
  · rw [List.take_of_length_le (by rw [ba_size]; omega), List.take_of_length_le (by rw [ba_size]; omega)]
  · rfl
theorem read_i {s : List UInt8} (h0 : s ≠ tNull) (h1 : s ≠ tTrue) (h2 : s ≠ tFalse) (hx : s.head? ≠ some 120) (hq : s.head? ≠ some 34 ∨ s.length ≤ 1) (hl : s.getLast? ≠ some 117) {n : Nat} (h : ∀ m, m < M64 → s = itxt m → n = m) : Reads s ⟨1, n, []⟩ := by
  by_cases hq1 : s.head? = some 34
  · intro u hu hM e
    exfalso
    have hlen : s.length ≤ 1 := hq.resolve_left (fun h => h hq1)
    rcases text_kinds u hu hM with ⟨_, t⟩ | ⟨_, t⟩ | ⟨_, t⟩ | ⟨_, t⟩ | ⟨_, t⟩ | ⟨_, t⟩ | ⟨_, t⟩
    · exact h0 (e.symm.trans t)
    · exact h1 (e.symm.trans t)
    · exact h2 (e.symm.trans t)
    · rw [← e, t] at hx; simp at hx
    · rw [← e, t] at hlen; simp at hlen
    · rw [← e, t] at hl; simp at hl
    · obtain ⟨c, r, hd, hc⟩ := itxt_head u.N
      rw [← e, t, hd] at hq1
      simp only [List.head?_cons, Option.some.injEq] at hq1
      rw [hq1] at hc
      exact absurd hc (by decide)
  · exact reads_i h0 h1 h2 hx hq1 hl h
theorem read_plain {s : List UInt8} (h : s.head? ≠ some 45) : ∀ m, m < M64 → s = itxt m → numM (s.take 30) = m := fun m hm e => by
  unfold itxt at e
  split at e
  · rw [e] at h; simp at h
  · have := dig_len20 (n := m) (by omega)
    rw [e, List.take_of_length_le (by omega), numM_dig m hm]
theorem read_minus {s : List UInt8} (h : s.head? = some 45) : ∀ m, m < M64 → s = itxt m → (M64 - numM ((s.take 30).drop 1)) % M64 = m := fun m hm e => by
  unfold itxt at e
  split at e
  · next hs =>
    have h2 : 9223372036854775808 ≤ m := by unfold sgn at hs; split at hs <;> omega
    have := dig_len20 (n := M64 - m) (by omega)
    rw [e, List.take_of_length_le (by simp; omega), List.drop_succ_cons, List.drop_zero, numM_dig _ (by unfold M64 at *; omega)]
    unfold M64 at *
    omega
  · obtain ⟨c, r, hd, hc⟩ := dig_head m
    rw [e, hd] at h
    simp only [List.head?_cons, Option.some.injEq] at h
    rw [h] at hc
    exact absurd hc (by decide)
theorem read_u {s r : List UInt8} (hs : s = r ++ [117]) (hx : s.head? ≠ some 120) (hq : s.head? ≠ some 34 ∨ s.length ≤ 1) : Reads s ⟨2, numM (r.take 30), []⟩ := by
  refine reads_u hs hx ?_ (fun m hm e => ?_)
  · rcases hq with h | h
    · exact h
    · have hr : r = [] := List.eq_nil_of_length_eq_zero (by rw [hs, List.length_append, List.length_singleton] at h; omega)
      rw [hs, hr]
      simp
  · have := dig_len20 (n := m) (by omega)
    rw [e, List.take_of_length_le (by omega), numM_dig m hm]

set_option maxHeartbeats 16000000 in
theorem guess_numb (s : ByteArray) (hs : s.size ≤ 140737488351232) (h0 : s.toList ≠ tNull) (h1 : s.toList ≠ tTrue) (h2 : s.toList ≠ tFalse) (hx : s.toList.head? ≠ some 120) (hq : s.toList.head? ≠ some 34 ∨ s.toList.length ≤ 1) (w : World) :
    Calls Tryd.prog 19 #[.string s] w fun e w' => GuessRet s w e w' := by
  have e1 : (s.toList == [116, 114, 117, 101]) = false := ne_lit h1
  have e2 : (s.toList == [102, 97, 108, 115, 101]) = false := ne_lit h2
  have e3 : (s.toList == [110, 117, 108, 108]) = false := ne_lit h0
  have HX := Lib.hid hx
  have HQ := Lib.hid hq
  have H012 := Lib.hid (And.intro h0 (And.intro h1 h2))
  have HSS := Lib.hid hs
  have HG0 : Hid (∀ K : Int, GN w ((w.alloc (.cells #[.int .i64 0, .int .u64 0, .string ⟨#[]⟩] 24)).alloc (.cells #[.int .i64 K, .int .u64 0, .string ⟨#[]⟩] 24)) K 0) := Lib.hid fun K =>
    ⟨by rw [Below.heap_alloc _ _ _ (by simp)]; exact heap_alloc_new w _, by have := heap_alloc_new (w.alloc (.cells #[.int .i64 0, .int .u64 0, .string ⟨#[]⟩] 24)) (.cells #[.int .i64 K, .int .u64 0, .string ⟨#[]⟩] 24); simpa using this, below_2 w _ _⟩
  have hways : s.size = 0 ∨ (∃ h : 0 < s.size, ((s[0]'h).toNat == 120) = false ∧ ¬ 1 < s.size) ∨ (∃ h : 0 < s.size, ((s[0]'h).toNat == 120) = false ∧ 1 < s.size ∧ ((s[0]'h).toNat == 34) = false) := by
    by_cases hz : s.size = 0
    · exact .inl hz
    · have hp : 0 < s.size := by omega
      have hh : s.toList.head? = some (s[0]'hp) := by rw [head_of s hp]; rfl
      have h120 : ((s[0]'hp).toNat == 120) = false := by
        have : s[0]'hp ≠ 120 := fun e => hx (by rw [hh, e])
        simpa using fun e => this (UInt8.toNat_inj.1 e)
      rcases hq with hq | hq
      · by_cases hb1 : 1 < s.size
        case neg => exact .inr (.inl ⟨hp, h120, hb1⟩)
        refine .inr (.inr ⟨hp, h120, hb1, ?_⟩)
        have : s[0]'hp ≠ 34 := fun e => hq (by rw [hh, e])
        simpa using fun e => this (UInt8.toNat_inj.1 e)
      · exact .inr (.inl ⟨hp, h120, by rw [ba_size] at hq; omega⟩)
  clear h0 h1 h2 hx hq hs
  rcases hways with hz | ⟨hp, hz, h1⟩ | ⟨hp, hz, h1, hz34⟩
  · have hzI : ¬ (0 : Int) < (s.size : Int) := by omega
    have hzI1 : ¬ (1 : Int) < (s.size : Int) := by omega
    go_enter Tryd.func19, Tryd.ntmps19
    go_upto_region 28 with fail
    clear e1 e2 e3 hzI hzI1
    have hT : Hid (s.toList = []) := Lib.hid (List.eq_nil_of_length_eq_zero (by rw [ba_size]; exact hz))
    have hI : ¬ (0 : Int) < (s.size : Int) := by omega
    have HTS : Hid (0 ≤ s.size) := Lib.hid (Nat.zero_le _)
    have HSZ : Hid ((s.size : Int) ≤ 140737488351232) := Lib.hid (by have := HSS.out; omega)
    have HR : Hid (Reads s.toList ⟨1, numM ((s.toList.take 30).drop 0), []⟩) := Lib.hid (by
      rw [List.drop_zero]
      exact read_i H012.out.1 H012.out.2.1 H012.out.2.2 HX.out HQ.out (by rw [hT.out]; simp) (read_plain (by rw [hT.out]; simp)))
    have HZ0 := Lib.hid hz
    clear hz
    go_wp2_with fail
    clear hI
    have HG : Hid (GN w _ 1 (numM ((s.toList.take 0).drop 0))) := Lib.hid (HG0.out 1)
    go_loopw [11] (fun vi wr => ∃ k : Nat, 0 ≤ k ∧ k ≤ s.size ∧ k ≤ 30 ∧ vi = .int .i64 (k : Int) ∧ Hid (GN w wr 1 (numM ((s.toList.take k).drop 0)))) (fun vi _ => 30 - (intOf vi).toNat)
    case atStart => exact ⟨0, Nat.le_refl _, HTS.out, by omega, rfl, HG⟩
    case round =>
      clear HG
      obtain ⟨k, hka, hk, hk30, rfl, HG⟩ := hrel
      have hs47 : (s.size : Int) ≤ 140737488351232 := by have := HSZ.out; omega
      have hk0I : (0 : Int) ≤ (k : Int) := by omega
      by_cases hlt : k < s.size ∧ k < 30
      · exfalso
        have := HZ0.out
        omega
      · have HE : Hid (numM ((s.toList.take k).drop 0) = numM ((s.toList.take 30).drop 0)) := Lib.hid (num_end s 0 k hk hk30 (by omega))
        obtain ⟨x, hx⟩ : ∃ x, numM ((s.toList.take 30).drop 0) = x := ⟨_, rfl⟩
        rw [HE.out, hx] at HG
        have HXX := Lib.hid hx
        have HXM : Hid (x < M64) := Lib.hid (by rw [← hx]; exact numM_lt _)
        clear HE hx
        have hways : ¬ (k : Int) < (s.size : Int) ∨ ((30 : Int) < (s.size : Int) ∧ k = 30) := by omega
        clear hlt
        obtain ⟨⟨c0, c1, c2⟩, f0, f1, f2⟩ := HG.out.cells
        obtain ⟨⟨d0, d1, d2⟩, e0, e1, e2⟩ := HG.out.res
        have H2 := Lib.hid (below_set3 HG.out.below)
        have HRD : Hid (Reads s.toList (vl 1 (x : Int) ⟨#[]⟩)) := Lib.hid (by
          have h := HR.out
          rw [HXX.out] at h
          show Reads s.toList ⟨1, (x : Int).toNat, (ByteArray.mk #[]).toList⟩
          rw [ba_nil, Int.toNat_natCast]
          exact h)
        have HU : Hid (U64 (x : Int)) := Lib.hid ⟨by omega, by have := HXM.out; unfold M64 at this; omega⟩
        clear HG HXX HXM
        have hb : ¬ (k : Int) < (s.size : Int) := by have := HZ0.out; omega
        clear hways
        all_goals
          go_wp2
          refine bodyPost_ret (v := vlv 1 (x : Int) ⟨#[]⟩) (by simp [results, Tryd.results19, go_sem, c0, c1, c2, d0, d1, d2]) rfl ?_
          exact ⟨1, _, _, rfl, HU.out, HRD.out, H2.out _ _ _⟩
  · obtain ⟨z, hzz⟩ : ∃ z : Int, ((s[0]'hp).toNat : Int) = z := ⟨_, rfl⟩
    have i1 : (z == 120) = false := by simp at hz ⊢; omega
    have hpI : (0 : Int) < (s.size : Int) := by omega
    have h1I : ¬ (1 : Int) < (s.size : Int) := by omega
    clear hz h1
    go_enter Tryd.func19, Tryd.ntmps19
    go_upto_region 28 with fail
    clear e1 e2 e3 i1 h1I
    have HTS0 : Hid (0 < s.size) := Lib.hid hp
    have HSZ : Hid ((s.size : Int) ≤ 140737488351232) := Lib.hid (by have := HSS.out; omega)
    have hl : s.size - 1 < s.size := by omega
    obtain ⟨zl, hzl⟩ : ∃ z : Int, ((s[s.size - 1]'hl).toNat : Int) = z := ⟨_, rfl⟩
    have hsp : s.toList = s.toList.take (s.size - 1) ++ [s[s.size - 1]'hl] := by
      have h := take_step s (s.size - 1) hl
      rw [show s.size - 1 + 1 = s.size by omega, List.take_of_length_le (by rw [ba_size]; exact Nat.le_refl _)] at h
      exact h
    have HSP := Lib.hid hsp
    have hin : 0 ≤ (s.size : Int) - 1 ∧ (s.size : Int) - 1 < (s.size : Int) := by omega
    have htn : ((s.size : Int) - 1).toNat = s.size - 1 := by omega
    have hH : Hid (s.toList.head? = some (s[0]'hp)) := Lib.hid (by rw [head_of s hp]; rfl)
    have HZZ := Lib.hid hzz
    have HZL := Lib.hid hzl
    have hs47 : (s.size : Int) ≤ 140737488351232 := by have := HSS.out; omega
    by_cases h117 : zl = 117
    · have hlb : (zl == 117) = true := by simpa using h117
      obtain ⟨t, ht⟩ : ∃ t, s.extract 0 (s.size - 1) = t := ⟨_, rfl⟩
      have htl : t.toList = s.toList.take (s.size - 1) := by
        rw [← ht, ByteArray.toList_eq, ByteArray.toList_eq, Lib.extract_data]
        simp
      have HTT := Lib.hid htl
      have HTS : Hid (0 ≤ t.size) := Lib.hid (Nat.zero_le _)
      have htsz : t.size ≤ s.size := by rw [← ba_size, htl, List.length_take, ba_size]; omega
      have HSZt : Hid ((t.size : Int) ≤ 140737488351232) := Lib.hid (by have := HSZ.out; omega)
      have HR : Hid (Reads s.toList ⟨2, numM ((t.toList.take 30).drop 0), []⟩) := Lib.hid (by
        rw [List.drop_zero]
        refine read_u ?_ HX.out HQ.out
        rw [htl]
        have e : (s[s.size - 1]'hl) = 117 := UInt8.toNat_inj.1 (by show (s[s.size - 1]'hl).toNat = 117; omega)
        rw [← e]
        exact hsp)
      have HGK := Lib.hid (HG0.out 2)
      clear hsp htl htsz h117 HSZ
      have HSZ := HSZt
      go_wp2_with fail
      clear hlb hzl hin htn ht hs47
      have HG : Hid (GN w _ 2 (numM ((t.toList.take 0).drop 0))) := HGK
      go_loopw [11] (fun vi wr => ∃ k : Nat, 0 ≤ k ∧ k ≤ t.size ∧ k ≤ 30 ∧ vi = .int .i64 (k : Int) ∧ Hid (GN w wr 2 (numM ((t.toList.take k).drop 0)))) (fun vi _ => 30 - (intOf vi).toNat)
      case atStart => exact ⟨0, Nat.le_refl _, HTS.out, by omega, rfl, HG⟩
      case round =>
        clear HG
        obtain ⟨k, hka, hk, hk30, rfl, HG⟩ := hrel
        have hs47 : (t.size : Int) ≤ 140737488351232 := by have := HSZ.out; omega
        have hk0I : (0 : Int) ≤ (k : Int) := by omega
        by_cases hlt : k < t.size ∧ k < 30
        · obtain ⟨hlt, hl30⟩ := hlt
          obtain ⟨c, hc⟩ : ∃ c, t[k]'hlt = c := ⟨_, rfl⟩
          obtain ⟨zc, hzc⟩ : ∃ z : Int, ((t[k]'hlt).toNat : Int) = z := ⟨_, rfl⟩
          have hcz : (c.toNat : Int) = zc := by rw [← hc]; exact hzc
          have hz256 : 0 ≤ zc ∧ zc < 256 := by have := c.toNat_lt; omega
          obtain ⟨x, hx⟩ : ∃ x, numM ((t.toList.take k).drop 0) = x := ⟨_, rfl⟩
          have HST : Hid (stepM x c = numM ((t.toList.take (k + 1)).drop 0)) := Lib.hid (by rw [num_step t 0 k hlt hka, hx, hc])
          have hxM : x < M64 := by rw [← hx]; exact numM_lt _
          rw [hx] at HG
          obtain ⟨y1, y2, g1, g2, g3⟩ := step_wraps x hxM c
          rw [hcz] at g2
          obtain ⟨y3, hy3⟩ : ∃ y : Int, ((stepM x c : Nat) : Int) = y := ⟨_, rfl⟩
          rw [hy3] at g3
          have HY3 := Lib.hid hy3
          obtain ⟨X, hX⟩ : ∃ X : Int, ((x : Nat) : Int) = X := ⟨_, rfl⟩
          rw [hX] at g1
          have q0 : IntKind.u64.wrap zc = zc := by rw [IntKind.wrap_u64]; omega
          have q1 : IntKind.u64.wrap (X * 10) = y1 := by rw [IntKind.wrap_u64]; exact g1
          have q2 : IntKind.u64.wrap (y1 + zc) = y2 := by rw [IntKind.wrap_u64]; exact g2
          have q3 : IntKind.u64.wrap (y2 - 48) = y3 := by rw [IntKind.wrap_u64]; exact g3
          have HLE1 : Hid (0 ≤ k + 1 ∧ k + 1 ≤ t.size ∧ k + 1 ≤ 30) := Lib.hid ⟨by omega, hlt, hl30⟩
          have hltI : (k : Int) < (t.size : Int) := by omega
          have hl30I : (k : Int) < 30 := by omega
          obtain ⟨⟨c0, c1, c2⟩, f0, f1, f2⟩ := HG.out.cells
          rw [hX] at c1
          have HX := Lib.hid hX
          have HMS : Hid (30 - (k + 1) < 30 - k) := Lib.hid (by omega)
          clear hx hxM hcz hc hy3 hX g1 g2 g3 c0 c2 f0 f2
          go_upto_region 36 with fail
          go_still_tail 10, (by kernel_rfl)
          change wpList _ _ _ _ _ wr.drew
          clear q0 q1 q2 q3 c1 f1
          have HG2 := Lib.hid HG.out.drew
          clear HG
          obtain ⟨⟨c0, c1, c2⟩, f0, f1, f2⟩ := HG2.out.cells
          have hG3 := HG2.out.num (stepM x c)
          rw [HY3.out, HST.out] at hG3
          have HG3 := Lib.hid hG3
          clear hG3 c0 c2 f0 f2 HG2
          go_wp2
          go_roundw
          case rel => exact ⟨k + 1, HLE1.out.1, HLE1.out.2.1, HLE1.out.2.2, by go_num, HG3⟩
          case measure => have := HMS.out; simp [intOf]; omega
        · have HE : Hid (numM ((t.toList.take k).drop 0) = numM ((t.toList.take 30).drop 0)) := Lib.hid (num_end t 0 k hk hk30 (by omega))
          obtain ⟨x, hx⟩ : ∃ x, numM ((t.toList.take 30).drop 0) = x := ⟨_, rfl⟩
          rw [HE.out, hx] at HG
          have HXX := Lib.hid hx
          have HXM : Hid (x < M64) := Lib.hid (by rw [← hx]; exact numM_lt _)
          clear HE hx
          have hways : ¬ (k : Int) < (t.size : Int) ∨ ((30 : Int) < (t.size : Int) ∧ k = 30) := by omega
          clear hlt
          obtain ⟨⟨c0, c1, c2⟩, f0, f1, f2⟩ := HG.out.cells
          obtain ⟨⟨d0, d1, d2⟩, e0, e1, e2⟩ := HG.out.res
          have H2 := Lib.hid (below_set3 HG.out.below)
          have HRD : Hid (Reads s.toList (vl 2 (x : Int) ⟨#[]⟩)) := Lib.hid (by
            have h := HR.out
            rw [HXX.out] at h
            show Reads s.toList ⟨2, (x : Int).toNat, (ByteArray.mk #[]).toList⟩
            rw [ba_nil, Int.toNat_natCast]
            exact h)
          have HU : Hid (U64 (x : Int)) := Lib.hid ⟨by omega, by have := HXM.out; unfold M64 at this; omega⟩
          clear HG HXX HXM
          rcases hways with hb | ⟨hb, rfl⟩
          all_goals (try rw [show ((30 : Nat) : Int) = 30 from rfl])
          all_goals
            go_wp2
            refine bodyPost_ret (v := vlv 2 (x : Int) ⟨#[]⟩) (by simp [results, Tryd.results19, go_sem, c0, c1, c2, d0, d1, d2]) rfl ?_
            exact ⟨2, _, _, rfl, HU.out, HRD.out, H2.out _ _ _⟩
    · have hlb : (zl == 117) = false := by simpa using h117
      have HL : Hid (s.toList.getLast? ≠ some 117) := Lib.hid (by
        rw [hsp]
        simp only [List.getLast?_append, List.getLast?_singleton, Option.some_or]
        intro e
        have e2 := Option.some.inj e
        apply h117
        rw [← hzl, e2]
        rfl)
      clear hsp h117
      by_cases h45 : z = 45
      · have h45b : (z == 45) = true := by simpa using h45
        have HR : Hid (Reads s.toList ⟨1, (M64 - numM ((s.toList.take 30).drop 1)) % M64, []⟩) := Lib.hid (by
          refine read_i H012.out.1 H012.out.2.1 H012.out.2.2 HX.out HQ.out HL.out (read_minus ?_)
          rw [hH.out]
          congr 1
          exact UInt8.toNat_inj.1 (by show (s[0]'hp).toNat = 45; omega))
        have HTS : Hid (1 ≤ s.size) := HTS0
        clear h45
        go_wp2_with fail
        clear h45b hlb hzl hin htn hs47
        have hone : numM ((s.toList.take 1).drop 1) = 0 := by
          rw [List.drop_of_length_le (by rw [List.length_take]; omega)]
          rfl
        have HG : Hid (GN w _ 1 (numM ((s.toList.take 1).drop 1))) := Lib.hid (by rw [hone]; exact HG0.out 1)
        clear hone
        go_loopw [11] (fun vi wr => ∃ k : Nat, 1 ≤ k ∧ k ≤ s.size ∧ k ≤ 30 ∧ vi = .int .i64 (k : Int) ∧ Hid (GN w wr 1 (numM ((s.toList.take k).drop 1)))) (fun vi _ => 30 - (intOf vi).toNat)
        case atStart => exact ⟨1, Nat.le_refl _, HTS.out, by omega, rfl, HG⟩
        case round =>
          clear HG
          obtain ⟨k, hka, hk, hk30, rfl, HG⟩ := hrel
          have hs47 : (s.size : Int) ≤ 140737488351232 := by have := HSZ.out; omega
          have hk0I : (0 : Int) ≤ (k : Int) := by omega
          by_cases hlt : k < s.size ∧ k < 30
          · obtain ⟨hlt, hl30⟩ := hlt
            obtain ⟨c, hc⟩ : ∃ c, s[k]'hlt = c := ⟨_, rfl⟩
            obtain ⟨zc, hzc⟩ : ∃ z : Int, ((s[k]'hlt).toNat : Int) = z := ⟨_, rfl⟩
            have hcz : (c.toNat : Int) = zc := by rw [← hc]; exact hzc
            have hz256 : 0 ≤ zc ∧ zc < 256 := by have := c.toNat_lt; omega
            obtain ⟨x, hx⟩ : ∃ x, numM ((s.toList.take k).drop 1) = x := ⟨_, rfl⟩
            have HST : Hid (stepM x c = numM ((s.toList.take (k + 1)).drop 1)) := Lib.hid (by rw [num_step s 1 k hlt hka, hx, hc])
            have hxM : x < M64 := by rw [← hx]; exact numM_lt _
            rw [hx] at HG
            obtain ⟨y1, y2, g1, g2, g3⟩ := step_wraps x hxM c
            rw [hcz] at g2
            obtain ⟨y3, hy3⟩ : ∃ y : Int, ((stepM x c : Nat) : Int) = y := ⟨_, rfl⟩
            rw [hy3] at g3
            have HY3 := Lib.hid hy3
            obtain ⟨X, hX⟩ : ∃ X : Int, ((x : Nat) : Int) = X := ⟨_, rfl⟩
            rw [hX] at g1
            have q0 : IntKind.u64.wrap zc = zc := by rw [IntKind.wrap_u64]; omega
            have q1 : IntKind.u64.wrap (X * 10) = y1 := by rw [IntKind.wrap_u64]; exact g1
            have q2 : IntKind.u64.wrap (y1 + zc) = y2 := by rw [IntKind.wrap_u64]; exact g2
            have q3 : IntKind.u64.wrap (y2 - 48) = y3 := by rw [IntKind.wrap_u64]; exact g3
            have HLE1 : Hid (1 ≤ k + 1 ∧ k + 1 ≤ s.size ∧ k + 1 ≤ 30) := Lib.hid ⟨by omega, hlt, hl30⟩
            have hltI : (k : Int) < (s.size : Int) := by omega
            have hl30I : (k : Int) < 30 := by omega
            obtain ⟨⟨c0, c1, c2⟩, f0, f1, f2⟩ := HG.out.cells
            rw [hX] at c1
            have HX := Lib.hid hX
            have HMS : Hid (30 - (k + 1) < 30 - k) := Lib.hid (by omega)
            clear hx hxM hcz hc hy3 hX g1 g2 g3 c0 c2 f0 f2
            go_upto_region 36 with fail
            go_still_tail 10, (by kernel_rfl)
            change wpList _ _ _ _ _ wr.drew
            clear q0 q1 q2 q3 c1 f1
            have HG2 := Lib.hid HG.out.drew
            clear HG
            obtain ⟨⟨c0, c1, c2⟩, f0, f1, f2⟩ := HG2.out.cells
            have hG3 := HG2.out.num (stepM x c)
            rw [HY3.out, HST.out] at hG3
            have HG3 := Lib.hid hG3
            clear hG3 c0 c2 f0 f2 HG2
            go_wp2
            go_roundw
            case rel => exact ⟨k + 1, HLE1.out.1, HLE1.out.2.1, HLE1.out.2.2, by go_num, HG3⟩
            case measure => have := HMS.out; simp [intOf]; omega
          · have HE : Hid (numM ((s.toList.take k).drop 1) = numM ((s.toList.take 30).drop 1)) := Lib.hid (num_end s 1 k hk hk30 (by omega))
            obtain ⟨x, hx⟩ : ∃ x, numM ((s.toList.take 30).drop 1) = x := ⟨_, rfl⟩
            rw [HE.out, hx] at HG
            have HXX := Lib.hid hx
            have HXM : Hid (x < M64) := Lib.hid (by rw [← hx]; exact numM_lt _)
            clear HE hx
            have hways : ¬ (k : Int) < (s.size : Int) ∨ ((30 : Int) < (s.size : Int) ∧ k = 30) := by omega
            clear hlt
            obtain ⟨⟨c0, c1, c2⟩, f0, f1, f2⟩ := HG.out.cells
            obtain ⟨⟨d0, d1, d2⟩, e0, e1, e2⟩ := HG.out.res
            obtain ⟨y, hy⟩ : ∃ y : Nat, (M64 - x) % M64 = y := ⟨_, rfl⟩
            have hng : IntKind.u64.wrap (-(x : Int)) = (y : Int) := by
              rw [IntKind.wrap_u64]
              have := HXM.out
              unfold M64 at *
              omega
            have hng2 : (-(x : Int)) % 18446744073709551616 = (y : Int) := by rw [← IntKind.wrap_u64]; exact hng
            have HRD : Hid (Reads s.toList (vl 1 (y : Int) ⟨#[]⟩)) := Lib.hid (by
              have h := HR.out
              rw [HXX.out, hy] at h
              show Reads s.toList ⟨1, (y : Int).toNat, (ByteArray.mk #[]).toList⟩
              rw [ba_nil, Int.toNat_natCast]
              exact h)
            have HU : Hid (U64 (y : Int)) := Lib.hid ⟨by omega, by have : y < M64 := by rw [← hy]; exact Nat.mod_lt _ M64_pos
                                                                   unfold M64 at this; omega⟩
            have HG2 := Lib.hid (HG.out.num y)
            have HB2 := Lib.hid (below_set3 HG2.out.below)
            have HYY := Lib.hid hy
            clear HXX HXM hy HG
            rcases hways with hb | ⟨hb, rfl⟩
            all_goals (try rw [show ((30 : Nat) : Int) = 30 from rfl])
            all_goals
              go_wp2
              refine bodyPost_ret (v := vlv 1 (y : Int) ⟨#[]⟩) (by simp [results, Tryd.results19, go_sem, c0, c1, c2, d0, d1, d2]) rfl ?_
              exact ⟨1, _, _, rfl, HU.out, HRD.out, HB2.out _ _ _⟩
      · have h45b : (z == 45) = false := by simpa using h45
        have HR : Hid (Reads s.toList ⟨1, numM ((s.toList.take 30).drop 0), []⟩) := Lib.hid (by
          rw [List.drop_zero]
          refine read_i H012.out.1 H012.out.2.1 H012.out.2.2 HX.out HQ.out HL.out (read_plain ?_)
          rw [hH.out]
          intro e
          have e2 := Option.some.inj e
          apply h45
          rw [← hzz, e2]
          rfl)
        have HTS : Hid (0 ≤ s.size) := Lib.hid (Nat.zero_le _)
        clear h45
        go_wp2_with fail
        clear h45b hlb hzl hin htn hs47
        have HG : Hid (GN w _ 1 (numM ((s.toList.take 0).drop 0))) := Lib.hid (HG0.out 1)
        go_loopw [11] (fun vi wr => ∃ k : Nat, 0 ≤ k ∧ k ≤ s.size ∧ k ≤ 30 ∧ vi = .int .i64 (k : Int) ∧ Hid (GN w wr 1 (numM ((s.toList.take k).drop 0)))) (fun vi _ => 30 - (intOf vi).toNat)
        case atStart => exact ⟨0, Nat.le_refl _, HTS.out, by omega, rfl, HG⟩
        case round =>
          clear HG
          obtain ⟨k, hka, hk, hk30, rfl, HG⟩ := hrel
          have hs47 : (s.size : Int) ≤ 140737488351232 := by have := HSZ.out; omega
          have hk0I : (0 : Int) ≤ (k : Int) := by omega
          by_cases hlt : k < s.size ∧ k < 30
          · obtain ⟨hlt, hl30⟩ := hlt
            obtain ⟨c, hc⟩ : ∃ c, s[k]'hlt = c := ⟨_, rfl⟩
            obtain ⟨zc, hzc⟩ : ∃ z : Int, ((s[k]'hlt).toNat : Int) = z := ⟨_, rfl⟩
            have hcz : (c.toNat : Int) = zc := by rw [← hc]; exact hzc
            have hz256 : 0 ≤ zc ∧ zc < 256 := by have := c.toNat_lt; omega
            obtain ⟨x, hx⟩ : ∃ x, numM ((s.toList.take k).drop 0) = x := ⟨_, rfl⟩
            have HST : Hid (stepM x c = numM ((s.toList.take (k + 1)).drop 0)) := Lib.hid (by rw [num_step s 0 k hlt hka, hx, hc])
            have hxM : x < M64 := by rw [← hx]; exact numM_lt _
            rw [hx] at HG
            obtain ⟨y1, y2, g1, g2, g3⟩ := step_wraps x hxM c
            rw [hcz] at g2
            obtain ⟨y3, hy3⟩ : ∃ y : Int, ((stepM x c : Nat) : Int) = y := ⟨_, rfl⟩
            rw [hy3] at g3
            have HY3 := Lib.hid hy3
            obtain ⟨X, hX⟩ : ∃ X : Int, ((x : Nat) : Int) = X := ⟨_, rfl⟩
            rw [hX] at g1
            have q0 : IntKind.u64.wrap zc = zc := by rw [IntKind.wrap_u64]; omega
            have q1 : IntKind.u64.wrap (X * 10) = y1 := by rw [IntKind.wrap_u64]; exact g1
            have q2 : IntKind.u64.wrap (y1 + zc) = y2 := by rw [IntKind.wrap_u64]; exact g2
            have q3 : IntKind.u64.wrap (y2 - 48) = y3 := by rw [IntKind.wrap_u64]; exact g3
            have HLE1 : Hid (0 ≤ k + 1 ∧ k + 1 ≤ s.size ∧ k + 1 ≤ 30) := Lib.hid ⟨by omega, hlt, hl30⟩
            have hltI : (k : Int) < (s.size : Int) := by omega
            have hl30I : (k : Int) < 30 := by omega
            obtain ⟨⟨c0, c1, c2⟩, f0, f1, f2⟩ := HG.out.cells
            rw [hX] at c1
            have HX := Lib.hid hX
            have HMS : Hid (30 - (k + 1) < 30 - k) := Lib.hid (by omega)
            clear hx hxM hcz hc hy3 hX g1 g2 g3 c0 c2 f0 f2
            go_upto_region 36 with fail
            go_still_tail 10, (by kernel_rfl)
            change wpList _ _ _ _ _ wr.drew
            clear q0 q1 q2 q3 c1 f1
            have HG2 := Lib.hid HG.out.drew
            clear HG
            obtain ⟨⟨c0, c1, c2⟩, f0, f1, f2⟩ := HG2.out.cells
            have hG3 := HG2.out.num (stepM x c)
            rw [HY3.out, HST.out] at hG3
            have HG3 := Lib.hid hG3
            clear hG3 c0 c2 f0 f2 HG2
            go_wp2
            go_roundw
            case rel => exact ⟨k + 1, HLE1.out.1, HLE1.out.2.1, HLE1.out.2.2, by go_num, HG3⟩
            case measure => have := HMS.out; simp [intOf]; omega
          · have HE : Hid (numM ((s.toList.take k).drop 0) = numM ((s.toList.take 30).drop 0)) := Lib.hid (num_end s 0 k hk hk30 (by omega))
            obtain ⟨x, hx⟩ : ∃ x, numM ((s.toList.take 30).drop 0) = x := ⟨_, rfl⟩
            rw [HE.out, hx] at HG
            have HXX := Lib.hid hx
            have HXM : Hid (x < M64) := Lib.hid (by rw [← hx]; exact numM_lt _)
            clear HE hx
            have hways : ¬ (k : Int) < (s.size : Int) ∨ ((30 : Int) < (s.size : Int) ∧ k = 30) := by omega
            clear hlt
            obtain ⟨⟨c0, c1, c2⟩, f0, f1, f2⟩ := HG.out.cells
            obtain ⟨⟨d0, d1, d2⟩, e0, e1, e2⟩ := HG.out.res
            have H2 := Lib.hid (below_set3 HG.out.below)
            have HRD : Hid (Reads s.toList (vl 1 (x : Int) ⟨#[]⟩)) := Lib.hid (by
              have h := HR.out
              rw [HXX.out] at h
              show Reads s.toList ⟨1, (x : Int).toNat, (ByteArray.mk #[]).toList⟩
              rw [ba_nil, Int.toNat_natCast]
              exact h)
            have HU : Hid (U64 (x : Int)) := Lib.hid ⟨by omega, by have := HXM.out; unfold M64 at this; omega⟩
            clear HG HXX HXM
            rcases hways with hb | ⟨hb, rfl⟩
            all_goals (try rw [show ((30 : Nat) : Int) = 30 from rfl])
            all_goals
              go_wp2
              refine bodyPost_ret (v := vlv 1 (x : Int) ⟨#[]⟩) (by simp [results, Tryd.results19, go_sem, c0, c1, c2, d0, d1, d2]) rfl ?_
              exact ⟨1, _, _, rfl, HU.out, HRD.out, H2.out _ _ _⟩
  · obtain ⟨z, hzz⟩ : ∃ z : Int, ((s[0]'hp).toNat : Int) = z := ⟨_, rfl⟩
    have i1 : (z == 120) = false := by simp at hz ⊢; omega
    have i2 : (z == 34) = false := by simp at hz34 ⊢; omega
    have hpI : (0 : Int) < (s.size : Int) := by omega
    have h1I : (1 : Int) < (s.size : Int) := by omega
    clear hz hz34 h1
    go_enter Tryd.func19, Tryd.ntmps19
    go_upto_region 28 with fail
    clear e1 e2 e3 i1 i2 h1I
    have HTS0 : Hid (0 < s.size) := Lib.hid hp
    have HSZ : Hid ((s.size : Int) ≤ 140737488351232) := Lib.hid (by have := HSS.out; omega)
    have hl : s.size - 1 < s.size := by omega
    obtain ⟨zl, hzl⟩ : ∃ z : Int, ((s[s.size - 1]'hl).toNat : Int) = z := ⟨_, rfl⟩
    have hsp : s.toList = s.toList.take (s.size - 1) ++ [s[s.size - 1]'hl] := by
      have h := take_step s (s.size - 1) hl
      rw [show s.size - 1 + 1 = s.size by omega, List.take_of_length_le (by rw [ba_size]; exact Nat.le_refl _)] at h
      exact h
    have HSP := Lib.hid hsp
    have hin : 0 ≤ (s.size : Int) - 1 ∧ (s.size : Int) - 1 < (s.size : Int) := by omega
    have htn : ((s.size : Int) - 1).toNat = s.size - 1 := by omega
    have hH : Hid (s.toList.head? = some (s[0]'hp)) := Lib.hid (by rw [head_of s hp]; rfl)
    have HZZ := Lib.hid hzz
    have HZL := Lib.hid hzl
    have hs47 : (s.size : Int) ≤ 140737488351232 := by have := HSS.out; omega
    by_cases h117 : zl = 117
    · have hlb : (zl == 117) = true := by simpa using h117
      obtain ⟨t, ht⟩ : ∃ t, s.extract 0 (s.size - 1) = t := ⟨_, rfl⟩
      have htl : t.toList = s.toList.take (s.size - 1) := by
        rw [← ht, ByteArray.toList_eq, ByteArray.toList_eq, Lib.extract_data]
        simp
      have HTT := Lib.hid htl
      have HTS : Hid (0 ≤ t.size) := Lib.hid (Nat.zero_le _)
      have htsz : t.size ≤ s.size := by rw [← ba_size, htl, List.length_take, ba_size]; omega
      have HSZt : Hid ((t.size : Int) ≤ 140737488351232) := Lib.hid (by have := HSZ.out; omega)
      have HR : Hid (Reads s.toList ⟨2, numM ((t.toList.take 30).drop 0), []⟩) := Lib.hid (by
        rw [List.drop_zero]
        refine read_u ?_ HX.out HQ.out
        rw [htl]
        have e : (s[s.size - 1]'hl) = 117 := UInt8.toNat_inj.1 (by show (s[s.size - 1]'hl).toNat = 117; omega)
        rw [← e]
        exact hsp)
      have HGK := Lib.hid (HG0.out 2)
      clear hsp htl htsz h117 HSZ
      have HSZ := HSZt
      go_wp2_with fail
      clear hlb hzl hin htn ht hs47
      have HG : Hid (GN w _ 2 (numM ((t.toList.take 0).drop 0))) := HGK
      go_loopw [11] (fun vi wr => ∃ k : Nat, 0 ≤ k ∧ k ≤ t.size ∧ k ≤ 30 ∧ vi = .int .i64 (k : Int) ∧ Hid (GN w wr 2 (numM ((t.toList.take k).drop 0)))) (fun vi _ => 30 - (intOf vi).toNat)
      case atStart => exact ⟨0, Nat.le_refl _, HTS.out, by omega, rfl, HG⟩
      case round =>
        clear HG
        obtain ⟨k, hka, hk, hk30, rfl, HG⟩ := hrel
        have hs47 : (t.size : Int) ≤ 140737488351232 := by have := HSZ.out; omega
        have hk0I : (0 : Int) ≤ (k : Int) := by omega
        by_cases hlt : k < t.size ∧ k < 30
        · obtain ⟨hlt, hl30⟩ := hlt
          obtain ⟨c, hc⟩ : ∃ c, t[k]'hlt = c := ⟨_, rfl⟩
          obtain ⟨zc, hzc⟩ : ∃ z : Int, ((t[k]'hlt).toNat : Int) = z := ⟨_, rfl⟩
          have hcz : (c.toNat : Int) = zc := by rw [← hc]; exact hzc
          have hz256 : 0 ≤ zc ∧ zc < 256 := by have := c.toNat_lt; omega
          obtain ⟨x, hx⟩ : ∃ x, numM ((t.toList.take k).drop 0) = x := ⟨_, rfl⟩
          have HST : Hid (stepM x c = numM ((t.toList.take (k + 1)).drop 0)) := Lib.hid (by rw [num_step t 0 k hlt hka, hx, hc])
          have hxM : x < M64 := by rw [← hx]; exact numM_lt _
          rw [hx] at HG
          obtain ⟨y1, y2, g1, g2, g3⟩ := step_wraps x hxM c
          rw [hcz] at g2
          obtain ⟨y3, hy3⟩ : ∃ y : Int, ((stepM x c : Nat) : Int) = y := ⟨_, rfl⟩
          rw [hy3] at g3
          have HY3 := Lib.hid hy3
          obtain ⟨X, hX⟩ : ∃ X : Int, ((x : Nat) : Int) = X := ⟨_, rfl⟩
          rw [hX] at g1
          have q0 : IntKind.u64.wrap zc = zc := by rw [IntKind.wrap_u64]; omega
          have q1 : IntKind.u64.wrap (X * 10) = y1 := by rw [IntKind.wrap_u64]; exact g1
          have q2 : IntKind.u64.wrap (y1 + zc) = y2 := by rw [IntKind.wrap_u64]; exact g2
          have q3 : IntKind.u64.wrap (y2 - 48) = y3 := by rw [IntKind.wrap_u64]; exact g3
          have HLE1 : Hid (0 ≤ k + 1 ∧ k + 1 ≤ t.size ∧ k + 1 ≤ 30) := Lib.hid ⟨by omega, hlt, hl30⟩
          have hltI : (k : Int) < (t.size : Int) := by omega
          have hl30I : (k : Int) < 30 := by omega
          obtain ⟨⟨c0, c1, c2⟩, f0, f1, f2⟩ := HG.out.cells
          rw [hX] at c1
          have HX := Lib.hid hX
          have HMS : Hid (30 - (k + 1) < 30 - k) := Lib.hid (by omega)
          clear hx hxM hcz hc hy3 hX g1 g2 g3 c0 c2 f0 f2
          go_upto_region 36 with fail
          go_still_tail 10, (by kernel_rfl)
          change wpList _ _ _ _ _ wr.drew
          clear q0 q1 q2 q3 c1 f1
          have HG2 := Lib.hid HG.out.drew
          clear HG
          obtain ⟨⟨c0, c1, c2⟩, f0, f1, f2⟩ := HG2.out.cells
          have hG3 := HG2.out.num (stepM x c)
          rw [HY3.out, HST.out] at hG3
          have HG3 := Lib.hid hG3
          clear hG3 c0 c2 f0 f2 HG2
          go_wp2
          go_roundw
          case rel => exact ⟨k + 1, HLE1.out.1, HLE1.out.2.1, HLE1.out.2.2, by go_num, HG3⟩
          case measure => have := HMS.out; simp [intOf]; omega
        · have HE : Hid (numM ((t.toList.take k).drop 0) = numM ((t.toList.take 30).drop 0)) := Lib.hid (num_end t 0 k hk hk30 (by omega))
          obtain ⟨x, hx⟩ : ∃ x, numM ((t.toList.take 30).drop 0) = x := ⟨_, rfl⟩
          rw [HE.out, hx] at HG
          have HXX := Lib.hid hx
          have HXM : Hid (x < M64) := Lib.hid (by rw [← hx]; exact numM_lt _)
          clear HE hx
          have hways : ¬ (k : Int) < (t.size : Int) ∨ ((30 : Int) < (t.size : Int) ∧ k = 30) := by omega
          clear hlt
          obtain ⟨⟨c0, c1, c2⟩, f0, f1, f2⟩ := HG.out.cells
          obtain ⟨⟨d0, d1, d2⟩, e0, e1, e2⟩ := HG.out.res
          have H2 := Lib.hid (below_set3 HG.out.below)
          have HRD : Hid (Reads s.toList (vl 2 (x : Int) ⟨#[]⟩)) := Lib.hid (by
            have h := HR.out
            rw [HXX.out] at h
            show Reads s.toList ⟨2, (x : Int).toNat, (ByteArray.mk #[]).toList⟩
            rw [ba_nil, Int.toNat_natCast]
            exact h)
          have HU : Hid (U64 (x : Int)) := Lib.hid ⟨by omega, by have := HXM.out; unfold M64 at this; omega⟩
          clear HG HXX HXM
          rcases hways with hb | ⟨hb, rfl⟩
          all_goals (try rw [show ((30 : Nat) : Int) = 30 from rfl])
          all_goals
            go_wp2
            refine bodyPost_ret (v := vlv 2 (x : Int) ⟨#[]⟩) (by simp [results, Tryd.results19, go_sem, c0, c1, c2, d0, d1, d2]) rfl ?_
            exact ⟨2, _, _, rfl, HU.out, HRD.out, H2.out _ _ _⟩
    · have hlb : (zl == 117) = false := by simpa using h117
      have HL : Hid (s.toList.getLast? ≠ some 117) := Lib.hid (by
        rw [hsp]
        simp only [List.getLast?_append, List.getLast?_singleton, Option.some_or]
        intro e
        have e2 := Option.some.inj e
        apply h117
        rw [← hzl, e2]
        rfl)
      clear hsp h117
      by_cases h45 : z = 45
      · have h45b : (z == 45) = true := by simpa using h45
        have HR : Hid (Reads s.toList ⟨1, (M64 - numM ((s.toList.take 30).drop 1)) % M64, []⟩) := Lib.hid (by
          refine read_i H012.out.1 H012.out.2.1 H012.out.2.2 HX.out HQ.out HL.out (read_minus ?_)
          rw [hH.out]
          congr 1
          exact UInt8.toNat_inj.1 (by show (s[0]'hp).toNat = 45; omega))
        have HTS : Hid (1 ≤ s.size) := HTS0
        clear h45
        go_wp2_with fail
        clear h45b hlb hzl hin htn hs47
        have hone : numM ((s.toList.take 1).drop 1) = 0 := by
          rw [List.drop_of_length_le (by rw [List.length_take]; omega)]
          rfl
        have HG : Hid (GN w _ 1 (numM ((s.toList.take 1).drop 1))) := Lib.hid (by rw [hone]; exact HG0.out 1)
        clear hone
        go_loopw [11] (fun vi wr => ∃ k : Nat, 1 ≤ k ∧ k ≤ s.size ∧ k ≤ 30 ∧ vi = .int .i64 (k : Int) ∧ Hid (GN w wr 1 (numM ((s.toList.take k).drop 1)))) (fun vi _ => 30 - (intOf vi).toNat)
        case atStart => exact ⟨1, Nat.le_refl _, HTS.out, by omega, rfl, HG⟩
        case round =>
          clear HG
          obtain ⟨k, hka, hk, hk30, rfl, HG⟩ := hrel
          have hs47 : (s.size : Int) ≤ 140737488351232 := by have := HSZ.out; omega
          have hk0I : (0 : Int) ≤ (k : Int) := by omega
          by_cases hlt : k < s.size ∧ k < 30
          · obtain ⟨hlt, hl30⟩ := hlt
            obtain ⟨c, hc⟩ : ∃ c, s[k]'hlt = c := ⟨_, rfl⟩
            obtain ⟨zc, hzc⟩ : ∃ z : Int, ((s[k]'hlt).toNat : Int) = z := ⟨_, rfl⟩
            have hcz : (c.toNat : Int) = zc := by rw [← hc]; exact hzc
            have hz256 : 0 ≤ zc ∧ zc < 256 := by have := c.toNat_lt; omega
            obtain ⟨x, hx⟩ : ∃ x, numM ((s.toList.take k).drop 1) = x := ⟨_, rfl⟩
            have HST : Hid (stepM x c = numM ((s.toList.take (k + 1)).drop 1)) := Lib.hid (by rw [num_step s 1 k hlt hka, hx, hc])
            have hxM : x < M64 := by rw [← hx]; exact numM_lt _
            rw [hx] at HG
            obtain ⟨y1, y2, g1, g2, g3⟩ := step_wraps x hxM c
            rw [hcz] at g2
            obtain ⟨y3, hy3⟩ : ∃ y : Int, ((stepM x c : Nat) : Int) = y := ⟨_, rfl⟩
            rw [hy3] at g3
            have HY3 := Lib.hid hy3
            obtain ⟨X, hX⟩ : ∃ X : Int, ((x : Nat) : Int) = X := ⟨_, rfl⟩
            rw [hX] at g1
            have q0 : IntKind.u64.wrap zc = zc := by rw [IntKind.wrap_u64]; omega
            have q1 : IntKind.u64.wrap (X * 10) = y1 := by rw [IntKind.wrap_u64]; exact g1
            have q2 : IntKind.u64.wrap (y1 + zc) = y2 := by rw [IntKind.wrap_u64]; exact g2
            have q3 : IntKind.u64.wrap (y2 - 48) = y3 := by rw [IntKind.wrap_u64]; exact g3
            have HLE1 : Hid (1 ≤ k + 1 ∧ k + 1 ≤ s.size ∧ k + 1 ≤ 30) := Lib.hid ⟨by omega, hlt, hl30⟩
            have hltI : (k : Int) < (s.size : Int) := by omega
            have hl30I : (k : Int) < 30 := by omega
            obtain ⟨⟨c0, c1, c2⟩, f0, f1, f2⟩ := HG.out.cells
            rw [hX] at c1
            have HX := Lib.hid hX
            have HMS : Hid (30 - (k + 1) < 30 - k) := Lib.hid (by omega)
            clear hx hxM hcz hc hy3 hX g1 g2 g3 c0 c2 f0 f2
            go_upto_region 36 with fail
            go_still_tail 10, (by kernel_rfl)
            change wpList _ _ _ _ _ wr.drew
            clear q0 q1 q2 q3 c1 f1
            have HG2 := Lib.hid HG.out.drew
            clear HG
            obtain ⟨⟨c0, c1, c2⟩, f0, f1, f2⟩ := HG2.out.cells
            have hG3 := HG2.out.num (stepM x c)
            rw [HY3.out, HST.out] at hG3
            have HG3 := Lib.hid hG3
            clear hG3 c0 c2 f0 f2 HG2
            go_wp2
            go_roundw
            case rel => exact ⟨k + 1, HLE1.out.1, HLE1.out.2.1, HLE1.out.2.2, by go_num, HG3⟩
            case measure => have := HMS.out; simp [intOf]; omega
          · have HE : Hid (numM ((s.toList.take k).drop 1) = numM ((s.toList.take 30).drop 1)) := Lib.hid (num_end s 1 k hk hk30 (by omega))
            obtain ⟨x, hx⟩ : ∃ x, numM ((s.toList.take 30).drop 1) = x := ⟨_, rfl⟩
            rw [HE.out, hx] at HG
            have HXX := Lib.hid hx
            have HXM : Hid (x < M64) := Lib.hid (by rw [← hx]; exact numM_lt _)
            clear HE hx
            have hways : ¬ (k : Int) < (s.size : Int) ∨ ((30 : Int) < (s.size : Int) ∧ k = 30) := by omega
            clear hlt
            obtain ⟨⟨c0, c1, c2⟩, f0, f1, f2⟩ := HG.out.cells
            obtain ⟨⟨d0, d1, d2⟩, e0, e1, e2⟩ := HG.out.res
            obtain ⟨y, hy⟩ : ∃ y : Nat, (M64 - x) % M64 = y := ⟨_, rfl⟩
            have hng : IntKind.u64.wrap (-(x : Int)) = (y : Int) := by
              rw [IntKind.wrap_u64]
              have := HXM.out
              unfold M64 at *
              omega
            have hng2 : (-(x : Int)) % 18446744073709551616 = (y : Int) := by rw [← IntKind.wrap_u64]; exact hng
            have HRD : Hid (Reads s.toList (vl 1 (y : Int) ⟨#[]⟩)) := Lib.hid (by
              have h := HR.out
              rw [HXX.out, hy] at h
              show Reads s.toList ⟨1, (y : Int).toNat, (ByteArray.mk #[]).toList⟩
              rw [ba_nil, Int.toNat_natCast]
              exact h)
            have HU : Hid (U64 (y : Int)) := Lib.hid ⟨by omega, by have : y < M64 := by rw [← hy]; exact Nat.mod_lt _ M64_pos
                                                                   unfold M64 at this; omega⟩
            have HG2 := Lib.hid (HG.out.num y)
            have HB2 := Lib.hid (below_set3 HG2.out.below)
            have HYY := Lib.hid hy
            clear HXX HXM hy HG
            rcases hways with hb | ⟨hb, rfl⟩
            all_goals (try rw [show ((30 : Nat) : Int) = 30 from rfl])
            all_goals
              go_wp2
              refine bodyPost_ret (v := vlv 1 (y : Int) ⟨#[]⟩) (by simp [results, Tryd.results19, go_sem, c0, c1, c2, d0, d1, d2]) rfl ?_
              exact ⟨1, _, _, rfl, HU.out, HRD.out, HB2.out _ _ _⟩
      · have h45b : (z == 45) = false := by simpa using h45
        have HR : Hid (Reads s.toList ⟨1, numM ((s.toList.take 30).drop 0), []⟩) := Lib.hid (by
          rw [List.drop_zero]
          refine read_i H012.out.1 H012.out.2.1 H012.out.2.2 HX.out HQ.out HL.out (read_plain ?_)
          rw [hH.out]
          intro e
          have e2 := Option.some.inj e
          apply h45
          rw [← hzz, e2]
          rfl)
        have HTS : Hid (0 ≤ s.size) := Lib.hid (Nat.zero_le _)
        clear h45
        go_wp2_with fail
        clear h45b hlb hzl hin htn hs47
        have HG : Hid (GN w _ 1 (numM ((s.toList.take 0).drop 0))) := Lib.hid (HG0.out 1)
        go_loopw [11] (fun vi wr => ∃ k : Nat, 0 ≤ k ∧ k ≤ s.size ∧ k ≤ 30 ∧ vi = .int .i64 (k : Int) ∧ Hid (GN w wr 1 (numM ((s.toList.take k).drop 0)))) (fun vi _ => 30 - (intOf vi).toNat)
        case atStart => exact ⟨0, Nat.le_refl _, HTS.out, by omega, rfl, HG⟩
        case round =>
          clear HG
          obtain ⟨k, hka, hk, hk30, rfl, HG⟩ := hrel
          have hs47 : (s.size : Int) ≤ 140737488351232 := by have := HSZ.out; omega
          have hk0I : (0 : Int) ≤ (k : Int) := by omega
          by_cases hlt : k < s.size ∧ k < 30
          · obtain ⟨hlt, hl30⟩ := hlt
            obtain ⟨c, hc⟩ : ∃ c, s[k]'hlt = c := ⟨_, rfl⟩
            obtain ⟨zc, hzc⟩ : ∃ z : Int, ((s[k]'hlt).toNat : Int) = z := ⟨_, rfl⟩
            have hcz : (c.toNat : Int) = zc := by rw [← hc]; exact hzc
            have hz256 : 0 ≤ zc ∧ zc < 256 := by have := c.toNat_lt; omega
            obtain ⟨x, hx⟩ : ∃ x, numM ((s.toList.take k).drop 0) = x := ⟨_, rfl⟩
            have HST : Hid (stepM x c = numM ((s.toList.take (k + 1)).drop 0)) := Lib.hid (by rw [num_step s 0 k hlt hka, hx, hc])
            have hxM : x < M64 := by rw [← hx]; exact numM_lt _
            rw [hx] at HG
            obtain ⟨y1, y2, g1, g2, g3⟩ := step_wraps x hxM c
            rw [hcz] at g2
            obtain ⟨y3, hy3⟩ : ∃ y : Int, ((stepM x c : Nat) : Int) = y := ⟨_, rfl⟩
            rw [hy3] at g3
            have HY3 := Lib.hid hy3
            obtain ⟨X, hX⟩ : ∃ X : Int, ((x : Nat) : Int) = X := ⟨_, rfl⟩
            rw [hX] at g1
            have q0 : IntKind.u64.wrap zc = zc := by rw [IntKind.wrap_u64]; omega
            have q1 : IntKind.u64.wrap (X * 10) = y1 := by rw [IntKind.wrap_u64]; exact g1
            have q2 : IntKind.u64.wrap (y1 + zc) = y2 := by rw [IntKind.wrap_u64]; exact g2
            have q3 : IntKind.u64.wrap (y2 - 48) = y3 := by rw [IntKind.wrap_u64]; exact g3
            have HLE1 : Hid (0 ≤ k + 1 ∧ k + 1 ≤ s.size ∧ k + 1 ≤ 30) := Lib.hid ⟨by omega, hlt, hl30⟩
            have hltI : (k : Int) < (s.size : Int) := by omega
            have hl30I : (k : Int) < 30 := by omega
            obtain ⟨⟨c0, c1, c2⟩, f0, f1, f2⟩ := HG.out.cells
            rw [hX] at c1
            have HX := Lib.hid hX
            have HMS : Hid (30 - (k + 1) < 30 - k) := Lib.hid (by omega)
            clear hx hxM hcz hc hy3 hX g1 g2 g3 c0 c2 f0 f2
            go_upto_region 36 with fail
            go_still_tail 10, (by kernel_rfl)
            change wpList _ _ _ _ _ wr.drew
            clear q0 q1 q2 q3 c1 f1
            have HG2 := Lib.hid HG.out.drew
            clear HG
            obtain ⟨⟨c0, c1, c2⟩, f0, f1, f2⟩ := HG2.out.cells
            have hG3 := HG2.out.num (stepM x c)
            rw [HY3.out, HST.out] at hG3
            have HG3 := Lib.hid hG3
            clear hG3 c0 c2 f0 f2 HG2
            go_wp2
            go_roundw
            case rel => exact ⟨k + 1, HLE1.out.1, HLE1.out.2.1, HLE1.out.2.2, by go_num, HG3⟩
            case measure => have := HMS.out; simp [intOf]; omega
          · have HE : Hid (numM ((s.toList.take k).drop 0) = numM ((s.toList.take 30).drop 0)) := Lib.hid (num_end s 0 k hk hk30 (by omega))
            obtain ⟨x, hx⟩ : ∃ x, numM ((s.toList.take 30).drop 0) = x := ⟨_, rfl⟩
            rw [HE.out, hx] at HG
            have HXX := Lib.hid hx
            have HXM : Hid (x < M64) := Lib.hid (by rw [← hx]; exact numM_lt _)
            clear HE hx
            have hways : ¬ (k : Int) < (s.size : Int) ∨ ((30 : Int) < (s.size : Int) ∧ k = 30) := by omega
            clear hlt
            obtain ⟨⟨c0, c1, c2⟩, f0, f1, f2⟩ := HG.out.cells
            obtain ⟨⟨d0, d1, d2⟩, e0, e1, e2⟩ := HG.out.res
            have H2 := Lib.hid (below_set3 HG.out.below)
            have HRD : Hid (Reads s.toList (vl 1 (x : Int) ⟨#[]⟩)) := Lib.hid (by
              have h := HR.out
              rw [HXX.out] at h
              show Reads s.toList ⟨1, (x : Int).toNat, (ByteArray.mk #[]).toList⟩
              rw [ba_nil, Int.toNat_natCast]
              exact h)
            have HU : Hid (U64 (x : Int)) := Lib.hid ⟨by omega, by have := HXM.out; unfold M64 at this; omega⟩
            clear HG HXX HXM
            rcases hways with hb | ⟨hb, rfl⟩
            all_goals (try rw [show ((30 : Nat) : Int) = 30 from rfl])
            all_goals
              go_wp2
              refine bodyPost_ret (v := vlv 1 (x : Int) ⟨#[]⟩) (by simp [results, Tryd.results19, go_sem, c0, c1, c2, d0, d1, d2]) rfl ?_
              exact ⟨1, _, _, rfl, HU.out, HRD.out, H2.out _ _ _⟩

end Go.Proofs.YtcpfohjejhkgbaaDoor
