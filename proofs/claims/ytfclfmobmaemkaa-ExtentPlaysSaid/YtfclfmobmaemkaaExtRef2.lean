/-
  The reference's space: set, Take, Free, New, Left.
-/
import Derived.Test.YtfclfmobmaemkaaExtRef1
import Derived.Deep.DeepCutAuto
import Derived.Deep.CutBlock
namespace Go.Proofs.Ytfclfmobmaemkaa
open Go Go.RowKit
set_option linter.unusedVariables false
set_option linter.unusedSimpArgs false
set_option maxRecDepth 100000

theorem SpaceAt.drewN {t : TypeId} {w : World} {p g a : Nat} {l : List Bool} (h : SpaceAt t w p g a l) (q : Nat) : SpaceAt t (w.drewN q) p g a l := h.quiet ((Only.refl _ w).drewN q)

set_option maxRecDepth 100000 in
set_option maxHeartbeats 4000000 in
theorem ref_set_ok {w : World} {p g a : Nat} {o : List Bool} (h : SpaceAt 53 w p g a o) (st : Int) (d m : Nat) (hst : st = (a : Int) + d) (hm : 1 ≤ m) (hd : d + m ≤ o.length) (b : Bool) :
    Calls Try.prog 25 #[.pointer (some ⟨p, 0, none⟩), .int .i64 st, .int .i64 m, .bool b] w fun e w' => e = .returned (.int .i64 (if b ∈ (o.drop d).take m then 6 else 0 : Nat)) ∧ SpaceAt 53 w' p g a (if b ∈ (o.drop d).take m then o else setL o d m b) ∧ Only (fun k => k = g) w w' := by
  have H := Lib.hid h
  have hc0 : w.cell? ⟨p, 0, none⟩ = some (.int .i64 (a : Int)) := h.cell 0
  have hc1 : w.cell? ⟨p, 1, none⟩ = some (.slice (some ⟨g, 0, none⟩) o.length o.length) := h.cell 1
  have hfit := h.fits
  obtain ⟨N, hN⟩ : ∃ N, N = o.length := ⟨_, rfl⟩
  rw [← hN] at hc1 hfit hd
  have HN := Lib.hid hN
  obtain ⟨mm, hmm⟩ : ∃ mm : Int, mm = (m : Int) := ⟨_, rfl⟩
  rw [← hmm]
  have h1d : decide (mm < 1) = false := decide_eq_false (by omega)
  have h2d : decide ((N : Int) < mm) = false := decide_eq_false (by omega)
  have h3d : decide (st < (a : Int)) = false := decide_eq_false (by omega)
  have h4d : decide ((a : Int) + N - mm < st) = false := decide_eq_false (by omega)
  have e1 : IntKind.i64.wrap ((a : Int) + N) = (a : Int) + N := IntWalk.i64_in _ (by omega)
  have e2 : IntKind.i64.wrap ((a : Int) + N - mm) = (a : Int) + N - mm := IntWalk.i64_in _ (by omega)
  have HMM := Lib.hid hmm
  have e3 : st - (a : Int) = (d : Int) := by omega
  have HST := Lib.hid hst
  obtain ⟨E, hE⟩ : ∃ E : Nat, E = (if b ∈ (o.drop d).take m then 6 else 0 : Nat) := ⟨_, rfl⟩
  obtain ⟨L, hL⟩ : ∃ L, L = (if b ∈ (o.drop d).take m then o else setL o d m b) := ⟨_, rfl⟩
  rw [← hE, ← hL]
  have HE0 := Lib.hid hE
  have HL0 := Lib.hid hL
  clear h hN hst hmm hE hL
  go_enter Try.func25, Try.ntmps25
  go_wp2
  go_quiet (fail)
  have hq0 : (w.drewN nq).cell? ⟨p, 0, none⟩ = some (.int .i64 (a : Int)) := hc0
  have hq1 : (w.drewN nq).cell? ⟨p, 1, none⟩ = some (.slice (some ⟨g, 0, none⟩) N N) := hc1
  have HSq := Lib.hid (H.out.drewN nq)
  have HOq : Hid (Only (fun _ => False) w (w.drewN nq)) := Lib.hid ((Only.refl _ w).drewN nq)
  generalize w.drewN nq = w1 at *
  have hsa : (a : Int) ≤ st := by have := HST.out; omega
  have hsb : st ≤ 4096 := by have := HST.out; omega
  clear e1 e2 h1d h2d h3d h4d hc0 hc1
  obtain rfl := HMM.out
  clear HMM
  go_wp2_with fail
  go_loop [9] (fun i => ∃ k : Nat, d ≤ k ∧ k ≤ d + m ∧ i = .int .i64 k ∧ Hid (∀ i, d ≤ i → i < k → o[i]? = some (!b))) (fun i => d + m - (intOf i).toNat)
  case atStart => exact ⟨d, Nat.le_refl _, by omega, rfl, Lib.hid (fun i h1 h2 => by omega)⟩
  case round =>
    obtain ⟨k, hk1, hk2, rfl, HK⟩ := hrel
    by_cases hlt : k < d + m
    · have hltI : (k : Int) < (d : Int) + (m : Int) := by omega
      have hk0 : (0 : Int) ≤ (k : Int) := by omega
      have hkN : (k : Int) < (N : Int) := by omega
      have hon : d + m ≤ o.length := by rw [← HN.out]; exact hd
      have hc := HSq.out.flag (j := k) (by omega)
      have hg := getD_of (l := o) (j := k) (by omega)
      by_cases hb : o.getD k false = b
      · have hmem : b ∈ (o.drop d).take m := (mem_seg hon).2 ⟨k, hk1, hlt, by rw [hg, hb]⟩
        rw [hb] at hc
        have HE : Hid (E = 6) := Lib.hid (HE0.out.trans (if_pos hmem))
        have HL : Hid (L = o) := Lib.hid (HL0.out.trans (if_pos hmem))
        clear hb hg hmem hon
        cases b
        all_goals
          go_wp2_with fail
          go_ret
          refine ⟨by rw [HE.out]; rfl, ?_, HOq.out.mono (fun _ _ h => h.elim)⟩
          rw [HL.out]
          exact HSq.out
      · have hb' := bool_other hb
        rw [hb'] at hc hg
        have HK2 : Hid (∀ i, d ≤ i → i < k + 1 → o[i]? = some (!b)) := Lib.hid (fun i h1 h2 => by
          by_cases e : i = k
          · subst e; exact hg
          · exact HK.out i h1 (by omega))
        clear hb hb' hg hon HK
        cases b
        all_goals
          simp only [Bool.not_true, Bool.not_false] at hc
          go_wp2_with fail
          go_round
          case rel => exact ⟨k + 1, by omega, by omega, by go_num, HK2⟩
          case measure => simp [intOf]; omega
    · have hltI : ¬ (k : Int) < (d : Int) + (m : Int) := by omega
      obtain rfl : k = d + m := by omega
      have hon : d + m ≤ o.length := by rw [← HN.out]; exact hd
      have hmem : ¬ b ∈ (o.drop d).take m := fun h => by
        obtain ⟨i, h1, h2, h3⟩ := (mem_seg hon).1 h
        rw [HK.out i h1 h2] at h3
        cases b <;> simp at h3
      have HE : Hid (E = 0) := Lib.hid (HE0.out.trans (if_neg hmem))
      have HL : Hid (L = setL o d m b) := Lib.hid (HL0.out.trans (if_neg hmem))
      have HT := Lib.hid (ref_turn HSq.out d m hon b)
      clear hmem hon HK
      go_wp2_with fail
      refine HT.out.mono ?_
      rintro e w2 ⟨rfl, h2, h3⟩
      have H2 := Lib.hid h2
      have H3 := Lib.hid h3
      clear h2 h3
      go_wp2_with fail
      go_ret
      refine ⟨by rw [HE.out]; rfl, ?_, (HOq.out.mono (fun _ _ h => h.elim)).trans H3.out (fun _ _ h => h)⟩
      rw [HL.out]
      exact H2.out

theorem ref_set {w : World} {p g a : Nat} {o : List Bool} (h : SpaceAt 53 w p g a o) (start n : Int) (hs : i64R' start) (hn : i64R' n) (b : Bool) :
    Calls Try.prog 25 #[.pointer (some ⟨p, 0, none⟩), .int .i64 start, .int .i64 n, .bool b] w fun e w' => e = .returned (.int .i64 (turnE a o start n b)) ∧ SpaceAt 53 w' p g a (turnL a o start n b) ∧ Only (fun k => k = g) w w' := by
  by_cases h1 : hasB a o.length start n = false
  · have e1 : turnE a o start n b = 1 := by simp [turnE, h1]
    have e2 : turnL a o start n b = o := by simp [turnL, e1]
    rw [e1, e2]
    refine (ref_set_bad h start n hs hn b h1).mono ?_
    rintro e w' ⟨rfl, hq⟩
    exact ⟨rfl, h.quiet hq, hq.mono (fun _ _ h => h.elim)⟩
  · have h1 : hasB a o.length start n = true := by simpa using h1
    obtain ⟨d, m, rfl, rfl, hm1, hm2⟩ : ∃ d m : Nat, start = (a : Int) + d ∧ n = m ∧ 1 ≤ m ∧ d + m ≤ o.length := by
      simp [hasB] at h1
      exact ⟨(start - a).toNat, n.toNat, by omega, by omega, by omega, by omega⟩
    have hE := turnE_at a hm1 hm2 b
    have hL : turnL a o ((a : Int) + d) m b = if b ∈ (o.drop d).take m then o else setL o d m b := by
      by_cases hb : b ∈ (o.drop d).take m
      · rw [if_pos hb] at hE ⊢; exact turn_same (by rw [hE]; decide)
      · rw [if_neg hb]; exact turnL_at a hm1 hm2 hb
    rw [hE, hL]
    exact ref_set_ok h _ d m rfl hm1 hm2 b

set_option maxHeartbeats 400000 in
theorem ref_take {w : World} {p g a : Nat} {l : List Bool} (h : SpaceAt 53 w p g a (flip l)) (start n : Int) (hs : i64R' start) (hn : i64R' n) :
    Calls Try.prog 16 #[.pointer (some ⟨p, 0, none⟩), .int .i64 start, .int .i64 n] w fun e w' => e = .returned (.int .i64 (turnE a l start n true)) ∧ SpaceAt 53 w' p g a (flip (turnL a l start n true)) ∧ Only (fun k => k = g) w w' := by
  have H := ref_set h start n hs hn false
  have hf := flip_turn a l start n true
  simp only [Bool.not_true] at hf
  rw [hf.1, hf.2] at H
  have H := Lib.hid H
  clear h hf
  go_enter Try.func16, Try.ntmps16
  go_wp2_with fail
  refine H.out.mono ?_
  rintro e w1 ⟨rfl, h1, h2⟩
  have H1 := Lib.hid h1
  have H2 := Lib.hid h2
  clear h1 h2
  go_wp2_with fail
  go_ret
  exact ⟨rfl, H1.out, H2.out⟩
set_option maxHeartbeats 400000 in
theorem ref_free {w : World} {p g a : Nat} {l : List Bool} (h : SpaceAt 53 w p g a (flip l)) (start n : Int) (hs : i64R' start) (hn : i64R' n) :
    Calls Try.prog 17 #[.pointer (some ⟨p, 0, none⟩), .int .i64 start, .int .i64 n] w fun e w' => e = .returned (.int .i64 (turnE a l start n false)) ∧ SpaceAt 53 w' p g a (flip (turnL a l start n false)) ∧ Only (fun k => k = g) w w' := by
  have H := ref_set h start n hs hn true
  have hf := flip_turn a l start n false
  simp only [Bool.not_false] at hf
  rw [hf.1, hf.2] at H
  have H := Lib.hid H
  clear h hf
  go_enter Try.func17, Try.ntmps17
  go_wp2_with fail
  refine H.out.mono ?_
  rintro e w1 ⟨rfl, h1, h2⟩
  have H1 := Lib.hid h1
  have H2 := Lib.hid h2
  clear h1 h2
  go_wp2_with fail
  go_ret
  exact ⟨rfl, H1.out, H2.out⟩

set_option maxHeartbeats 400000 in
theorem ref_new_bad (x y : Int) (w : World) (h : x < 0 ∨ y < x ∨ 4096 < y) :
    Calls Try.prog 9 #[.int .i64 x, .int .i64 y] w fun e w' => e = .returned (.tuple #[.pointer none, .int .i64 1]) ∧ w = w' := by
  by_cases h1 : x < 0
  · have h1d : decide (x < 0) = true := decide_eq_true h1
    clear h
    go_enter Try.func9, Try.ntmps9
    go_wp2
    go_ret2
    exact ⟨rfl, rfl⟩
  · have h1d : decide (x < 0) = false := decide_eq_false h1
    by_cases h2 : y < x
    · have h2d : decide (y < x) = true := decide_eq_true h2
      clear h
      go_enter Try.func9, Try.ntmps9
      go_wp2
      go_ret2
      exact ⟨rfl, rfl⟩
    · have h2d : decide (y < x) = false := decide_eq_false h2
      have h3 : 4096 < y := by omega
      have h3d : decide (4096 < y) = true := decide_eq_true h3
      clear h
      go_enter Try.func9, Try.ntmps9
      go_wp2
      go_ret2
      exact ⟨rfl, rfl⟩

set_option maxHeartbeats 1000000 in
theorem ref_new (a n : Nat) (y : Int) (hy : y = (a : Int) + n) (w : World) (hfit : a + n ≤ 4096) :
    Calls Try.prog 9 #[.int .i64 a, .int .i64 y] w fun e w' => e = .returned (.tuple #[.pointer (some ⟨w.heap.size + 1, 0, none⟩), .int .i64 0]) ∧ SpaceAt 53 w' (w.heap.size + 1) w.heap.size a (flip (List.replicate n false)) ∧ Only (fun _ => False) w w' := by
  have h1 : ¬ (a : Int) < 0 := by omega
  have h2 : ¬ y < a := by omega
  have h3 : ¬ 4096 < y := by omega
  have e1 : IntKind.i64.wrap (y - a) = n := by rw [IntWalk.i64_in _ (by omega)]; omega
  have e2 : y - a = n := by omega
  clear hy
  have hmk := run_make_bools n (by omega)
  have HM := Lib.hid (space_made (t := 53) (w := w) (a := a) (n := n) rfl hfit)
  have HO : Hid (Only (fun _ => False) w ((w.alloc (.cells (bools (List.replicate n false)).toArray 4)).alloc (.cells #[.int .i64 (a : Int), .slice (some ⟨w.heap.size, 0, none⟩) n n] 53))) := Lib.hid (((Only.refl (fun _ => False) w).alloc _).alloc _)
  generalize (bools (List.replicate n false)).toArray = C at hmk HM HO
  go_enter Try.func9, Try.ntmps9
  go_upto_block 0 with fail
  obtain ⟨gs, hgs⟩ : ∃ gs, gs = w.heap.size := ⟨_, rfl⟩
  rw [← hgs] at HM HO ⊢
  have HGS := Lib.hid hgs
  generalize (w.alloc (.cells C 4)).alloc (.cells #[.int .i64 (a : Int), .slice (some ⟨gs, 0, none⟩) n n] 53) = w1 at *
  clear hmk hgs
  have hfl : flip (List.replicate n false) = setL (List.replicate n false) 0 n true := by
    simp [flip, setL]
  have HFL := Lib.hid hfl
  clear hfl
  have hn4 : (n : Int) ≤ 4096 := by omega
  go_wp2_with fail
  go_loopw [7] (fun i wr => ∃ k : Nat, k ≤ n ∧ i = .int .i64 k ∧ Hid (SpaceAt 53 wr (gs + 1) gs a (setL (List.replicate n false) 0 k true)) ∧ Hid (Only (fun _ => False) w wr)) (fun i _ => n - (intOf i).toNat)
  case atStart => exact ⟨0, Nat.zero_le _, rfl, Lib.hid (by rw [setL_zero]; exact HM.out), HO⟩
  case round =>
    obtain ⟨k, hk, rfl, HS, HOO⟩ := hrel
    have hlen : (setL (List.replicate n false) 0 k true).length = n := by rw [setL_length (by simp; omega)]; simp
    have hcN : wr.cell? ⟨gs + 1, 1, none⟩ = some (.slice (some ⟨gs, 0, none⟩) n n) := by have := HS.out.cell 1; rw [hlen] at this; exact this
    by_cases hlt : k < n
    · have hltI : (k : Int) < (n : Int) := by omega
      have hk0 : (0 : Int) ≤ (k : Int) := by omega
      have hc := HS.out.flag (j := k) (by omega)
      have hz := HS.out.free k
      have hn := HS.out.set k true
      have hs := setL_succ (l := List.replicate n false) (a := 0) (n := k) (by simp; omega) true
      rw [Nat.zero_add] at hs
      rw [hs] at hn
      have HNX := Lib.hid hn
      have HO2 : Hid (Only (fun _ => False) w (wr.setCell ⟨gs, k, none⟩ (.bool true))) := Lib.hid (HOO.out.setCell (p := ⟨gs, k, none⟩) (fun h => by have := HGS.out; simp at h; omega) _)
      generalize (setL (List.replicate n false) 0 k true).getD k false = u at *
      clear hn hs hlen HS HOO
      go_wp2_with fail
      go_roundw
      case rel => exact ⟨k + 1, by omega, by go_num, HNX, HO2⟩
      case measure => simp [intOf]; omega
    · obtain rfl : k = n := by omega
      clear hlen
      go_wp2_with fail
      go_ret2
      refine ⟨by rw [← HGS.out]; rfl, ?_, HOO.out⟩
      rw [HFL.out, ← HGS.out]
      exact HS.out

set_option maxHeartbeats 1000000 in
theorem ref_left {w : World} {p g a : Nat} {l : List Bool} (h : SpaceAt 53 w p g a (flip l)) :
    Calls Try.prog 18 #[.pointer (some ⟨p, 0, none⟩)] w fun e w' => e = .returned (.int .i64 (l.count false : Nat)) ∧ w = w' := by
  have hfit := h.fits
  have hc1 : w.cell? ⟨p, 1, none⟩ = some (.slice (some ⟨g, 0, none⟩) l.length l.length) := by have := h.cell 1; rw [flip_length] at this; exact this
  have H := Lib.hid h
  rw [flip_length] at hfit
  obtain ⟨n, hn⟩ : ∃ n, n = l.length := ⟨_, rfl⟩
  rw [← hn] at hc1 hfit
  have HN := Lib.hid hn
  clear h hn
  go_enter Try.func18, Try.ntmps18
  go_wp2_with fail
  go_loop [3, 4] (fun c i => ∃ k s : Nat, k ≤ n ∧ i = .int .i64 k ∧ c = .int .i64 s ∧ s ≤ k ∧ Hid (s = (l.take k).count false)) (fun _ i => n - (intOf i).toNat)
  case atStart => exact ⟨0, 0, Nat.zero_le _, rfl, rfl, Nat.le_refl _, Lib.hid (by simp)⟩
  case round =>
    obtain ⟨k, s, hk, rfl, rfl, hsk, HS⟩ := hrel
    by_cases hlt : k < n
    · have hltI : (k : Int) < (n : Int) := by omega
      have hk0 : (0 : Int) ≤ (k : Int) := by omega
      have hkl : k < l.length := by rw [← HN.out]; exact hlt
      have hc := H.out.flag (j := k) (by rw [flip_length]; exact hkl)
      have hfg : (flip l).getD k false = !(l.getD k false) := by simp [flip, List.getD_eq_getElem?_getD, hkl]
      rw [hfg] at hc
      have htk : l.take (k + 1) = l.take k ++ [l.getD k false] := by
        rw [List.take_succ_eq_append_getElem hkl]
        simp [List.getD_eq_getElem?_getD, hkl]
      have HT : Hid ((l.take (k + 1)).count false = s + if l.getD k false = false then 1 else 0) := Lib.hid (by rw [htk, List.count_append, ← HS.out]; cases l.getD k false <;> simp)
      clear hfg htk hkl HS
      cases hx : l.getD k false with
      | true =>
        rw [hx] at hc HT
        simp only [Bool.not_true] at hc
        clear hx
        go_wp2_with fail
        go_round
        case rel => exact ⟨k + 1, s, by omega, by go_num, rfl, by omega, Lib.hid (by rw [HT.out]; simp)⟩
        case measure => simp [intOf]; omega
      | false =>
        rw [hx] at hc HT
        simp only [Bool.not_false] at hc
        clear hx
        go_wp2_with fail
        go_round
        case rel => exact ⟨k + 1, s + 1, by omega, by go_num, by go_num, by omega, Lib.hid (by rw [HT.out]; simp)⟩
        case measure => simp [intOf]; omega
    · obtain rfl : k = n := by omega
      have HE : Hid (s = l.count false) := Lib.hid (by rw [HS.out, List.take_of_length_le (by rw [HN.out]; exact Nat.le_refl _)])
      go_wp2_with fail
      go_ret
      exact ⟨by rw [← HE.out]; rfl, rfl⟩

end Go.Proofs.Ytfclfmobmaemkaa
