/-
  Contracts of package extent: New; each, which gives the holes one by one.
-/
import Derived.Test.YtfclfmobmaemkaaExt2
import Derived.Test.YtfclfmobmaemkaaRange
namespace Go.Proofs.Ytfclfmobmaemkaa
open Go Go.RowKit
set_option linter.unusedVariables false
set_option linter.unusedSimpArgs false
set_option maxRecDepth 100000
attribute [local go_sem] Oper.semAt_some

theorem made_bools (n : Nat) : madeCells #[Value.bool false] (n * 1) = (bools (List.replicate n false)).toArray := by
  apply Array.ext_getElem?
  intro j
  by_cases h : j < n
  · have h1 : j % 1 = 0 := Nat.mod_one j
    simp [madeCells, bools, h, h1]
  · simp [madeCells, bools, h]
theorem run_make_bools (n : Nat) (hn : n ≤ 4096) (w : World) : (Instr.makeSlice 46 (.int .i64 (n : Int)) (.int .i64 (n : Int))).run Try.prog w =
    .ok (.slice (some ⟨w.heap.size, 0, none⟩) n n) (w.alloc (.cells (bools (List.replicate n false)).toArray 4)) := by
  have h0 : (Try.prog.info? 4).map (fun i => (i.zero, i.size, i.bytes)) = some (some (.bool false), 1, 1) := by kernel_rfl
  obtain ⟨i, hi, hz, hs, hb⟩ := info_parts h0
  have := run_make (P := Try.prog) w 46 4 i (.bool false) Try.underlying46 hi hz .i64 .i64 (n : Int) (n : Int) (by omega) (Int.le_refl _) (by rw [hb]; omega) (by omega)
  rw [this]
  simp only [Int.toNat_natCast, hs, Value.cells, made_bools]

theorem space_made {t : TypeId} {w : World} {a n : Nat} {C : Array Value} (hC : C = (bools (List.replicate n false)).toArray) (hfit : a + n ≤ 4096) :
    SpaceAt t ((w.alloc (.cells C 4)).alloc (.cells #[.int .i64 (a : Int), .slice (some ⟨w.heap.size, 0, none⟩) n n] t)) (w.heap.size + 1) w.heap.size a (List.replicate n false) := by
  subst hC
  have h1 := heap_alloc_new w (.cells (bools (List.replicate n false)).toArray 4)
  have h2 := fun o => heap_alloc_new (w.alloc (.cells (bools (List.replicate n false)).toArray 4)) o
  rw [World.size_alloc] at h2
  refine ⟨?_, ?_, by simpa using hfit, by omega⟩
  · rw [h2]; simp
  · rw [Below.heap_alloc _ _ _ (by simp)]; exact h1

set_option maxHeartbeats 400000 in
theorem ext_new_bad (x y : Int) (w : World) (h : x < 0 ∨ y < x ∨ 4096 < y) :
    Calls Try.prog 8 #[.int .i64 x, .int .i64 y] w fun e w' => e = .returned (.tuple #[.pointer none, .int .i64 1]) ∧ w = w' := by
  by_cases h1 : x < 0
  · have h1d : decide (x < 0) = true := decide_eq_true h1
    clear h
    go_enter Try.func8, Try.ntmps8
    go_wp2
    go_ret2
    exact ⟨rfl, rfl⟩
  · have h1d : decide (x < 0) = false := decide_eq_false h1
    by_cases h2 : y < x
    · have h2d : decide (y < x) = true := decide_eq_true h2
      clear h
      go_enter Try.func8, Try.ntmps8
      go_wp2
      go_ret2
      exact ⟨rfl, rfl⟩
    · have h2d : decide (y < x) = false := decide_eq_false h2
      have h3 : 4096 < y := by omega
      have h3d : decide (4096 < y) = true := decide_eq_true h3
      clear h
      go_enter Try.func8, Try.ntmps8
      go_wp2
      go_ret2
      exact ⟨rfl, rfl⟩

set_option maxHeartbeats 400000 in
theorem ext_new (a n : Nat) (y : Int) (hy : y = (a : Int) + n) (w : World) (hfit : a + n ≤ 4096) :
    Calls Try.prog 8 #[.int .i64 a, .int .i64 y] w fun e w' => e = .returned (.tuple #[.pointer (some ⟨w.heap.size + 1, 0, none⟩), .int .i64 0]) ∧ SpaceAt 51 w' (w.heap.size + 1) w.heap.size a (List.replicate n false) ∧ Only (fun _ => False) w w' := by
  have h1 : ¬ (a : Int) < 0 := by omega
  have h2 : ¬ y < a := by omega
  have h3 : ¬ 4096 < y := by omega
  have e1 : IntKind.i64.wrap (y - a) = n := by rw [IntWalk.i64_in _ (by omega)]; omega
  have e2 : y - a = n := by omega
  clear hy
  have hmk := run_make_bools n (by omega)
  have HM := Lib.hid (space_made (t := 51) (w := w) (a := a) (n := n) rfl hfit)
  generalize (bools (List.replicate n false)).toArray = C at hmk HM
  go_enter Try.func8, Try.ntmps8
  go_wp2
  go_ret2
  exact ⟨rfl, HM.out, ((Only.refl (fun _ => False) w).alloc _).alloc _⟩

set_option maxHeartbeats 400000 in
theorem each_nil (w : World) (y : Value) :
    Calls Try.prog 21 #[.pointer none, y] w fun e w' => e = .returned (.tuple #[]) ∧ w = w' := by
  go_enter Try.func21, Try.ntmps21
  go_wp2
  exact bodyPost_ret (results_none rfl _ _ _) rfl ⟨rfl, rfl⟩

def encH (h : Nat × Nat) : Value := .agg #[.int .i64 (h.1 : Int), .int .i64 (h.2 : Int)]

set_option maxRecDepth 100000 in
set_option maxHeartbeats 2000000 in
theorem each_gives (n p a : Nat) (l : List Bool) : Gives Try.prog n 21 #[.pointer (some ⟨p, 0, none⟩)] encH (fun W => ∃ g, SpaceAt 51 W p g a l) (hol a l) := by
  intro ly J Jx W hRd hY h0
  refine (callsIn_wide (n := n + 1)).1 ?_
  have HRd := Lib.hid hRd
  have HY := Lib.hid hY
  obtain ⟨m, hm⟩ : ∃ m, m = l.length := ⟨_, rfl⟩
  have HM := Lib.hid hm
  have H0 := Lib.hid h0
  clear hRd hY hm h0
  refine callsIn_of_wp Try.func21 rfl trivial ?_ rfl
  simp only [Try.ntmps21, List.size_toArray, List.length_cons, List.length_nil, Nat.reduceAdd, Nat.reduceSub, Array.replicate_succ, Array.replicate_zero, List.push_toArray, List.append_toArray, List.nil_append, List.cons_append]
  gi_wp2
  gi_loopw [4] (fun i wr => ∃ k : Nat, k ≤ m ∧ i = .int .i64 k ∧ Hid (∃ pre, hol a l = pre ++ hol (a + k) (l.drop k) ∧ J pre wr)) (fun i _ => m - (intOf i).toNat)
  case atStart => exact ⟨0, Nat.zero_le _, rfl, Lib.hid ⟨[], by simp, H0.out⟩⟩
  case round =>
    obtain ⟨k, hk, rfl, HJ⟩ := hrel
    obtain ⟨pre, hpre, hj⟩ := HJ.out
    obtain ⟨g, hS⟩ := HRd.out pre wr hj
    have hc1 : wr.cell? ⟨p, 1, none⟩ = some (.slice (some ⟨g, 0, none⟩) m m) := by rw [HM.out]; exact hS.cell 1
    have hc0 : wr.cell? ⟨p, 0, none⟩ = some (.int .i64 (a : Int)) := hS.cell 0
    have HS := Lib.hid hS
    have HP := Lib.hid hpre
    have HJJ := Lib.hid hj
    clear hS hpre hj HJ
    by_cases hlt : k < m
    · have hkl : k < l.length := by rw [← HM.out]; exact hlt
      have hcx := HS.out.flag hkl
      have hdr : l.drop k = l.getD k false :: l.drop (k + 1) := by
        rw [List.drop_eq_getElem_cons hkl]
        simp [List.getD_eq_getElem?_getD, hkl]
      have hfit := HS.out.fits
      have hfl := HS.out.flags k (l.length - k) (by omega)
      rw [List.take_of_length_le (by simp)] at hfl
      have hal := alike_any (cap := m - k) (b := l.getD k false) (l := l.drop (k + 1)) (by rw [← hdr]; exact hfl) (by rw [← hdr]; simp; omega)
      have hrun := hol_run (a + k) (l.getD k false) (l.drop (k + 1))
      rw [← hdr] at hal hrun
      have hlen : (l.drop k).length = m - k := by rw [List.length_drop, HM.out]
      rw [hlen] at hal
      have hr1 : 1 ≤ runLen (l.getD k false) (l.drop k) := by rw [hdr]; simp [runLen]
      have hr2 := runLen_le (l.getD k false) (l.drop k)
      rw [hlen] at hr2
      rw [List.drop_drop] at hrun
      rw [← HM.out] at hfit
      obtain ⟨r, hr⟩ : ∃ r, r = runLen (l.getD k false) (l.drop k) := ⟨_, rfl⟩
      rw [← hr] at hal hrun hr1 hr2
      obtain ⟨b, hb⟩ : ∃ b, b = l.getD k false := ⟨_, rfl⟩
      rw [← hb] at hcx hrun
      have HA := Lib.hid hal
      have HR := Lib.hid hrun
      clear hal hrun hr hb hdr hfl hlen hkl
      cases b with
      | true =>
        have HR1 : Hid (hol a l = pre ++ hol (a + (k + r)) (l.drop (k + r))) := Lib.hid (by rw [HP.out, HR.out, Nat.add_assoc]; rfl)
        gi_wp2_with (refine ⟨trivial, ?_⟩; gi_at_call 26; refine (callsIn_wide.2 HA.out).mono ?_; rintro e w' ⟨rfl, rfl⟩)
        refine ⟨fun _ h => (by cases h), ?_⟩
        gi_wp2
        go_roundw
        case rel => exact ⟨k + r, by omega, by go_num, Lib.hid ⟨pre, HR1.out, HJJ.out⟩⟩
        case measure => simp [intOf]; omega
      | false =>
        have HR2 : Hid (hol (a + k) (l.drop k) = (a + k, r) :: hol (a + k + r) (l.drop (k + r))) := Lib.hid (by rw [HR.out]; rfl)
        have HP2 : Hid (hol a l = (pre ++ [(a + k, r)]) ++ hol (a + (k + r)) (l.drop (k + r))) := Lib.hid (by rw [HP.out, HR2.out, Nat.add_assoc]; simp)
        obtain ⟨fn, tmps, assign, body, hy, hRd⟩ := HY.out pre (a + k, r) wr HJJ.out ⟨_, HP2.out.symm⟩
        have hy' : (Instr.yield ly #[.agg #[.int .i64 ((a : Int) + (k : Int)), .int .i64 (r : Int)]]).run Try.prog wr = .ok (.round ly fn tmps assign body) wr := by
          rw [← hy]; simp [encH]
        have HRR := Lib.hid hRd
        clear hy hRd
        gi_wp2_with (refine ⟨trivial, ?_⟩; gi_at_call 26; refine (callsIn_wide.2 HA.out).mono ?_; rintro e w' ⟨rfl, rfl⟩)
        refine HRR.out.mono ?_
        rintro e W3 (⟨rfl, hJ3⟩ | ⟨rfl, hJx3⟩)
        · have HJ3 := Lib.hid hJ3
          clear hJ3
          gi_wp2
          go_roundw
          case rel => exact ⟨k + r, by omega, by go_num, Lib.hid ⟨_, HP2.out, HJ3.out⟩⟩
          case measure => simp [intOf]; omega
        · have HJ3 := Lib.hid hJx3
          clear hJx3
          gi_wp2
          refine bodyPost_ret (results_none rfl _ _ _) rfl ?_
          exact ⟨⟨_, rfl⟩, .inr ⟨_, ⟨_, HP2.out.symm⟩, HJ3.out⟩⟩
    · obtain rfl : k = m := by omega
      gi_wp2
      go_end0
      refine ⟨⟨_, rfl⟩, .inl ?_⟩
      have e : hol a l = pre := by
        rw [HP.out, List.drop_of_length_le (by rw [HM.out]; exact Nat.le_refl _)]
        simp [hol]
      rw [e]
      exact HJJ.out

end Go.Proofs.Ytfclfmobmaemkaa
