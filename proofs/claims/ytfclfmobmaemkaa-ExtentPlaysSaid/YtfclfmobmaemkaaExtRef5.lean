/-
  The reference's space: Holes; the statements' same.
-/
import Derived.Test.YtfclfmobmaemkaaExtRef4
namespace Go.Proofs.Ytfclfmobmaemkaa
open Go Go.RowKit
set_option linter.unusedVariables false
set_option linter.unusedSimpArgs false
set_option maxRecDepth 100000

theorem Try.infoRH : (Try.prog.info? 58).map (fun i => (i.zero, i.size)) = some (some (.agg #[.int .i64 0, .int .i64 0]), 2) := by kernel_rfl
theorem Try.infoRH3 : (Try.prog.info? 58).map (fun i => (i.zero, i.size, i.bytes)) = some (some (.agg #[.int .i64 0, .int .i64 0]), 2, 16) := by kernel_rfl
abbrev RHolesR (v : Value) (hs : List (Nat × Nat)) : Res := RowV 58 2 v hs.length (hcells hs)
theorem rhole_cells {w0 w : World} {e : TypeId} {ao : Option Addr} {n cap : Nat} {hs : List (Nat × Nat)} {J : Res} (h : Own w0 w (Sep (RowV e 2 (.slice ao n cap) n (hcells hs)) J)) {k : Nat} (hk : k < hs.length) :
    ∃ g, ao = some ⟨g, 0, none⟩ ∧ w.cell? ⟨g, k * 2, none⟩ = some (.int .i64 ((hs.getD k (0, 0)).1 : Int)) ∧ w.cell? ⟨g, k * 2 + 1, none⟩ = some (.int .i64 ((hs.getD k (0, 0)).2 : Int)) ∧ w.frozen? ⟨g, k * 2 + 1, none⟩ = false ∧ w.frozen? ⟨g, k * 2, none⟩ = false ∧ n ≤ cap := by
  obtain ⟨h1, h2⟩ := hcells_at hk
  obtain ⟨g, rfl, c1, f1, hle⟩ := rowV_cell h.owns h1
  obtain ⟨g', e, c2, f2, _⟩ := rowV_cell h.owns h2
  simp at e
  subst e
  exact ⟨g, rfl, c1, c2, f2, f1, hle⟩
theorem take_snocB {l : List Bool} {i : Nat} (h : i < l.length) : l.take (i + 1) = l.take i ++ [l.getD i false] := by
  rw [List.take_succ_eq_append_getElem h]
  simp [List.getD_eq_getElem?_getD, h]
theorem last_take {l : List Bool} {i : Nat} (h : i < l.length) : (l.take (i + 1)).getLast? = some (l.getD i false) := by
  rw [take_snocB h]
  simp

set_option maxRecDepth 100000 in
set_option maxHeartbeats 4000000 in
theorem xown_rholes {w0 w : World} {p a : Nat} {l : List Bool} {J : Res} [Stab J] (h : Own w0 w (Sep (SpR 53 p a (flip l)) J)) :
    Calls Try.prog 20 #[.pointer (some ⟨p, 0, none⟩)] w fun e w' => ∃ v, e = .returned v ∧ Own w0 w' (Sep (RHolesR v (hol a l)) (Sep (SpR 53 p a (flip l)) J)) := by
  have hfit : a + l.length ≤ 4096 := by obtain ⟨g, hS⟩ := h.space; have := hS.fits; rwa [flip_length] at this
  obtain ⟨N, hN⟩ : ∃ N, N = l.length := ⟨_, rfl⟩
  rw [← hN] at hfit
  have HN := Lib.hid hN
  have H0 : Hid (Own w0 w (Sep (RHolesR (.slice none 0 0) (hol a (l.take 0))) (Sep (SpR 53 p a (flip l)) J))) := Lib.hid (h.row_nil 58 2)
  clear h hN
  go_enter Try.func20, Try.ntmps20
  go_wp2_with fail
  go_loopw [3, 4] (fun ov iv wr => ∃ i : Nat, i ≤ N ∧ iv = .int .i64 i ∧ Hid (Own w0 wr (Sep (RHolesR ov (hol a (l.take i))) (Sep (SpR 53 p a (flip l)) J)))) (fun _ iv _ => N - (intOf iv).toNat)
  case atStart => exact ⟨0, Nat.zero_le _, rfl, H0⟩
  case round =>
    clear H0
    obtain ⟨i, hi, rfl, HQ⟩ := hrel
    obtain ⟨oo, oc, rfl⟩ := own_shapeN HQ.out.owns
    obtain ⟨g, hS⟩ := HQ.out.snd.space
    have hc1 : wr.cell? ⟨p, 1, none⟩ = some (.slice (some ⟨g, 0, none⟩) N N) := by have := hS.cell 1; rw [flip_length, ← HN.out] at this; exact this
    have hc0 : wr.cell? ⟨p, 0, none⟩ = some (.int .i64 (a : Int)) := hS.cell 0
    have HS := Lib.hid hS
    clear hS
    by_cases hlt : i < N
    · have hltI : (i : Int) < (N : Int) := by omega
      have hi0 : (0 : Int) ≤ (i : Int) := by omega
      have hil : i < l.length := by rw [← HN.out]; exact hlt
      have flag : ∀ j, j < N → wr.cell? ⟨g, j, none⟩ = some (.bool (!(l.getD j false))) := fun j hj => by
        have h1 : j < l.length := by rw [← HN.out]; exact hj
        have := HS.out.flag (j := j) (by rw [flip_length]; exact h1)
        rwa [show (flip l).getD j false = !(l.getD j false) by simp [flip, List.getD_eq_getElem?_getD, h1]] at this
      have hc := flag i hlt
      have htk := take_snocB hil
      have hlen : (hol a (l.take i)).length ≤ 4096 := by
        have := hol_length a (l.take i)
        simp at this
        omega
      obtain ⟨m, hm⟩ : ∃ m, m = (hol a (l.take i)).length := ⟨_, rfl⟩
      rw [← hm] at hlen ⊢
      have HM := Lib.hid hm
      have HQ : Hid (Own w0 wr (Sep (RowV 58 2 (.slice oo m oc) m (hcells (hol a (l.take i)))) (Sep (SpR 53 p a (flip l)) J))) := Lib.hid (by rw [hm]; exact HQ.out)
      clear hm
      cases hx : l.getD i false with
      | true =>
        rw [hx] at hc htk
        simp only [Bool.not_true] at hc
        have HR : Hid (Own w0 wr (Sep (RHolesR (.slice oo m oc) (hol a (l.take (i + 1)))) (Sep (SpR 53 p a (flip l)) J))) := Lib.hid (by rw [htk, hol_snoc_taken]; have := HQ.out; rw [HM.out] at this ⊢; exact this)
        clear hx htk flag hil HQ
        go_wp2_with fail
        go_roundw
        case rel => exact ⟨i + 1, by omega, by go_num, HR⟩
        case measure => simp [intOf]; omega
      | false =>
        rw [hx] at hc htk
        simp only [Bool.not_false] at hc
        by_cases hmore : (l.take i).getLast? = some false
        · -- one longer
          have hi1 : 0 < i := by
            rcases Nat.eq_zero_or_pos i with rfl | h
            · simp at hmore
            · exact h
          obtain ⟨i1, rfl⟩ : ∃ i1, i = i1 + 1 := ⟨i - 1, by omega⟩
          have hprev : l.getD i1 false = false := by
            rw [last_take (by omega)] at hmore
            simpa using hmore
          have hcp := flag i1 (by omega)
          rw [hprev] at hcp
          simp only [Bool.not_false] at hcp
          have hne := hol_ne a hmore
          obtain ⟨c, hcm⟩ : ∃ c, m = c + 1 := ⟨m - 1, by
            have := List.length_pos_iff.2 hne
            have := HM.out
            omega⟩
          have hlc : (hol a (l.take (i1 + 1))).length = c + 1 := by rw [← HM.out]; exact hcm
          obtain ⟨gb, rfl, k0, k1, f1, _, hcap⟩ := rhole_cells HQ.out (k := c) (by omega)
          have hbd := hol_bounds a (l.take (i1 + 1)) ((hol a (l.take (i1 + 1))).getD c (0, 0)) (by
            have hcl : c < (hol a (l.take (i1 + 1))).length := by omega
            rw [show (hol a (l.take (i1 + 1))).getD c (0, 0) = (hol a (l.take (i1 + 1)))[c] by simp [List.getD_eq_getElem?_getD, hcl]]
            exact List.getElem_mem hcl)
          have hx2 : ((hol a (l.take (i1 + 1))).getD c (0, 0)).2 ≤ 4096 := by
            have h3 := hbd.2.2
            simp at h3 ⊢
            omega
          have hset := HQ.out.row_set (j := c * 2 + 1) (by rw [hcells_length]; omega) (.int .i64 ((((hol a (l.take (i1 + 1))).getD c (0, 0)).2 : Int) + 1))
          rw [← hcells_bump hlc, ← hol_snoc_more a _ hmore, ← htk] at hset
          have HL2 : Hid ((hol a (l.take (i1 + 1 + 1))).length = m) := Lib.hid (by rw [htk, hol_snoc_more a _ hmore, bump_length hne, HM.out])
          have HB := Lib.hid hset
          generalize ((hol a (l.take (i1 + 1))).getD c (0, 0)).2 = u at *
          have hcI : (m : Int) - 1 = (c : Int) := by omega
          have hc00 : (0 : Int) ≤ (c : Int) := by omega
          have hcmI : (c : Int) < (m : Int) := by omega
          have hi1I : decide ((0 : Int) < ((i1 + 1 : Nat) : Int)) = true := by simp
          have hidx : ((i1 + 1 : Nat) : Int) - 1 = (i1 : Int) := by omega
          have hi1N : (i1 : Int) < (N : Int) := by omega
          have hi10 : (0 : Int) ≤ (i1 : Int) := by omega
          have hm1 : 1 ≤ m := by omega
          clear hx htk flag hil HQ hmore hprev hne hlc hbd hset hcm hi1
          go_wp2_with fail
          go_roundw
          case rel => exact ⟨i1 + 1 + 1, by omega, by go_num, Lib.hid (by have := HB.out; show Own w0 _ (Sep (RowV _ 2 _ (hol a (l.take (i1 + 1 + 1))).length _) _); rw [HL2.out]; exact this)⟩
          case measure => simp [intOf]; omega
        · -- a new one
          have hcase : i = 0 ∨ ∃ i1, i = i1 + 1 ∧ l.getD i1 false = true := by
            rcases Nat.eq_zero_or_pos i with h | h
            · exact .inl h
            · obtain ⟨i1, rfl⟩ : ∃ i1, i = i1 + 1 := ⟨i - 1, by omega⟩
              refine .inr ⟨i1, rfl, ?_⟩
              rw [last_take (by omega)] at hmore
              simpa using hmore
          rcases hcase with hz | ⟨i1, hz, hprev⟩
          · have hi0f : ¬ (0 : Int) < (i : Int) := by omega
            have hi0d : decide ((0 : Int) < (i : Int)) = false := decide_eq_false hi0f
            clear hz flag
            as_aux_lemma =>
              have hIH : Hid (hol a (l.take (i + 1)) = hol a (l.take i) ++ [(a + i, 1)]) := Lib.hid (by
                rw [htk, hol_snoc_new a _ hmore]
                congr 3
                simp
                omega)
              have hbs := fun w => run_buildSlice_one (P := Try.prog) w 40 58 _ 2 Try.underlying40 Try.infoRH rfl (by decide) (by decide) #[.int .i64 ((a : Int) + (i : Int)), .int .i64 1] rfl
              obtain ⟨i0, hi0', hz0, hz1, hz2⟩ := info_parts Try.infoRH3
              have HRW := Lib.hid (HQ.out.owns.alloc (.cells #[.int .i64 ((a : Int) + (i : Int)), .int .i64 1] 58))
              have HA := Lib.hid ((HQ.out.alloc (.cells #[.int .i64 ((a : Int) + (i : Int)), .int .i64 1] 58)).swap.imp fun F hF => hF)
              clear hx htk hil HQ hmore
              go_wp2_with (first | (at_builtin; refine wpList_append_lies _ rfl (.tmp 44) (.tmp 52) 40 rfl 0 58 i0 _ 2 16 Try.underlying40 hi0' hz0 hz1 hz2 rfl (by decide) (.slice oo m oc) m (hcells (hol a (l.take i))) rfl HRW.out ⟨wr.heap.size, 0, none⟩ 1 1 [.int .i64 ((a : Int) + (i : Int)), .int .i64 1] rfl rfl (World.news_of_block (heap_alloc_new wr _)) ?_ Nat.zero_lt_one ?_ ?_ (Nat.zero_le _) (wr.heap.size + 1) ?_ ?_))
              · exact ⟨rfl, rfl⟩
              · unfold maxLen; omega
              · omega
              intro g5 cap5 w5 hown hgrow hat hlt5
              have h5 := HA.out.appended hown hgrow (hat.imp (fun h => h) (fun h => by simp; omega))
              have H6 : Hid (Own w0 w5 (Sep (RHolesR (.slice (some ⟨g5, 0, none⟩) (m + 1) cap5) (hol a (l.take (i + 1)))) (Sep (SpR 53 p a (flip l)) J))) := Lib.hid (by
                have h6 := h5.swap.snd
                rw [hIH.out, RHolesR, hcells_append, List.length_append, ← HM.out]
                have e : (hcells [(a + i, 1)]) = [.int .i64 ((a : Int) + (i : Int)), .int .i64 1] := by simp [hcells]
                rw [e]
                exact h6)
              clear hown hgrow hat hlt5 h5 HA HRW hbs
              go_wp2_with fail
              go_roundw
              case rel => exact ⟨i + 1, by omega, by go_num, H6⟩
              case measure => simp [intOf]; omega
          · have hcp := flag i1 (by omega)
            rw [hprev] at hcp
            simp only [Bool.not_true] at hcp
            have hi1I : decide ((0 : Int) < (i : Int)) = true := by simp; omega
            have hidx : (i : Int) - 1 = (i1 : Int) := by omega
            have hi1N : (i1 : Int) < (N : Int) := by omega
            have hi10 : (0 : Int) ≤ (i1 : Int) := by omega
            have hi1 : 1 ≤ i := by omega
            clear hz hprev flag
            as_aux_lemma =>
              have hIH : Hid (hol a (l.take (i + 1)) = hol a (l.take i) ++ [(a + i, 1)]) := Lib.hid (by
                rw [htk, hol_snoc_new a _ hmore]
                congr 3
                simp
                omega)
              have hbs := fun w => run_buildSlice_one (P := Try.prog) w 40 58 _ 2 Try.underlying40 Try.infoRH rfl (by decide) (by decide) #[.int .i64 ((a : Int) + (i : Int)), .int .i64 1] rfl
              obtain ⟨i0, hi0', hz0, hz1, hz2⟩ := info_parts Try.infoRH3
              have HRW := Lib.hid (HQ.out.owns.alloc (.cells #[.int .i64 ((a : Int) + (i : Int)), .int .i64 1] 58))
              have HA := Lib.hid ((HQ.out.alloc (.cells #[.int .i64 ((a : Int) + (i : Int)), .int .i64 1] 58)).swap.imp fun F hF => hF)
              clear hx htk hil HQ hmore
              go_wp2_with (first | (at_builtin; refine wpList_append_lies _ rfl (.tmp 44) (.tmp 52) 40 rfl 0 58 i0 _ 2 16 Try.underlying40 hi0' hz0 hz1 hz2 rfl (by decide) (.slice oo m oc) m (hcells (hol a (l.take i))) rfl HRW.out ⟨wr.heap.size, 0, none⟩ 1 1 [.int .i64 ((a : Int) + (i : Int)), .int .i64 1] rfl rfl (World.news_of_block (heap_alloc_new wr _)) ?_ Nat.zero_lt_one ?_ ?_ (Nat.zero_le _) (wr.heap.size + 1) ?_ ?_))
              · intro u hu
                rcases List.mem_cons.1 hu with rfl | hu
                · rfl
                · rw [List.mem_singleton.1 hu]; rfl
              · unfold maxLen; omega
              · omega
              · simp
              intro g5 cap5 w5 hown hgrow hat hlt5
              have h5 := HA.out.appended hown hgrow (hat.imp (fun h => h) (fun h => by simp; omega))
              have H6 : Hid (Own w0 w5 (Sep (RHolesR (.slice (some ⟨g5, 0, none⟩) (m + 1) cap5) (hol a (l.take (i + 1)))) (Sep (SpR 53 p a (flip l)) J))) := Lib.hid (by
                have h6 := h5.swap.snd
                rw [hIH.out, RHolesR, hcells_append, List.length_append, ← HM.out]
                have e : (hcells [(a + i, 1)]) = [.int .i64 ((a : Int) + (i : Int)), .int .i64 1] := by simp [hcells]
                rw [e]
                exact h6)
              clear hown hgrow hat hlt5 h5 HA HRW hbs
              go_wp2_with fail
              go_roundw
              case rel => exact ⟨i + 1, by omega, by go_num, H6⟩
              case measure => simp [intOf]; omega
    · obtain rfl : i = N := by omega
      have HR : Hid (Own w0 wr (Sep (RHolesR (.slice oo (hol a (l.take i)).length oc) (hol a l)) (Sep (SpR 53 p a (flip l)) J))) := Lib.hid (by
        have := HQ.out
        rw [List.take_of_length_le (by rw [HN.out]; exact Nat.le_refl _)] at this ⊢
        exact this)
      go_wp2_with fail
      go_ret
      exact ⟨_, rfl, HR.out⟩

end Go.Proofs.Ytfclfmobmaemkaa
