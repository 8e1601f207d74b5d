/-
  Drop: slices.Index over the places, and the place is taken out.
-/
import Derived.Test.YtjmelhmjcbliaaaPoD
import Derived.LaidEqlPtr
namespace Go.Proofs.Ytjmelhmjcbliaaa
open Go Go.RowKit
set_option linter.unusedVariables false
set_option linter.unusedSimpArgs false
set_option maxRecDepth 100000

theorem Own.poK {w0 w : World} {p bb mb : Nat} {ro : Option Addr} {rc : Nat} {D : DataW Value} {L Z : List Pb} {st : Po} {J : Res} (hm : PoM D L st) (h : Own w0 w (PoO p bb mb ro rc D L Z st J)) {i j : Nat} (hi : i < L.length) (hj : j < L.length) (e : (L.getD i default).k = (L.getD j default).k) : i = j := by
  unfold PoO at h
  have h1 := (h.snd.snd.snd.plAt (i := i) (by rw [List.length_append]; omega)).blk5c.1.1
  have h2 := (h.snd.snd.snd.plAt (i := j) (by rw [List.length_append]; omega)).blk5c.1.1
  rw [getD_left hi] at h1
  rw [getD_left hj] at h2
  rw [e, h2] at h1
  have h3 : (L.getD j default).v.id = (L.getD i default).v.id := by simpa using h1
  have hnd := hm.ok.nd
  rw [hm.ids] at hnd
  have hli : i < (L.map (·.v.id)).length := by rw [List.length_map]; exact hi
  have hlj : j < (L.map (·.v.id)).length := by rw [List.length_map]; exact hj
  refine (List.getElem_inj (h₀ := hli) (h₁ := hlj) hnd).1 ?_
  rw [List.getElem_map, List.getElem_map]
  rw [List.getD_eq_getElem?_getD, List.getD_eq_getElem?_getD, List.getElem?_eq_getElem hi, List.getElem?_eq_getElem hj] at h3
  exact h3.symm
set_option maxHeartbeats 4000000 in
theorem pix_any {w0 w : World} {p bb mb : Nat} {ro : Option Addr} {rc : Nat} {D : DataW Value} {L Z : List Pb} {st : Po} {J : Res} [Stab J] (hm : PoM D L st) (h : Own w0 w (PoO p bb mb ro rc D L Z st J)) (i : Nat) (hi : i < L.length) (hl : L.length ≤ 1000000000) :
    Calls Try.prog 42 #[.slice ro L.length rc, ptr (L.getD i default).k] w (fun e w' => e = .returned (.int .i64 (i : Int)) ∧ w = w') := by
  have HM := Lib.hid hm
  have HO := Lib.hid h
  obtain ⟨n, hn⟩ : ∃ n, L.length = n := ⟨_, rfl⟩
  have HN := Lib.hid hn
  rw [hn] at hi hl ⊢
  obtain ⟨xk, hxk⟩ : ∃ k, (L.getD i default).k = k := ⟨_, rfl⟩
  have HK := Lib.hid hxk
  rw [hxk]
  clear hm h hn hxk
  go_enter Try.func42, Try.ntmps42
  go_wp2_with fail
  go_loopw [8] (fun v wr => ∃ j : Nat, j ≤ i ∧ v = .int .i64 (j : Int) ∧ w = wr) (fun v _ => n - (intOf v).toNat)
  case atStart => exact ⟨0, Nat.zero_le _, rfl, by trivial⟩
  case round =>
    obtain ⟨j, hj, rfl, rfl⟩ := hrel
    have hjn : j < n := by omega
    have hjI : (j : Int) < (n : Int) := by omega
    have hj0 : (0 : Int) ≤ (j : Int) := by omega
    have h0 := HO.out
    unfold PoO at h0
    obtain ⟨g, rfl⟩ := own_addr h0.swap (by rw [HN.out]; omega)
    obtain ⟨g2, off, e2, r1⟩ := h0.swap.rowSlg.pb (j := j) (by rw [HN.out]; exact hjn)
    simp only [Option.some.injEq, Addr.mk.injEq, and_true] at e2
    obtain ⟨rfl, rfl⟩ := e2
    rw [Nat.zero_add] at r1
    have b1 := (h0.snd.snd.snd.plAt (i := i) (by rw [List.length_append, HN.out]; omega)).blkT
    have b2 := (h0.snd.snd.snd.plAt (i := j) (by rw [List.length_append, HN.out]; omega)).blkT
    rw [getD_left (by rw [HN.out]; exact hi)] at b1
    rw [getD_left (by rw [HN.out]; exact hjn)] at b2
    rw [HK.out] at b1
    obtain ⟨yk, hyk⟩ : ∃ k, (L.getD j default).k = k := ⟨_, rfl⟩
    rw [hyk] at r1 b2
    obtain ⟨i0, hi0, hi1⟩ : ∃ i0, Try.prog.info? 71 = some i0 ∧ i0.size = 5 := by
      obtain ⟨i0, h1, h2⟩ := Option.map_eq_some_iff.1 (show (Try.prog.info? 71).map (fun i => i.size) = some 5 by kernel_rfl)
      exact ⟨i0, h1, h2⟩
    by_cases hji : j = i
    · subst hji
      have hxy : yk = xk := hyk.symm.trans HK.out
      subst hxy
      have hcmp := run_eql_ptr_same w (⟨yk, 0, none⟩ : Addr) Try.underlying67 hi0
      clear hyk h0 b1 b2 hi1 hi0
      go_wp2_with fail
      go_ret
      exact ⟨rfl, by trivial⟩
    · have hne : ¬ xk = yk := fun e => hji (HO.out.poK HM.out (by rw [HN.out]; exact hi) (by rw [HN.out]; exact hjn) (HK.out.trans (e.trans hyk.symm))).symm
      have hcmp := run_eql_ptr_other w (a := ⟨xk, 0, none⟩) (b := ⟨yk, 0, none⟩) Try.underlying67 hi0 (by rw [hi1]; decide) (fun e => hne (by injection e)) b1 b2
      clear hyk h0 b1 b2 hi1 hi0 hne
      go_wp2_with fail
      go_roundw
      case rel => exact ⟨j + 1, by omega, by go_num, by trivial⟩
      case measure => simp [intOf]; omega
theorem drop_none {st : Po} {id : Int} (h : st.ix id = none) : st.drop id = st := by unfold Po.drop; rw [h]
theorem drop_some {st : Po} {id : Int} {i : Nat} (h : st.ix id = some i) : st.drop id = st.out i := by unfold Po.drop; rw [h]
def DropPost (w0 w' : World) (p bb : Nat) (st : Po) (id : Int) (J : Res) (e : Ending) : Prop := ∃ L' Z', e = .returned (.tuple #[]) ∧ Own w0 w' (Sep (PoR p bb L' Z' (st.drop id)) J)
set_option maxHeartbeats 4000000 in
theorem pdrop_any {w0 w : World} {p bb : Nat} {L Z : List Pb} {st : Po} {J : Res} [Stab J] (h : Own w0 w (Sep (PoR p bb L Z st) J)) (id : Int) (h0 : 0 ≤ id) (h1 : id < 18446744073709551616) (hl : L.length ≤ 1000000000) :
    Calls Try.prog 17 #[ptr p, .int .u64 id] w (fun e w' => DropPost w0 w' p bb st id J e) := by
  have HS := Lib.hid h
  have HR := Lib.hid (⟨h0, h1⟩ : 0 ≤ id ∧ id < 18446744073709551616)
  obtain ⟨mb, ro, rc, D, hm, hs, h4⟩ := h.openPo
  have HPO : Hid (Own w0 w (PoO p bb mb ro rc D L Z st J)) := Lib.hid h4
  unfold poc at h4
  have HMP := Lib.hid h4.snd.snd.map
  have c3 := h4.blk5c.1.2.2.2.1
  have c2 := h4.blk5c.1.2.2.1
  cases hix : st.ix id with
  | some i =>
    obtain ⟨l1, l2, hil⟩ := hm.look_some h0 h1 hix
    have hx := pix_any hm HPO.out i hil hl
    have ho := pout_any h i hil hl
    obtain ⟨xk, hxk⟩ : ∃ k, (L.getD i default).k = k := ⟨_, rfl⟩
    rw [hxk] at l1 hx
    obtain ⟨n, hn⟩ : ∃ n, L.length = n := ⟨_, rfl⟩
    rw [hn] at hx c2
    have HG := Lib.hid (drop_some hix)
    have HL1 := Lib.hid l1
    have HL2 := Lib.hid l2
    have HX := Lib.hid hx
    have HOU := Lib.hid ho
    clear h h0 h1 hix hm hs h4 l1 l2 hil hxk hx ho hl hn
    go_enter Try.func17, Try.ntmps17
    go_wp2_with (first | (at_lookup; refine look_pl rfl _ _ rfl mb D rfl HMP.out id rfl HR.out.1 HR.out.2 (ptr xk) true HL1.out HL2.out ?_) | (go_at_call 42; refine HX.out.mono ?_; rintro e w2 ⟨rfl, rfl⟩))
    refine HOU.out.mono ?_
    rintro e w2 ⟨rfl, hown⟩
    have HO := Lib.hid hown
    clear HOU HX hown c3 c2 HMP HS HPO
    go_wp2_with fail
    refine ⟨rfl, _, results_none rfl _ _ _, ?_⟩
    refine ⟨L.eraseIdx i, L.getD i default :: Z, rfl, ?_⟩
    rw [HG.out]
    exact HO.out
  | none =>
    obtain ⟨l1, l2⟩ := hm.look_none h0 h1 hix
    have HG := Lib.hid (drop_none hix)
    have HL1 := Lib.hid l1
    have HL2 := Lib.hid l2
    clear h h0 h1 hix hm hs h4 l1 l2 hl
    go_enter Try.func17, Try.ntmps17
    go_wp2_with (at_lookup; refine look_pl rfl _ _ rfl mb D rfl HMP.out id rfl HR.out.1 HR.out.2 (.pointer none) false HL1.out HL2.out ?_)
    refine ⟨rfl, _, results_none rfl _ _ _, ?_⟩
    refine ⟨L, Z, rfl, ?_⟩
    rw [HG.out]
    exact HS.out

end Go.Proofs.Ytjmelhmjcbliaaa
