/-
  Package pool: Dirty (of few places), Clean.
-/
import Derived.Test.YtjmelhmjcbliaaaPoSort
import Derived.Test.YtjmelhmjcbliaaaPoPut
namespace Go.Proofs.Ytjmelhmjcbliaaa
open Go Go.RowKit
set_option linter.unusedVariables false
set_option linter.unusedSimpArgs false
set_option maxRecDepth 100000

set_option maxHeartbeats 4000000 in
theorem pdq_any {w0 w : World} {ao : Option Addr} {n c : Nat} {l : List Int} {J : Res} [Stab J] (h : Own w0 w (Sep (RowG 34 (.slice ao n c) l) J)) (hn : l.length = n) (h12 : n ≤ 12) (lim : Int) :
    Calls Try.prog 51 #[.slice ao n c, .int .i64 0, .int .i64 (n : Int), .int .i64 lim] w fun e w' => e = .returned (.tuple #[]) ∧ ∃ l', l'.Perm l ∧ Own w0 w' (Sep (RowG 34 (.slice ao n c) l') J) := by
  have hi := ins_any h hn h12
  have HI := Lib.hid hi
  have hnI : (n : Int) ≤ 12 := by omega
  have hw : wrap64 (n : Int) = (n : Int) := IntWalk.wrap64_in _ ⟨by omega, by omega⟩
  clear h hi
  go_enter Try.func51, Try.ntmps51
  go_wp2_with fail
  go_loopw [1, 2] (fun u v wr => u = .int .i64 0 ∧ v = .int .i64 (n : Int) ∧ w = wr) (fun _ _ wr => 0)
  case atStart => exact ⟨rfl, rfl, rfl⟩
  case round =>
    obtain ⟨rfl, rfl, rfl⟩ := hrel
    go_wp2_with fail
    refine HI.out.mono ?_
    rintro e w2 ⟨rfl, ho⟩
    have HO := Lib.hid ho
    clear ho
    go_wp2_with fail
    (try simp only [Exit.inBlock, Exit.then])
    refine bodyPost_ret (results_none rfl _ _ _) rfl ?_
    exact ⟨rfl, HO.out⟩
set_option maxHeartbeats 4000000 in
theorem sort_any {w0 w : World} {ao : Option Addr} {n c : Nat} {l : List Int} {J : Res} [Stab J] (h : Own w0 w (Sep (RowG 34 (.slice ao n c) l) J)) (hn : l.length = n) (h12 : n ≤ 12) :
    Calls Try.prog 47 #[.slice ao n c] w fun e w' => e = .returned (.tuple #[]) ∧ ∃ l', l'.Perm l ∧ Own w0 w' (Sep (RowG 34 (.slice ao n c) l') J) := by
  have HB := Lib.hid (bits_len n h12 w)
  have HP := Lib.hid (fun lim => pdq_any h hn h12 lim)
  have hu : IntKind.u64.wrap (n : Int) = (n : Int) := by rw [wrapU]; unfold wu; omega
  clear h
  go_enter Try.func47, Try.ntmps47
  go_wp2_with fail
  refine HB.out.mono ?_
  rintro e w2 ⟨⟨r, rfl⟩, rfl⟩
  go_wp2_with fail
  refine (HP.out r).mono ?_
  rintro e w2 ⟨rfl, ho⟩
  have HO := Lib.hid ho
  clear ho
  go_wp2_with fail
  go_end0
  exact ⟨rfl, HO.out⟩

/-! ### Dirty -/
def dirtyL (L : List Pb) : List Int := (L.filter (·.v.d)).map (·.v.id)
theorem dirtyL_next {L : List Pb} {k : Nat} (h : k < L.length) : dirtyL (L.take (k + 1)) = if (L.getD k default).v.d then dirtyL (L.take k) ++ [(L.getD k default).v.id] else dirtyL (L.take k) := by
  have e : L.take (k + 1) = L.take k ++ [L.getD k default] := by
    rw [List.take_succ_eq_append_getElem h]
    simp [h]
  unfold dirtyL
  rw [e, List.filter_append]
  cases hd : (L.getD k default).v.d with
  | true => rw [if_pos rfl, List.filter_cons_of_pos (by simpa using hd)]; simp
  | false => rw [if_neg (by simp), List.filter_cons_of_neg (by simpa using hd)]; simp
theorem PoM.dirty {D : DataW Value} {L : List Pb} {st : Po} (h : PoM D L st) : dirtyL L = st.dirty := by
  unfold dirtyL Po.dirty
  rw [← h.v, List.filter_map, List.map_map]
  rfl
def DirtyPost (w0 w' : World) (p bb : Nat) (L Z : List Pb) (st : Po) (J : Res) (e : Ending) : Prop :=
  ∃ ao c l', e = .returned (.slice ao l'.length c) ∧ l'.Perm st.dirty ∧ Own w0 w' (Sep (RowG 34 (.slice ao l'.length c) l') (Sep (PoR p bb L Z st) J))
/-- A pool that is opened. -/
def PoO (p bb mb : Nat) (ro : Option Addr) (rc : Nat) (D : DataW Value) (L Z : List Pb) (st : Po) (J : Res) : Res := Sep (Blk p (.cells (poc bb mb ro rc L st) 66)) (Sep (RowG 67 (.slice ro L.length rc) L) (Sep (MapR mb D) (Sep (PlsR (L ++ Z)) (Sep (Fix (BytesOk (L ++ Z))) (Sep (BkR bb st.bk) J)))))
instance {p bb mb : Nat} {ro : Option Addr} {rc : Nat} {D : DataW Value} {L Z : List Pb} {st : Po} {J : Res} [Stab J] : Stab (PoO p bb mb ro rc D L Z st J) := by unfold PoO; infer_instance
theorem Own.poO_row {w0 w : World} {p bb mb : Nat} {ro : Option Addr} {rc : Nat} {D : DataW Value} {L Z : List Pb} {st : Po} {I J : Res} (h : Own w0 w (Sep I (PoO p bb mb ro rc D L Z st J))) {k : Nat} (hk : k < L.length) :
    ∃ g, ro = some ⟨g, 0, none⟩ ∧ w.cell? ⟨g, k, none⟩ = some (ptr (L.getD k default).k) ∧ w.cell? ⟨(L.getD k default).k, 0, none⟩ = some (.int .u64 (L.getD k default).v.id) ∧ w.cell? ⟨(L.getD k default).k, 2, none⟩ = some (.bool (L.getD k default).v.d) := by
  unfold PoO at h
  have h1 := h.snd
  obtain ⟨g, rfl⟩ := own_addr h1.swap (by omega)
  obtain ⟨g2, off, e2, e3⟩ := h1.swap.rowSlg.pb hk
  simp only [Option.some.injEq, Addr.mk.injEq, and_true] at e2
  obtain ⟨rfl, rfl⟩ := e2
  rw [Nat.zero_add] at e3
  have h2 := (h1.snd.snd.snd.plAt (i := k) (by rw [List.length_append]; omega)).blk5c.1
  rw [getD_left hk] at h2
  exact ⟨g, rfl, e3, h2.1, h2.2.2.1⟩
set_option maxHeartbeats 4000000 in
theorem pdirty_any {w0 w : World} {p bb : Nat} {L Z : List Pb} {st : Po} {J : Res} [Stab J] (h : Own w0 w (Sep (PoR p bb L Z st) J)) (h12 : L.length ≤ 12) :
    Calls Try.prog 28 #[ptr p] w (fun e w' => DirtyPost w0 w' p bb L Z st J e) := by
  obtain ⟨mb, ro, rc, D, hm, hs, h1⟩ := h.openPo
  obtain ⟨n, hn⟩ : ∃ n, L.length = n := ⟨_, rfl⟩
  have h12' : n ≤ 12 := by omega
  have HD : Hid (dirtyL L = st.dirty) := Lib.hid hm.dirty
  have HN := Lib.hid hn
  have HM := Lib.hid hm
  have HSH := Lib.hid hs
  have h1' : Own w0 w (PoO p bb mb ro rc D L Z st J) := h1
  have H0 : Hid (Own w0 w (Sep (RowG 34 (.slice none 0 0) ([] : List Int)) (PoO p bb mb ro rc D L Z st J))) := Lib.hid (h1'.rnil (α := Int) 34)
  unfold poc at h1
  rw [hn] at h1
  have c2 := h1.blk5c.1.2.2.1
  clear h hm hs h1 hn h12 h1'
  go_enter Try.func28, Try.ntmps28
  go_wp2_with fail
  clear c2
  go_loopw [3, 13] (fun u v wr => ∃ (k : Nat) (ao : Option Addr) (m c : Nat), k ≤ n ∧ v = .int .i64 (k : Int) ∧ u = .slice ao m c ∧ m ≤ 12 ∧ Hid ((dirtyL (L.take k)).length = m ∧ m ≤ k ∧ Own w0 wr (Sep (RowG 34 (.slice ao m c) (dirtyL (L.take k))) (PoO p bb mb ro rc D L Z st J)))) (fun _ v _ => n - (intOf v).toNat)
  case atStart => exact ⟨0, none, 0, 0, Nat.zero_le _, rfl, rfl, by omega, Lib.hid ⟨rfl, Nat.le_refl _, H0.out⟩⟩
  case round =>
    clear H0
    obtain ⟨k, ao, m, c, hk, rfl, rfl, hm12, HX⟩ := hrel
    by_cases hlt : k < n
    · have hltI : (k : Int) < (n : Int) := by omega
      have hk0 : (0 : Int) ≤ (k : Int) := by omega
      have hnx := dirtyL_next (L := L) (k := k) (by rw [HN.out]; exact hlt)
      obtain ⟨g, rfl, r1, r2, r3⟩ := HX.out.2.2.poO_row (k := k) (by rw [HN.out]; exact hlt)
      obtain ⟨x, hx⟩ : ∃ x, L.getD k default = x := ⟨_, rfl⟩
      rw [hx] at r1 r2 r3 hnx
      obtain ⟨xk, xo, xc, xv⟩ := x
      obtain ⟨xi, xb, xd, xp, xu⟩ := xv
      dsimp only at r1 r2 r3 hnx
      have HLT := Lib.hid hlt
      cases xd with
      | false =>
        rw [if_neg (by simp)] at hnx
        have HNX := Lib.hid hnx
        clear hnx hx
        go_wp2_with fail
        go_roundw
        case rel => exact ⟨k + 1, ao, m, c, by omega, by go_num, rfl, hm12, Lib.hid ⟨by rw [HNX.out]; exact HX.out.1, by have := HX.out.2.1; omega, by rw [HNX.out]; exact HX.out.2.2⟩⟩
        case measure => simp [intOf]; omega
      | true =>
        rw [if_pos rfl] at hnx
        have HNX := Lib.hid hnx
        have HML := Lib.hid HX.out.1
        have HMK := Lib.hid HX.out.2.1
        have HO := Lib.hid HX.out.2.2
        clear hnx hx HX
        go_wp2_with (at_builtin; refine own_appendG elNu HO.out xi 1 (by rw [HML.out]; omega) (by rw [HML.out]; omega) rfl _ _ rfl (by first | rfl | simp [Act.eval]) #[.int .u64 xi] rfl (by first | rfl | simp [Act.eval]) ?_)
        intro g3 cap3 n3 w8 hn3 hown
        have hm3 : n3 = m + 1 := by have h1 := hn3.out; rw [← HML.out]; (try simp only [List.length_append, List.length_singleton] at h1); omega
        rw [← HNX.out] at hown
        have HO2 := Lib.hid hown.out
        have HM3 := Lib.hid hm3
        clear hn3 hown HO hm3
        go_wp2_with fail
        go_roundw
        case rel => exact ⟨k + 1, some ⟨g3, 0, none⟩, n3, cap3, by omega, by go_num, rfl, by have h1 := HM3.out; have h2 := HMK.out; have h3 := HLT.out; omega, Lib.hid ⟨by rw [HNX.out, List.length_append, HML.out, HM3.out]; rfl, by have h1 := HM3.out; have h2 := HMK.out; omega, HO2.out⟩⟩
        case measure => simp [intOf]; omega
    · obtain rfl : k = n := by omega
      have hfull : L.take k = L := by rw [← HN.out]; exact List.take_length
      have hX := HX.out
      rw [hfull] at hX
      have HML := Lib.hid hX.1
      have hsrt := sort_any hX.2.2 hX.1 hm12
      have HSR := Lib.hid hsrt
      clear HX hX hsrt hfull
      go_wp2_with fail
      refine HSR.out.mono ?_
      rintro e w2 ⟨rfl, l', hp, ho⟩
      have HO := Lib.hid ho
      have HP := Lib.hid hp
      clear HSR ho hp
      go_wp2_with fail
      go_ret
      have hl : l'.length = m := by rw [HP.out.length_eq, HML.out]
      have h5 : Own w0 w2 (Sep (PoR p bb L Z st) (Sep (RowG 34 (.slice ao m c) l') J)) := by
        have h6 := HO.out
        unfold PoO at h6
        exact Own.shutPo HM.out HSH.out (h6.ac (by ac_rfl))
      refine ⟨ao, c, l', by rw [hl]; rfl, by rw [← HD.out]; exact HP.out, ?_⟩
      rw [hl]
      exact h5.swap

/-! ### Clean -/
theorem clean_none {st : Po} {id : Int} (h : st.ix id = none) : st.clean id = (st, 5) := by unfold Po.clean; rw [h]
theorem clean_some {st : Po} {id : Int} {i : Nat} (h : st.ix id = some i) : st.clean id = ((st.save i).1, if (st.save i).2 then 0 else 3) := by unfold Po.clean; rw [h]
def CleanPost (w0 w' : World) (p bb : Nat) (Z : List Pb) (st : Po) (id : Int) (J : Res) (e : Ending) : Prop :=
  ∃ L', e = .returned (.int .i64 (st.clean id).2) ∧ Own w0 w' (Sep (PoR p bb L' Z (st.clean id).1) J)
set_option maxHeartbeats 4000000 in
theorem pclean_any {w0 w : World} {p bb : Nat} {L Z : List Pb} {st : Po} {J : Res} [Stab J] (h : Own w0 w (Sep (PoR p bb L Z st) J)) (id : Int) (h0 : 0 ≤ id) (h1 : id < 18446744073709551616) (hB : PoB st) :
    Calls Try.prog 24 #[ptr p, .int .u64 id] w (fun e w' => CleanPost w0 w' p bb Z st id J e) := by
  have HS := Lib.hid h
  have HR := Lib.hid (⟨h0, h1⟩ : 0 ≤ id ∧ id < 18446744073709551616)
  obtain ⟨mb, ro, rc, D, hm, hs, h4⟩ := h.openPo
  unfold poc at h4
  have HMP := Lib.hid h4.snd.snd.map
  have c3 := h4.blk5c.1.2.2.2.1
  cases hix : st.ix id with
  | some i =>
    obtain ⟨l1, l2, hil⟩ := hm.look_some h0 h1 hix
    have hsv := psave_any h i hil (by have := hB.q; omega) (by have := hB.b; omega)
    obtain ⟨xk, hxk⟩ : ∃ k, (L.getD i default).k = k := ⟨_, rfl⟩
    rw [hxk] at l1 hsv
    have HG := Lib.hid (clean_some hix)
    have HL1 := Lib.hid l1
    have HL2 := Lib.hid l2
    have HSV := Lib.hid hsv
    clear h h0 h1 hB hix hm hs h4 l1 l2 hil hxk hsv
    go_enter Try.func24, Try.ntmps24
    go_wp2_with (at_lookup; refine look_pl rfl _ _ rfl mb D rfl HMP.out id rfl HR.out.1 HR.out.2 (ptr xk) true HL1.out HL2.out ?_)
    refine HSV.out.mono ?_
    rintro e w2 ⟨x, rfl, _, _, _, _, _, hown⟩
    have HO := Lib.hid hown
    obtain ⟨E, hE⟩ : ∃ E : Int, (if (st.save i).2 = true then 0 else 3) = E := ⟨_, rfl⟩
    rw [hE]
    rw [hE] at HG
    clear HSV hown c3 HMP HS hE
    go_wp2_with fail
    go_ret
    refine ⟨L.set i x, by rw [HG.out]; rfl, ?_⟩
    rw [HG.out]
    exact HO.out
  | none =>
    obtain ⟨l1, l2⟩ := hm.look_none h0 h1 hix
    have HG := Lib.hid (clean_none hix)
    have HL1 := Lib.hid l1
    have HL2 := Lib.hid l2
    clear h h0 h1 hB hix hm hs h4 l1 l2
    go_enter Try.func24, Try.ntmps24
    go_wp2_with (at_lookup; refine look_pl rfl _ _ rfl mb D rfl HMP.out id rfl HR.out.1 HR.out.2 (.pointer none) false HL1.out HL2.out ?_)
    go_ret
    refine ⟨L, by rw [HG.out]; rfl, ?_⟩
    rw [HG.out]
    exact HS.out

end Go.Proofs.Ytjmelhmjcbliaaa
