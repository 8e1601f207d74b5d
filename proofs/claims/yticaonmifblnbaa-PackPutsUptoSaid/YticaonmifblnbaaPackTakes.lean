/-
  The walk of the statement PackTakes.
-/
import Derived.Test.YticaonmifblnbaaPackRaw
namespace Go.Proofs.Yticaonmifblnbaa
open Go Go.RowKit Go.Lib
set_option linter.unusedVariables false

theorem both_bad {w0 w : World} {p r : Nat} {ys : List UInt8} {bd : Bool} (h : Both w0 w p r ys bd) :
    Calls Try.prog 17 #[.pointer (some ⟨p, 0, none⟩)] w fun e w' => e = .returned (.bool bd) ∧ w = w' := by
  obtain ⟨v, hI⟩ := h.inn
  exact bad_any p bd w hI.cell1
theorem both_left {w0 w : World} {p r : Nat} {ys : List UInt8} {bd : Bool} (h : Both w0 w p r ys bd) :
    Calls Try.prog 18 #[.pointer (some ⟨p, 0, none⟩)] w fun e w' => e = .returned (.int .i64 ys.length) ∧ w = w' := by
  obtain ⟨v, hI⟩ := h.inn
  obtain ⟨ao, cap, rfl, _⟩ := hI.sl.shape
  exact left_any p ao ys.length cap w hI.cell0
theorem both_done {w0 w : World} {p r : Nat} {ys : List UInt8} {bd : Bool} (h : Both w0 w p r ys bd) :
    Calls Try.prog 20 #[.pointer (some ⟨p, 0, none⟩)] w fun e w' => e = .returned (.bool (!bd && ys.isEmpty)) ∧ w = w' := by
  obtain ⟨v, hI⟩ := h.inn
  exact inDone p v ys bd w hI
theorem both_rleft {w0 w : World} {p r : Nat} {ys : List UInt8} {bd : Bool} (h : Both w0 w p r ys bd) :
    Calls Try.prog 19 #[.pointer (some ⟨r, 0, none⟩)] w fun e w' => e = .returned (.int .i64 ys.length) ∧ ∃ n, w' = w.drewN n := by
  obtain ⟨v, bs, a, hR, rfl⟩ := h.ref
  refine (refLeft r v bs a bd w hR).mono ?_
  rintro e w' ⟨rfl, q, rfl⟩
  refine ⟨?_, q, rfl⟩
  have := hR.le
  rw [List.length_drop]
  congr 2
  omega
theorem both_rdone {w0 w : World} {p r : Nat} {ys : List UInt8} {bd : Bool} (h : Both w0 w p r ys bd) :
    Calls Try.prog 21 #[.pointer (some ⟨r, 0, none⟩)] w fun e w' => e = .returned (.bool (!bd && ys.isEmpty)) ∧ ∃ n, w' = w.drewN n := by
  obtain ⟨v, bs, a, hR, rfl⟩ := h.ref
  cases bd with
  | true =>
    refine (refDone_bad r v bs a w hR).mono ?_
    rintro e w' ⟨rfl, q, rfl⟩
    exact ⟨rfl, q, rfl⟩
  | false =>
    refine (refDone_good r v bs a w hR).mono ?_
    rintro e w' ⟨rfl, q, rfl⟩
    refine ⟨?_, q, rfl⟩
    have := hR.le
    congr 2
    rw [Bool.eq_iff_iff]
    simp
    omega
theorem both_rbad {w0 w : World} {p r : Nat} {ys : List UInt8} {bd : Bool} (h : Both w0 w p r ys bd) : w.cell? ⟨r, 2, none⟩ = some (.bool bd) := by
  obtain ⟨v, bs, a, hR, rfl⟩ := h.ref
  exact hR.cell2
theorem Both.quiet {w0 w w' : World} {p r : Nat} {ys : List UInt8} {bd : Bool} (h : Both w0 w p r ys bd) (ho : Only (fun _ => False) w w') : Both w0 w' p r ys bd := by
  obtain ⟨v, hI⟩ := h.inn
  exact ⟨⟨v, hI.keep ho (fun h => h) (fun _ _ _ h => h)⟩, h.ref.keep ho (fun h => h) (fun _ _ _ h => h), h.gp, h.gr, h.only.trans ho (fun _ _ h => h)⟩
theorem Both.drewN {w0 w : World} {p r : Nat} {ys : List UInt8} {bd : Bool} (h : Both w0 w p r ys bd) (n : Nat) : Both w0 (w.drewN n) p r ys bd := h.quiet (only_drewN _ w n)
theorem Both.drew {w0 w : World} {p r : Nat} {ys : List UInt8} {bd : Bool} (h : Both w0 w p r ys bd) : Both w0 w.drew p r ys bd := h.quiet ((Only.refl _ w).drew)

/-- To, and where the copy lies. -/
def ToFresh (w : World) (xs : List UInt8) (e : Ending) (w' : World) : Prop :=
  ∃ p v, e = .returned (.pointer (some ⟨p, 0, none⟩)) ∧ InV w' p v xs false ∧ w.heap.size ≤ p ∧ (∀ k, v.ownBlock = some k → w.heap.size ≤ k) ∧ Only (fun _ => False) w w'

set_option maxHeartbeats 400000 in
theorem to_fresh (v : Value) (xs : List UInt8) (w : World) (h : SlC w v xs) (hlen : xs.length ≤ 140737488355328) :
    Calls Try.prog 13 #[v] w (ToFresh w xs) := by
  have HC := Lib.hid h
  clear h
  go_enter Try.func13, Try.ntmps13
  go_wp2_with fail
  refine (clone_any v xs w HC.out hlen).mono ?_
  rintro e w1 ⟨r, rfl, hr, ho⟩
  obtain ⟨ao, cap, rfl⟩ := own_shape hr
  have HR := Lib.hid hr; clear hr
  have HO := Lib.hid ho; clear ho
  go_wp2
  go_ret
  exact ⟨w1.heap.size, _, rfl, ⟨heap_alloc_new w1 _, (own_toB HR.out).alloc _⟩, HO.out.size, fun k hk => (HR.out.lt k hk).1, HO.out.alloc _⟩

theorem SlB.off {w : World} {v : Value} {xs : List UInt8} (h : SlB w v xs) {g : Nat} (hne : v.ownBlock ≠ some g) (o : Nat) (u : Value) : SlB (w.setCell ⟨g, o, none⟩ u) v xs := by
  rcases h with h | ⟨g', off, cap, cur, rfl, h1, h2, h3, h4⟩
  · exact .inl h
  · refine .inr ⟨g', off, cap, cur, rfl, h1, h2, ?_, h4⟩
    rw [Below.heap_setCell _ _ _ _ (fun e => hne (by simp [Value.ownBlock]; exact e))]
    exact h3

/-- While the lent bytes are written over: their row, and the two Ins apart from it. -/
structure MInv (w0 wr : World) (g p r n : Nat) (xs : List UInt8) : Prop where
  row : ∃ cur, wr.heap[g]? = some (.cells cur 5 (0, 0)) ∧ n ≤ cur.size
  inn : ∃ v, InV wr p v xs false ∧ v.ownBlock ≠ some g
  ref : ∃ v, RefAt wr r v xs 0 false ∧ v.ownBlock ≠ some g
  gg : w0.heap.size ≤ g
  gp : w0.heap.size ≤ p
  gr : w0.heap.size ≤ r
  only : Only (fun _ => False) w0 wr

theorem MInv.both {w0 wr : World} {g p r n : Nat} {xs : List UInt8} (h : MInv w0 wr g p r n xs) : Both w0 wr p r xs false := by
  obtain ⟨v, hI, _⟩ := h.inn
  obtain ⟨v', hR, _⟩ := h.ref
  exact ⟨⟨v, hI⟩, ⟨v', xs, 0, hR, rfl⟩, h.gp, h.gr, h.only⟩

theorem MInv.cell {w0 wr : World} {g p r n : Nat} {xs : List UInt8} (h : MInv w0 wr g p r n xs) {k : Nat} (hk : k < n) : ∃ u, wr.cell? ⟨g, k, none⟩ = some u := by
  obtain ⟨cur, hc, hn⟩ := h.row
  refine ⟨cur[k]'(by omega), ?_⟩
  simp [World.cell?, hc, show k < cur.size by omega]
theorem MInv.free {w0 wr : World} {g p r n : Nat} {xs : List UInt8} (h : MInv w0 wr g p r n xs) (k : Nat) : wr.frozen? ⟨g, k, none⟩ = false := by
  obtain ⟨cur, hc, hn⟩ := h.row
  simp [World.frozen?, hc]

theorem MInv.store {w0 wr : World} {g p r n : Nat} {xs : List UInt8} (h : MInv w0 wr g p r n xs) (k : Nat) (u : Value) : MInv w0 (wr.setCell ⟨g, k, none⟩ u) g p r n xs := by
  obtain ⟨cur, hc, hn⟩ := h.row
  obtain ⟨v, hI, hv⟩ := h.inn
  obtain ⟨v', hR, hv'⟩ := h.ref
  have hp : p ≠ g := fun e => by have := hI.at'; rw [e, hc] at this; simp at this
  have hr : r ≠ g := fun e => by have := hR.cell; rw [e, hc] at this; simp at this
  refine ⟨⟨_, heap_set hc k u, by simpa using hn⟩, ⟨v, ⟨?_, hI.sl.off hv k u⟩, hv⟩, ⟨v', ⟨?_, hR.sl.off hv' k u, hR.le, hR.len⟩, hv'⟩, h.gg, h.gp, h.gr, h.only.none (Only.cell _ _ _ _) (fun k e => e ▸ h.gg)⟩
  · rw [Below.heap_setCell _ _ _ _ hp]; exact hI.at'
  · rw [Below.heap_setCell _ _ _ _ hr]; exact hR.cell

set_option maxRecDepth 100000 in
set_option maxHeartbeats 4000000 in
theorem takes_walk (vb : Value) (bs : List UInt8) (ao : Option Addr) (c : Nat) (ks : List Int) (w : World) (hb : SlC w vb bs) (hbl : bs.length + 2 ≤ 140737488355328) (hk : SlI w ao ks) (hkl : ks.length ≤ 140737488355328) :
    Calls Try.prog 4 #[vb, .slice ao ks.length c] w fun e w' => e = .returned (.bool true) ∧ Quiet w w' := by
  have HB := Lib.hid hb
  have HK := Lib.hid hk
  obtain ⟨bo, bc, rfl⟩ := hb.shape
  clear hb hk
  go_enter Try.func4, Try.ntmps4
  go_wp2_with fail
  refine (awake_any w).mono ?_
  rintro e w0 ⟨rfl, hq⟩
  have HO0 : Hid (Only (fun _ => False) w w0) := Lib.hid hq; clear hq
  go_wp2_with fail
  refine (lent_any _ bs w0 (HB.out.keep HO0.out) hbl).mono ?_
  rintro e w1 ⟨g, cap, rfl, hown, ho⟩
  have HO1 : Hid (Only (fun _ => False) w w1) := Lib.hid (HO0.out.trans ho (fun _ _ h => h))
  have HGG := Lib.hid (show w.heap.size ≤ g from Nat.le_trans HO0.out.size (hown.lt g rfl).1)
  have HGL := Lib.hid (show g < w1.heap.size from (hown.lt g rfl).2)
  have HOWN := Lib.hid hown
  have HM1 : Hid (SlC w1 (.slice (some ⟨g, 0, none⟩) bs.length cap) bs) := Lib.hid (.inr ⟨_, cap, rfl, fun j hj => by
    rw [add_lit, Nat.zero_add, hown.cellAt j (by omega), u8s_at (by simp; omega)]
    congr 3
    simp [List.getD_eq_getElem?_getD, List.getElem?_append, hj]⟩)
  clear ho HO0 hown
  go_wp2_with fail
  refine (to_fresh _ bs w1 HM1.out (by omega)).mono ?_
  rintro e w2 ⟨p, v2, rfl, hI, hp, hv, ho⟩
  have HO2 : Hid (Only (fun _ => False) w w2) := Lib.hid (HO1.out.trans ho (fun _ _ h => h))
  have HP := Lib.hid (show w.heap.size ≤ p from Nat.le_trans HO1.out.size hp)
  have HI := Lib.hid hI
  have HV : Hid (v2.ownBlock ≠ some g) := Lib.hid (fun e => by have := hv g e; have := HGL.out; omega)
  have HW2 := Lib.hid ho
  clear hI hp hv ho
  go_wp2_with fail
  refine (copy_any _ bs w2 (HB.out.keep HO2.out) (by omega)).mono ?_
  rintro e w3 ⟨vr, rfl, hr, ho⟩
  obtain ⟨ro, rc, rfl⟩ := own_shape hr
  have HR := Lib.hid hr
  have HW3 := Lib.hid ho
  clear hr ho
  have HA : Hid (Only (fun _ => False) w3 (w3.alloc (.cells #[.slice ro bs.length rc, .int .i64 0, .bool false] 36))) := Lib.hid ((Only.refl _ w3).alloc _)
  have HOW : Hid (World.ownsRow (w3.alloc (.cells #[.slice ro bs.length rc, .int .i64 0, .bool false] 36)) w0.heap.size 5 1 (.slice (some ⟨g, 0, none⟩) (bs.length + 2) cap) (bs.length + 2) (u8s (bs ++ [71, 72]))) :=
    Lib.hid (own_keep HOWN.out ((HW2.out.trans HW3.out (fun _ _ h => h)).trans HA.out (fun _ _ h => h)))
  have HMI : Hid (MInv w (w3.alloc (.cells #[.slice ro bs.length rc, .int .i64 0, .bool false] 36)) g p w3.heap.size bs.length bs) := by
    refine Lib.hid ⟨?_, ⟨v2, (HI.out.keep HW3.out (fun h => h) (fun _ _ _ h => h)).keep HA.out (fun h => h) (fun _ _ _ h => h), HV.out⟩, ⟨_, ⟨heap_alloc_new w3 _, (own_toB HR.out).alloc _, Nat.zero_le _, by omega⟩, fun e => ?_⟩, HGG.out, HP.out, ?_, (HO2.out.trans HW3.out (fun _ _ h => h)).trans HA.out (fun _ _ h => h)⟩
    · rcases HOW.out.2 with ⟨hv, _⟩ | ⟨g', cap', cur, hv, _, hg, hc, _, hs, _⟩
      · simp at hv
      · simp only [Value.slice.injEq, Option.some.injEq, Addr.mk.injEq, and_true] at hv
        obtain ⟨rfl, _, rfl⟩ := hv
        exact ⟨cur, hg, by omega⟩
    · have h1 := (HR.out.lt g e).1
      have h2 := HGL.out
      have h3 := HW2.out.size
      omega
    · have h1 := HO2.out.size
      have h2 := HW3.out.size
      omega
  go_wp2_with fail
  refine (kept_any w0.heap.size g cap _ bs _ HOW.out (HB.out.keep ((HO2.out.trans HW3.out (fun _ _ h => h)).trans HA.out (fun _ _ h => h))) hbl).mono ?_
  rintro e w4 ⟨rfl, rfl⟩
  obtain ⟨w4, hw4⟩ : ∃ w4, w4 = w3.alloc (.cells #[.slice ro bs.length rc, .int .i64 0, .bool false] 36) := ⟨_, rfl⟩
  rw [← hw4] at HMI ⊢
  obtain ⟨r, hr⟩ : ∃ r, r = w3.heap.size := ⟨_, rfl⟩
  rw [← hr] at HMI ⊢
  clear hw4 hr HOW HA HOWN HM1 HI HV HW2 HW3 HR HO1 HO2 HGL HGG HP
  go_wp2_with fail
  go_loopw [8] (fun i wr => ∃ k : Nat, k ≤ bs.length ∧ i = .int .i64 k ∧ Hid (MInv w wr g p r bs.length bs)) (fun i _ => bs.length - (intOf i).toNat)
  case atStart => exact ⟨0, Nat.zero_le _, rfl, HMI⟩
  case round =>
    obtain ⟨k, hk, rfl, HS⟩ := hrel
    clear HMI
    by_cases hlt : k < bs.length
    · obtain ⟨u, hc⟩ := HS.out.cell hlt
      have hf := HS.out.free k
      have HN := Lib.hid (HS.out.store k (.int .u8 255))
      clear HS
      go_wp2
      go_roundw
      case rel => exact ⟨k + 1, by omega, by go_num, HN⟩
      case measure => simp [intOf]; omega
    · have HBo := Lib.hid HS.out.both
      clear HS
      go_wp2_with fail
      go_loopw [9] (fun i wq => ∃ (j : Nat) (ys : List UInt8) (bd : Bool), j ≤ ks.length ∧ i = .int .i64 j ∧ Hid (Both w wq p r ys bd)) (fun i _ => ks.length - (intOf i).toNat)
      case atStart => exact ⟨0, bs, false, Nat.zero_le _, rfl, HBo⟩
      case round =>
        obtain ⟨j, ys, bd, hj, rfl, HQ⟩ := hrel
        clear HBo
        by_cases hltj : j < ks.length
        · obtain ⟨g2, off, rfl, hcell⟩ := HK.out j hltj
          have hc : wr.cell? ⟨g2, off + j, none⟩ = some (.int .i64 (ks.getD j 0)) := HQ.out.only.cellq hcell
          obtain ⟨z, hz⟩ : ∃ z, z = ks.getD j 0 := ⟨_, rfl⟩
          rw [← hz] at hc
          clear hcell hz
          clear HB HK
          go_upto_region 15 with fail
          go_cut [73] (fun s73 wx => s73 = .bool false ∧ ∃ ys bd, Hid (Both w wx p r ys bd))
          case first =>
            have HQd := Lib.hid HQ.out.drew
            go_region_with (first
              | (go_at_call 16; (with_reducible refine (take_any w p r z ys bd _ HQd.out).mono ?_); rintro e wa ⟨rfl, za, ba, ha⟩; have HA := Lib.hid ha; have hcb := both_rbad ha; clear ha)
              | (go_at_call 17; (with_reducible refine (both_bad HA.out).mono ?_); rintro e wb ⟨rfl, rfl⟩)
              | (go_at_call 18; (with_reducible refine (both_left HA.out).mono ?_); rintro e wb ⟨rfl, rfl⟩)
              | (go_at_call 19; (with_reducible refine (both_rleft HA.out).mono ?_); rintro e wb ⟨rfl, q1, rfl⟩; have HA2 := Lib.hid (HA.out.drewN q1))
              | (go_at_call 20; (with_reducible refine (both_done HA2.out).mono ?_); rintro e wb ⟨rfl, rfl⟩)
              | (go_at_call 21; (with_reducible refine (both_rdone HA2.out).mono ?_); rintro e wb ⟨rfl, q2, rfl⟩; have HA3 := Lib.hid (HA.out.drewN (q1 + q2))))
            all_goals
              go_wp2
              go_meet
              exact ⟨rfl, _, _, HA3⟩
          case rest =>
            obtain ⟨rfl, ys', bd', HQ'⟩ := hcut
            clear HQ hc
            go_wp2
            go_roundw
            case rel => exact ⟨j + 1, ys', bd', by omega, by go_num, HQ'⟩
            case measure => simp [intOf]; omega
        · go_wp2_with fail
          refine (both_done HQ.out).mono ?_
          rintro e wb ⟨rfl, rfl⟩
          go_wp2_with fail
          refine (both_rdone HQ.out).mono ?_
          rintro e wb ⟨rfl, q2, rfl⟩
          have HF := Lib.hid (HQ.out.drewN q2).only
          clear HQ
          go_wp2
          go_ret
          exact ⟨rfl, HF.out⟩

end Go.Proofs.Yticaonmifblnbaa
