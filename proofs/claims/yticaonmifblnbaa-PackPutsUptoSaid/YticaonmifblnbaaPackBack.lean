/-
  The walk of the statement PackBack.
-/
import Derived.Test.YticaonmifblnbaaPackArg
import Derived.Test.YticaonmifblnbaaPackNil
import Derived.Deep.RegionHeld3
namespace Go.Proofs.Yticaonmifblnbaa
open Go Go.RowKit Go.Lib
set_option linter.unusedVariables false

/-- What the statement puts of one piece. -/
def txB (s : ByteArray) : List UInt8 := if s.size < 65536 then txtB s.data.toList else []
def pieceB (p : Pt) : List UInt8 := beB 8 p.N ++ (beB 1 (p.N % 256) ++ (flagB (p.N % 2 == 1) ++ txB p.S))
def allB (ps : List Pt) : List UInt8 := ps.flatMap pieceB

theorem flagB_length (b : Bool) : (flagB b).length = 1 := by cases b <;> rfl
theorem txtB_length (l : List UInt8) : (txtB l).length = 2 + l.length := by simp [txtB, beB_length]
theorem txB_length (s : ByteArray) : (txB s).length ≤ 2 + s.size := by
  unfold txB
  split
  · rw [txtB_length, Array.length_toList]; exact Nat.le_refl _
  · simp
theorem pieceB_length (p : Pt) : (pieceB p).length ≤ 12 + p.S.size := by
  have := txB_length p.S
  simp [pieceB, beB_length, flagB_length]
  omega
theorem tot_append (a b : List Pt) : tot (a ++ b) = tot a + tot b := by simp only [tot, List.map_append, List.sum_append]
theorem tot_cons (p : Pt) (b : List Pt) : tot (p :: b) = p.S.size + 1 + tot b := by simp only [tot, List.map_cons, List.sum_cons]
theorem allB_append (a b : List Pt) : allB (a ++ b) = allB a ++ allB b := by simp only [allB, List.flatMap_append]
theorem allB_cons (p : Pt) (b : List Pt) : allB (p :: b) = pieceB p ++ allB b := by simp only [allB, List.flatMap_cons]
theorem getD_at (ps : List Pt) {k : Nat} (hk : k < ps.length) : ps.getD k default = ps[k] := by simp [hk]
theorem allB_length (ps : List Pt) : (allB ps).length ≤ 12 * tot ps := by
  induction ps with
  | nil => simp [allB]
  | cons p ps ih =>
    have := pieceB_length p
    rw [allB_cons, tot_cons, List.length_append]
    omega
theorem tot_take (ps : List Pt) (k : Nat) : tot (ps.take k) ≤ tot ps := by
  have h := tot_append (ps.take k) (ps.drop k)
  rw [List.take_append_drop] at h
  omega
theorem allB_take (ps : List Pt) {k : Nat} (hk : k < ps.length) : allB (ps.take (k + 1)) = allB (ps.take k) ++ pieceB (ps.getD k default) := by
  rw [List.take_succ_eq_append_getElem hk, allB_append, allB_cons, getD_at ps hk]
  simp only [allB, List.flatMap_nil, List.append_nil]
theorem allB_drop (ps : List Pt) {k : Nat} (hk : k < ps.length) : allB (ps.drop k) = pieceB (ps.getD k default) ++ allB (ps.drop (k + 1)) := by
  rw [List.drop_eq_getElem_cons hk, allB_cons, getD_at ps hk]
theorem size_tot (ps : List Pt) {k : Nat} (hk : k < ps.length) : (ps.getD k default).S.size ≤ tot ps := by
  have h := tot_take ps (k + 1)
  rw [List.take_succ_eq_append_getElem hk, tot_append, tot_cons] at h
  rw [getD_at ps hk]
  omega
theorem length_tot (ps : List Pt) : ps.length ≤ tot ps := by
  induction ps with
  | nil => simp
  | cons p ps ih => rw [tot_cons, List.length_cons]; omega
theorem len_at (ps : List Pt) (k : Nat) (h : tot ps ≤ 1048576) : (allB (ps.take k)).length ≤ 12582912 := by
  have h1 := allB_length (ps.take k)
  have h2 := tot_take ps k
  omega

theorem odd_eq (x : Nat) : ((x : Int) % 2 == 1) = (x % 2 == 1) := by rw [Bool.eq_iff_iff]; simp; omega

set_option maxRecDepth 100000 in
set_option maxHeartbeats 16000000 in
theorem back_walk (ao : Option Addr) (c : Nat) (ps : List Pt) (s : ByteArray) (w : World) (hp : SlP w ao ps) (ht : tot ps ≤ 1048576) :
    Calls Try.prog 5 #[.slice ao ps.length c, .string s] w fun e w' => e = .returned (.bool true) ∧ Quiet w w' := by
  have hpl := length_tot ps
  have HP := Lib.hid hp; clear hp
  go_enter Try.func5, Try.ntmps5
  go_wp2_with fail
  refine (awake_any w).mono ?_
  rintro e w0 ⟨rfl, hq⟩
  have HG0 := Lib.hid (OutG.new (w0 := w) (w := w0) hq); clear hq
  go_wp2_with fail
  go_loopw [6] (fun i wr => ∃ k : Nat, k ≤ ps.length ∧ i = .int .i64 k ∧ Hid (OutG w wr w0.heap.size (allB (ps.take k)))) (fun i _ => ps.length - (intOf i).toNat)
  case atStart => exact ⟨0, Nat.zero_le _, rfl, HG0⟩
  case round =>
    obtain ⟨k, hk, rfl, HG⟩ := hrel
    clear HG0
    by_cases hlt : k < ps.length
    · obtain ⟨g, off, rfl, c1, c2, c3, hN⟩ := HP.out k hlt
      clear c1
      have hS := size_tot ps hlt
      have hL := len_at ps k ht
      obtain ⟨x, hx⟩ : ∃ x, x = (ps.getD k default).N := ⟨_, rfl⟩
      obtain ⟨t, hT⟩ : ∃ t, t = (ps.getD k default).S := ⟨_, rfl⟩
      rw [← hx] at c2 hN
      rw [← hT] at c3 hS
      have HN := Lib.hid hN; clear hN
      have HC2 := Lib.hid c2
      have HC3 := Lib.hid c3
      clear c2 c3
      have d2 := HG.out.only.cellq HC2.out
      have HXT : Hid (allB (ps.take (k + 1)) = allB (ps.take k) ++ (beB 8 x ++ (beB 1 (x % 256) ++ (flagB (x % 2 == 1) ++ txB t)))) := by
        show _ = _
        rw [allB_take ps hlt, pieceB, ← hx, ← hT]
      clear hx hT
      obtain ⟨ys, hys⟩ : ∃ ys, ys = allB (ps.take k) := ⟨_, rfl⟩
      rw [← hys] at HG hL HXT
      clear hys
      go_wp2_with fail
      refine (goU64 HG.out x HN.out (by omega)).mono ?_
      rintro e w1 ⟨rfl, hG⟩
      have HG1 := Lib.hid hG
      have d2 := HG1.out.only.cellq HC2.out
      clear hG HG
      go_wp2_with fail
      first | rw [show IntKind.u8.wrap (x : Int) = ((x % 256 : Nat) : Int) by rw [IntKind.wrap_u8']; omega] | rw [show ((x : Int) % 256) = ((x % 256 : Nat) : Int) by omega]
      refine (goU8 HG1.out (x % 256) (by omega) (by simp only [List.length_append, beB_length]; omega)).mono ?_
      rintro e w2 ⟨rfl, hG⟩
      have HG2 := Lib.hid hG
      have d2 := HG2.out.only.cellq HC2.out
      clear hG HG1
      go_wp2_with fail
      rw [odd_eq x]
      refine (goFlag HG2.out (x % 2 == 1) (by simp only [List.length_append, beB_length]; omega)).mono ?_
      rintro e w3 ⟨rfl, hG⟩
      have HG3 := Lib.hid hG
      have d3 := HG3.out.only.cellq HC3.out
      clear hG HG2 d2
      by_cases hs : t.size < 65536
      · have hs' : (t.size : Int) < 65536 := by omega
        go_wp2_with fail
        refine (goText HG3.out t (by omega) (by simp only [List.length_append, beB_length, flagB_length]; omega)).mono ?_
        rintro e w4 ⟨rfl, hG⟩
        have HF : Hid (OutG w w4 w0.heap.size (allB (ps.take (k + 1)))) := by
          show OutG _ _ _ _
          rw [HXT.out, txB, if_pos hs]
          simpa using hG
        clear hG HG3 d3 HXT
        go_wp2
        go_roundw
        case rel => exact ⟨k + 1, by omega, by go_num, HF⟩
        case measure => simp [intOf]; omega
      · have hs' : ¬ (t.size : Int) < 65536 := by omega
        have HF : Hid (OutG w w3 w0.heap.size (allB (ps.take (k + 1)))) := by
          show OutG _ _ _ _
          rw [HXT.out, txB, if_neg hs, List.append_nil]
          simpa using HG3.out
        have hd : decide ((t.size : Int) < 65536) = false := decide_eq_false hs'
        have HS := Lib.hid hS
        clear HG3 HXT hs hS
        go_wp2
        go_roundw
        case rel => exact ⟨k + 1, by omega, by go_num, HF⟩
        case measure => simp [intOf]; omega
    · have hke : k = ps.length := by omega
      have HGA : Hid (OutG w wr w0.heap.size (allB ps)) := by
        have := HG.out
        rw [hke, List.take_length] at this
        exact this
      have hLA : (allB ps).length ≤ 12582912 := by have := allB_length ps; omega
      clear HG
      go_wp2_with fail
      refine (goU32 HGA.out 7 (by omega) (by omega)).mono ?_
      rintro e w1 ⟨rfl, hG⟩
      have HG1 := Lib.hid hG
      clear hG HGA
      go_wp2_with fail
      have hLB : (allB ps ++ beB 4 7).length ≤ 12582916 := by rw [List.length_append, beB_length]; omega
      have HL4 := Lib.hid (show 4 ≤ (allB ps ++ beB 4 7).length by rw [List.length_append, beB_length]; omega)
      refine (goBytes HG1.out (by omega)).mono ?_
      rintro e w2 ⟨bo, bc, rfl, hr, hG, ho⟩
      have HB := Lib.hid (own_toB hr)
      have HO := Lib.hid hG.only
      clear hr hG ho HG1
      obtain ⟨bs, hbs⟩ : ∃ bs, bs = allB ps ++ beB 4 7 := ⟨_, rfl⟩
      rw [← hbs] at HB hLB HL4 ⊢
      have HBS := Lib.hid hbs
      clear hbs
      go_wp2_with fail
      refine (to_any _ bs _ HB.out.toC (by omega)).mono ?_
      rintro e w3 ⟨q, u, rfl, hI, hq, ho⟩
      have HI := Lib.hid (show InB w w3 q (allB (ps.drop 0) ++ beB 4 7) (.slice bo bs.length bc) bs from
        ⟨⟨⟨u, by rw [List.drop_zero, ← HBS.out]; exact hI⟩, by have := HO.out.size; omega, HO.out.trans ho (fun _ _ h => h)⟩, HB.out.keep ho (fun _ _ _ h => h)⟩)
      clear hI hq ho HO HB hke
      go_wp2_with fail
      go_loopw [9] (fun i wr => ∃ j : Nat, j ≤ ps.length ∧ i = .int .i64 j ∧ Hid (InB w wr q (allB (ps.drop j) ++ beB 4 7) (.slice bo bs.length bc) bs)) (fun i _ => ps.length - (intOf i).toNat)
      case atStart => exact ⟨0, Nat.zero_le _, rfl, HI⟩
      case round =>
        obtain ⟨j, hj, rfl, HQ⟩ := hrel
        clear HI
        by_cases hltj : j < ps.length
        · obtain ⟨g, off, rfl, c1, c2, c3, hN⟩ := HP.out j hltj
          clear c1
          have hS := size_tot ps hltj
          have hDr := allB_drop ps hltj
          rw [pieceB] at hDr
          obtain ⟨x, hx⟩ : ∃ x, x = (ps.getD j default).N := ⟨_, rfl⟩
          obtain ⟨t, hT⟩ : ∃ t, t = (ps.getD j default).S := ⟨_, rfl⟩
          rw [← hx] at c2 hN hDr
          rw [← hT] at c3 hS hDr
          obtain ⟨ys, hys⟩ : ∃ ys, ys = allB (ps.drop (j + 1)) ++ beB 4 7 := ⟨_, rfl⟩
          have HQ1 : Hid (InB w wr q (beB 8 x ++ (beB 1 (x % 256) ++ (flagB (x % 2 == 1) ++ (txB t ++ ys)))) (.slice bo bs.length bc) bs) := by
            have := HQ.out
            rw [hDr] at this
            show InB _ _ _ _ _ _
            simpa [hys] using this
          have HN := Lib.hid hN
          have HC2 := Lib.hid c2
          have HC3 := Lib.hid c3
          have HYS := Lib.hid hys
          clear c2 c3 hN hx hT hys hDr HQ
          by_cases hs : t.size < 65536
          · rw [txB, if_pos hs] at HQ1
            have hs' : (t.size : Int) < 65536 := by omega
            have hd : decide ((t.size : Int) < 65536) = true := decide_eq_true hs'
            have HSZ := Lib.hid (show t.size ≤ 65535 by omega)
            have HS := Lib.hid hS
            clear hs hS
            have hW8 : IntKind.u8.wrap (x : Int) = (x : Int) % 256 := by rw [IntKind.wrap_u8']
            have hM2 : (x : Int).tmod 2 = (x : Int) % 2 := Int.tmod_eq_emod_of_nonneg (by omega)
            go_upto_region 18 with fail
            go_cut [126] (fun s wx => s = .bool false ∧ Hid (InB w wx q ys (.slice bo bs.length bc) bs))
            case first =>
              have d2 := HQ1.out.ing.only.cellq HC2.out
              have d3 := HQ1.out.ing.only.cellq HC3.out
              have HQd := Lib.hid (HQ1.out.quiet ((Only.refl (fun _ => False) wr).drew))
              go_region_held3 (fun w' => w'.cell? ⟨g, off + j * 3 + 1, none⟩ = some (.int .u64 x) ∧ w'.cell? ⟨g, off + j * 3 + 2, none⟩ = some (.string t))
                (first
                  | exact ⟨HA4.out.ing.only.cellq HC2.out, HA4.out.ing.only.cellq HC3.out⟩
                  | exact ⟨HA3.out.ing.only.cellq HC2.out, HA3.out.ing.only.cellq HC3.out⟩
                  | exact ⟨HA2.out.ing.only.cellq HC2.out, HA2.out.ing.only.cellq HC3.out⟩
                  | exact ⟨HA1.out.ing.only.cellq HC2.out, HA1.out.ing.only.cellq HC3.out⟩
                  | exact ⟨HQd.out.ing.only.cellq HC2.out, HQd.out.ing.only.cellq HC3.out⟩)
                (first
                  | (go_at_call 28; (with_reducible refine (ibU64 HQd.out HN.out).mono ?_); rintro e w1 ⟨rfl, ha⟩; have HA1 := Lib.hid ha; clear ha)
                  | (go_at_call 29; (with_reducible refine (ibU8 HA1.out).mono ?_); rintro e w2 ⟨rfl, ha⟩; have HA2 := Lib.hid ha; clear ha)
                  | (go_at_call 30; (with_reducible refine (ibFlag HA2.out).mono ?_); rintro e w3 ⟨rfl, ha⟩; have HA3 := Lib.hid ha; clear ha)
                  | (go_at_call 31; (with_reducible refine (ibText HA3.out HSZ.out).mono ?_); rintro e w4 ⟨rfl, ha⟩; have HA4 := Lib.hid ha; clear ha))
              all_goals
                go_wp2
                go_meet
                exact ⟨rfl, HA4⟩
            case rest =>
              obtain ⟨rfl, HQ'⟩ := hcut
              clear HQ1
              rw [HYS.out] at HQ'
              go_wp2
              go_roundw
              case rel => exact ⟨j + 1, by omega, by go_num, HQ'⟩
              case measure => simp [intOf]; omega
          · rw [txB, if_neg hs, List.nil_append] at HQ1
            have HDF := Lib.hid (show decide ((t.size : Int) < 65536) = false from decide_eq_false (by omega))
            have HS := Lib.hid hS
            clear hs hS
            have hW8 : IntKind.u8.wrap (x : Int) = (x : Int) % 256 := by rw [IntKind.wrap_u8']
            have hM2 : (x : Int).tmod 2 = (x : Int) % 2 := Int.tmod_eq_emod_of_nonneg (by omega)
            go_upto_region 18 with fail
            go_cut [126] (fun s wx => s = .bool false ∧ Hid (InB w wx q ys (.slice bo bs.length bc) bs))
            case first =>
              have hd := HDF.out
              have d2 := HQ1.out.ing.only.cellq HC2.out
              have d3 := HQ1.out.ing.only.cellq HC3.out
              have HQd := Lib.hid (HQ1.out.quiet ((Only.refl (fun _ => False) wr).drew))
              refine wp_region_held_drew (S := fun w' => w'.cell? ⟨g, off + j * 3 + 1, none⟩ = some (.int .u64 x) ∧ w'.cell? ⟨g, off + j * 3 + 2, none⟩ = some (.string t)) (by kernel_rfl) ?_ (fun hHeld => ?_)
              · exact ⟨HQd.out.ing.only.cellq HC2.out, HQd.out.ing.only.cellq HC3.out⟩
              refine wpAnyH_take (i := 0) (oi := ?_) (v := ?_) ?_ (by kernel_rfl) (by kernel_rfl) (by kernel_rfl) ?_ (Or.inl ⟨?_, ?_⟩) (by assumption) ?_
              rotate_left 2
              · (simp only [List.getElem?_toArray, List.getElem?_cons_succ, List.getElem?_cons_zero]; rfl)
              · exact fun _ _ _ h => h
              · rfl
              · (intro w hSw; (try dsimp only at hSw); go_simp <;> with_reducible rfl)
              (try simp only [Act.put, List.setIfInBounds_toArray, List.set_cons_zero, List.set_cons_succ])
              refine wpAnyH_take (i := 2) (oi := ?_) (v := ?_) ?_ (by kernel_rfl) (by kernel_rfl) (by kernel_rfl) ?_ (Or.inl ⟨?_, ?_⟩) (by assumption) ?_
              rotate_left 2
              · (simp only [List.getElem?_toArray, List.getElem?_cons_succ, List.getElem?_cons_zero]; rfl)
              · exact fun _ _ _ h => h
              · rfl
              · (intro w hSw; (try dsimp only at hSw); go_simp <;> with_reducible rfl)
              (try simp only [Act.put, List.setIfInBounds_toArray, List.set_cons_zero, List.set_cons_succ])
              refine wpAnyH_take (i := 3) (oi := ?_) (v := ?_) ?_ (by kernel_rfl) (by kernel_rfl) (by kernel_rfl) ?_ (Or.inl ⟨?_, ?_⟩) (by assumption) ?_
              rotate_left 2
              · (simp only [List.getElem?_toArray, List.getElem?_cons_succ, List.getElem?_cons_zero]; rfl)
              · exact fun _ _ _ h => h
              · rfl
              · (intro w hSw; (try dsimp only at hSw); go_simp <;> with_reducible rfl)
              (try simp only [Act.put, List.setIfInBounds_toArray, List.set_cons_zero, List.set_cons_succ])
              refine wpAnyH_take (i := 4) (oi := ?_) (v := ?_) ?_ (by kernel_rfl) (by kernel_rfl) (by kernel_rfl) ?_ (Or.inl ⟨?_, ?_⟩) (by assumption) ?_
              rotate_left 2
              · (simp only [List.getElem?_toArray, List.getElem?_cons_succ, List.getElem?_cons_zero]; rfl)
              · exact fun _ _ _ h => h
              · rfl
              · (intro w hSw; (try dsimp only at hSw); go_simp <;> with_reducible rfl)
              (try simp only [Act.put, List.setIfInBounds_toArray, List.set_cons_zero, List.set_cons_succ])
              refine wpAnyH_take (i := 5) (oi := ?_) (v := ?_) ?_ (by kernel_rfl) (by kernel_rfl) (by kernel_rfl) ?_ (Or.inl ⟨?_, ?_⟩) (by assumption) ?_
              rotate_left 2
              · (simp only [List.getElem?_toArray, List.getElem?_cons_succ, List.getElem?_cons_zero]; rfl)
              · exact fun _ _ _ h => h
              · rfl
              · (intro w hSw; (try dsimp only at hSw); go_simp <;> with_reducible rfl)
              (try simp only [Act.put, List.setIfInBounds_toArray, List.set_cons_zero, List.set_cons_succ])
              refine wpAnyH_take (i := 6) (oi := ?_) (v := ?_) ?_ (by kernel_rfl) (by kernel_rfl) (by kernel_rfl) ?_ (Or.inl ⟨?_, ?_⟩) (by assumption) ?_
              rotate_left 2
              · (simp only [List.getElem?_toArray, List.getElem?_cons_succ, List.getElem?_cons_zero]; rfl)
              · exact fun _ _ _ h => h
              · rfl
              · (intro w hSw; (try dsimp only at hSw); go_simp <;> with_reducible rfl)
              (try simp only [Act.put, List.setIfInBounds_toArray, List.set_cons_zero, List.set_cons_succ])
              refine wpAnyH_ready (rs := [1]) (by kernel_rfl) (by simp) ?_
              refine AllReadyH.cons (o := ?_) ?_ (fun K hK => ?_) AllReadyH.nil
              rotate_left 1
              · (simp only [List.getElem?_toArray, List.getElem?_cons_succ, List.getElem?_cons_zero]; rfl)
              go_simp
              refine (ibU64 HQd.out HN.out).mono ?_
              rintro e w1 ⟨rfl, ha⟩; have HA1 := Lib.hid ha; clear ha
              (try go_wp2_with fail)
              refine hK.out _ _ ?_ (fun hHeld => ?_)
              · exact ⟨HA1.out.ing.only.cellq HC2.out, HA1.out.ing.only.cellq HC3.out⟩
              clear hK K
              (try simp only [Act.put, List.setIfInBounds_toArray, List.set_cons_zero, List.set_cons_succ])
              refine wpAnyH_take (i := 7) (oi := ?_) (v := ?_) ?_ (by kernel_rfl) (by kernel_rfl) (by kernel_rfl) ?_ (Or.inl ⟨?_, ?_⟩) (by assumption) ?_
              rotate_left 2
              · (simp only [List.getElem?_toArray, List.getElem?_cons_succ, List.getElem?_cons_zero]; rfl)
              · exact fun _ _ _ h => h
              · rfl
              · (intro w hSw; (try dsimp only at hSw); go_simp <;> with_reducible rfl)
              (try simp only [Act.put, List.setIfInBounds_toArray, List.set_cons_zero, List.set_cons_succ])
              refine wpAnyH_take (i := 8) (oi := ?_) (v := ?_) ?_ (by kernel_rfl) (by kernel_rfl) (by kernel_rfl) ?_ (Or.inl ⟨?_, ?_⟩) (by assumption) ?_
              rotate_left 2
              · (simp only [List.getElem?_toArray, List.getElem?_cons_succ, List.getElem?_cons_zero]; rfl)
              · exact fun _ _ _ h => h
              · rfl
              · (intro w hSw; (try dsimp only at hSw); go_simp <;> with_reducible rfl)
              (try simp only [Act.put, List.setIfInBounds_toArray, List.set_cons_zero, List.set_cons_succ])
              refine wpAnyH_take (i := 9) (oi := ?_) (v := ?_) ?_ (by kernel_rfl) (by kernel_rfl) (by kernel_rfl) ?_ (Or.inl ⟨?_, ?_⟩) (by assumption) ?_
              rotate_left 2
              · (simp only [List.getElem?_toArray, List.getElem?_cons_succ, List.getElem?_cons_zero]; rfl)
              · exact fun _ _ _ h => h
              · rfl
              · (intro w hSw; (try dsimp only at hSw); go_simp <;> with_reducible rfl)
              (try simp only [Act.put, List.setIfInBounds_toArray, List.set_cons_zero, List.set_cons_succ])
              refine wpAnyH_take (i := 11) (oi := ?_) (v := ?_) ?_ (by kernel_rfl) (by kernel_rfl) (by kernel_rfl) ?_ (Or.inl ⟨?_, ?_⟩) (by assumption) ?_
              rotate_left 2
              · (simp only [List.getElem?_toArray, List.getElem?_cons_succ, List.getElem?_cons_zero]; rfl)
              · exact fun _ _ _ h => h
              · rfl
              · (intro w hSw; (try dsimp only at hSw); go_simp <;> with_reducible rfl)
              (try simp only [Act.put, List.setIfInBounds_toArray, List.set_cons_zero, List.set_cons_succ])
              refine wpAnyH_take (i := 12) (oi := ?_) (v := ?_) ?_ (by kernel_rfl) (by kernel_rfl) (by kernel_rfl) ?_ (Or.inl ⟨?_, ?_⟩) (by assumption) ?_
              rotate_left 2
              · (simp only [List.getElem?_toArray, List.getElem?_cons_succ, List.getElem?_cons_zero]; rfl)
              · exact fun _ _ _ h => h
              · rfl
              · (intro w hSw; (try dsimp only at hSw); go_simp <;> with_reducible rfl)
              (try simp only [Act.put, List.setIfInBounds_toArray, List.set_cons_zero, List.set_cons_succ])
              refine wpAnyH_take (i := 13) (oi := ?_) (v := ?_) ?_ (by kernel_rfl) (by kernel_rfl) (by kernel_rfl) ?_ (Or.inl ⟨?_, ?_⟩) (by assumption) ?_
              rotate_left 2
              · (simp only [List.getElem?_toArray, List.getElem?_cons_succ, List.getElem?_cons_zero]; rfl)
              · exact fun _ _ _ h => h
              · rfl
              · (intro w hSw; (try dsimp only at hSw); go_simp <;> with_reducible rfl)
              (try simp only [Act.put, List.setIfInBounds_toArray, List.set_cons_zero, List.set_cons_succ])
              refine wpAnyH_take (i := 14) (oi := ?_) (v := ?_) ?_ (by kernel_rfl) (by kernel_rfl) (by kernel_rfl) ?_ (Or.inl ⟨?_, ?_⟩) (by assumption) ?_
              rotate_left 2
              · (simp only [List.getElem?_toArray, List.getElem?_cons_succ, List.getElem?_cons_zero]; rfl)
              · exact fun _ _ _ h => h
              · rfl
              · (intro w hSw; (try dsimp only at hSw); go_simp <;> with_reducible rfl)
              (try simp only [Act.put, List.setIfInBounds_toArray, List.set_cons_zero, List.set_cons_succ])
              refine wpAnyH_take (i := 15) (oi := ?_) (v := ?_) ?_ (by kernel_rfl) (by kernel_rfl) (by kernel_rfl) ?_ (Or.inl ⟨?_, ?_⟩) (by assumption) ?_
              rotate_left 2
              · (simp only [List.getElem?_toArray, List.getElem?_cons_succ, List.getElem?_cons_zero]; rfl)
              · exact fun _ _ _ h => h
              · rfl
              · (intro w hSw; (try dsimp only at hSw); go_simp <;> with_reducible rfl)
              (try simp only [Act.put, List.setIfInBounds_toArray, List.set_cons_zero, List.set_cons_succ])
              refine wpAnyH_take (i := 16) (oi := ?_) (v := ?_) ?_ (by kernel_rfl) (by kernel_rfl) (by kernel_rfl) ?_ (Or.inl ⟨?_, ?_⟩) (by assumption) ?_
              rotate_left 2
              · (simp only [List.getElem?_toArray, List.getElem?_cons_succ, List.getElem?_cons_zero]; rfl)
              · exact fun _ _ _ h => h
              · rfl
              · (intro w hSw; (try dsimp only at hSw); go_simp <;> with_reducible rfl)
              (try simp only [Act.put, List.setIfInBounds_toArray, List.set_cons_zero, List.set_cons_succ])
              refine wpAnyH_ready (rs := [10]) (by kernel_rfl) (by simp) ?_
              refine AllReadyH.cons (o := ?_) ?_ (fun K hK => ?_) AllReadyH.nil
              rotate_left 1
              · (simp only [List.getElem?_toArray, List.getElem?_cons_succ, List.getElem?_cons_zero]; rfl)
              go_simp
              refine (ibU8 HA1.out).mono ?_
              rintro e w2 ⟨rfl, ha⟩; have HA2 := Lib.hid ha; clear ha
              (try go_wp2_with fail)
              refine hK.out _ _ ?_ (fun hHeld => ?_)
              · exact ⟨HA2.out.ing.only.cellq HC2.out, HA2.out.ing.only.cellq HC3.out⟩
              clear hK K
              (try simp only [Act.put, List.setIfInBounds_toArray, List.set_cons_zero, List.set_cons_succ])
              refine wpAnyH_take (i := 17) (oi := ?_) (v := ?_) ?_ (by kernel_rfl) (by kernel_rfl) (by kernel_rfl) ?_ (Or.inl ⟨?_, ?_⟩) (by assumption) ?_
              rotate_left 2
              · (simp only [List.getElem?_toArray, List.getElem?_cons_succ, List.getElem?_cons_zero]; rfl)
              · exact fun _ _ _ h => h
              · rfl
              · (intro w hSw; (try dsimp only at hSw); go_simp <;> with_reducible rfl)
              (try simp only [Act.put, List.setIfInBounds_toArray, List.set_cons_zero, List.set_cons_succ])
              refine wpAnyH_take (i := 18) (oi := ?_) (v := ?_) ?_ (by kernel_rfl) (by kernel_rfl) (by kernel_rfl) ?_ (Or.inl ⟨?_, ?_⟩) (by assumption) ?_
              rotate_left 2
              · (simp only [List.getElem?_toArray, List.getElem?_cons_succ, List.getElem?_cons_zero]; rfl)
              · exact fun _ _ _ h => h
              · rfl
              · (intro w hSw; (try dsimp only at hSw); go_simp <;> with_reducible rfl)
              (try simp only [Act.put, List.setIfInBounds_toArray, List.set_cons_zero, List.set_cons_succ])
              refine wpAnyH_take (i := 19) (oi := ?_) (v := ?_) ?_ (by kernel_rfl) (by kernel_rfl) (by kernel_rfl) ?_ (Or.inl ⟨?_, ?_⟩) (by assumption) ?_
              rotate_left 2
              · (simp only [List.getElem?_toArray, List.getElem?_cons_succ, List.getElem?_cons_zero]; rfl)
              · exact fun _ _ _ h => h
              · rfl
              · (intro w hSw; (try dsimp only at hSw); go_simp <;> with_reducible rfl)
              (try simp only [Act.put, List.setIfInBounds_toArray, List.set_cons_zero, List.set_cons_succ])
              refine wpAnyH_take (i := 20) (oi := ?_) (v := ?_) ?_ (by kernel_rfl) (by kernel_rfl) (by kernel_rfl) ?_ (Or.inl ⟨?_, ?_⟩) (by assumption) ?_
              rotate_left 2
              · (simp only [List.getElem?_toArray, List.getElem?_cons_succ, List.getElem?_cons_zero]; rfl)
              · exact fun _ _ _ h => h
              · rfl
              · (intro w hSw; (try dsimp only at hSw); go_simp <;> with_reducible rfl)
              (try simp only [Act.put, List.setIfInBounds_toArray, List.set_cons_zero, List.set_cons_succ])
              refine wpAnyH_take (i := 22) (oi := ?_) (v := ?_) ?_ (by kernel_rfl) (by kernel_rfl) (by kernel_rfl) ?_ (Or.inl ⟨?_, ?_⟩) (by assumption) ?_
              rotate_left 2
              · (simp only [List.getElem?_toArray, List.getElem?_cons_succ, List.getElem?_cons_zero]; rfl)
              · exact fun _ _ _ h => h
              · rfl
              · (intro w hSw; (try dsimp only at hSw); go_simp <;> with_reducible rfl)
              (try simp only [Act.put, List.setIfInBounds_toArray, List.set_cons_zero, List.set_cons_succ])
              refine wpAnyH_take (i := 23) (oi := ?_) (v := ?_) ?_ (by kernel_rfl) (by kernel_rfl) (by kernel_rfl) ?_ (Or.inl ⟨?_, ?_⟩) (by assumption) ?_
              rotate_left 2
              · (simp only [List.getElem?_toArray, List.getElem?_cons_succ, List.getElem?_cons_zero]; rfl)
              · exact fun _ _ _ h => h
              · rfl
              · (intro w hSw; (try dsimp only at hSw); go_simp <;> with_reducible rfl)
              (try simp only [Act.put, List.setIfInBounds_toArray, List.set_cons_zero, List.set_cons_succ])
              refine wpAnyH_take (i := 24) (oi := ?_) (v := ?_) ?_ (by kernel_rfl) (by kernel_rfl) (by kernel_rfl) ?_ (Or.inl ⟨?_, ?_⟩) (by assumption) ?_
              rotate_left 2
              · (simp only [List.getElem?_toArray, List.getElem?_cons_succ, List.getElem?_cons_zero]; rfl)
              · exact fun _ _ _ h => h
              · rfl
              · (intro w hSw; (try dsimp only at hSw); go_simp <;> with_reducible rfl)
              (try simp only [Act.put, List.setIfInBounds_toArray, List.set_cons_zero, List.set_cons_succ])
              refine wpAnyH_take (i := 25) (oi := ?_) (v := ?_) ?_ (by kernel_rfl) (by kernel_rfl) (by kernel_rfl) ?_ (Or.inl ⟨?_, ?_⟩) (by assumption) ?_
              rotate_left 2
              · (simp only [List.getElem?_toArray, List.getElem?_cons_succ, List.getElem?_cons_zero]; rfl)
              · exact fun _ _ _ h => h
              · rfl
              · (intro w hSw; (try dsimp only at hSw); go_simp <;> with_reducible rfl)
              (try simp only [Act.put, List.setIfInBounds_toArray, List.set_cons_zero, List.set_cons_succ])
              refine wpAnyH_take (i := 26) (oi := ?_) (v := ?_) ?_ (by kernel_rfl) (by kernel_rfl) (by kernel_rfl) ?_ (Or.inl ⟨?_, ?_⟩) (by assumption) ?_
              rotate_left 2
              · (simp only [List.getElem?_toArray, List.getElem?_cons_succ, List.getElem?_cons_zero]; rfl)
              · exact fun _ _ _ h => h
              · rfl
              · (intro w hSw; (try dsimp only at hSw); go_simp <;> with_reducible rfl)
              (try simp only [Act.put, List.setIfInBounds_toArray, List.set_cons_zero, List.set_cons_succ])
              refine wpAnyH_take (i := 27) (oi := ?_) (v := ?_) ?_ (by kernel_rfl) (by kernel_rfl) (by kernel_rfl) ?_ (Or.inl ⟨?_, ?_⟩) (by assumption) ?_
              rotate_left 2
              · (simp only [List.getElem?_toArray, List.getElem?_cons_succ, List.getElem?_cons_zero]; rfl)
              · exact fun _ _ _ h => h
              · rfl
              · (intro w hSw; (try dsimp only at hSw); go_simp <;> with_reducible rfl)
              (try simp only [Act.put, List.setIfInBounds_toArray, List.set_cons_zero, List.set_cons_succ])
              refine wpAnyH_take (i := 28) (oi := ?_) (v := ?_) ?_ (by kernel_rfl) (by kernel_rfl) (by kernel_rfl) ?_ (Or.inl ⟨?_, ?_⟩) (by assumption) ?_
              rotate_left 2
              · (simp only [List.getElem?_toArray, List.getElem?_cons_succ, List.getElem?_cons_zero]; rfl)
              · exact fun _ _ _ h => h
              · rfl
              · (intro w hSw; (try dsimp only at hSw); go_simp <;> with_reducible rfl)
              (try simp only [Act.put, List.setIfInBounds_toArray, List.set_cons_zero, List.set_cons_succ])
              refine wpAnyH_ready (rs := [21]) (by kernel_rfl) (by simp) ?_
              refine AllReadyH.cons (o := ?_) ?_ (fun K hK => ?_) AllReadyH.nil
              rotate_left 1
              · (simp only [List.getElem?_toArray, List.getElem?_cons_succ, List.getElem?_cons_zero]; rfl)
              go_simp
              refine (ibFlag HA2.out).mono ?_
              rintro e w3 ⟨rfl, ha⟩; have HA3 := Lib.hid ha; clear ha
              (try go_wp2_with fail)
              refine hK.out _ _ ?_ (fun hHeld => ?_)
              · exact ⟨HA3.out.ing.only.cellq HC2.out, HA3.out.ing.only.cellq HC3.out⟩
              clear hK K
              (try simp only [Act.put, List.setIfInBounds_toArray, List.set_cons_zero, List.set_cons_succ])
              refine wpAnyH_take (i := 29) (oi := ?_) (v := ?_) ?_ (by kernel_rfl) (by kernel_rfl) (by kernel_rfl) ?_ (Or.inl ⟨?_, ?_⟩) (by assumption) ?_
              rotate_left 2
              · (simp only [List.getElem?_toArray, List.getElem?_cons_succ, List.getElem?_cons_zero]; rfl)
              · exact fun _ _ _ h => h
              · rfl
              · (intro w hSw; (try dsimp only at hSw); go_simp <;> with_reducible rfl)
              (try simp only [Act.put, List.setIfInBounds_toArray, List.set_cons_zero, List.set_cons_succ])
              refine wpAnyH_take (i := 30) (oi := ?_) (v := ?_) ?_ (by kernel_rfl) (by kernel_rfl) (by kernel_rfl) ?_ (Or.inl ⟨?_, ?_⟩) (by assumption) ?_
              rotate_left 2
              · (simp only [List.getElem?_toArray, List.getElem?_cons_succ, List.getElem?_cons_zero]; rfl)
              · exact fun _ _ _ h => h
              · rfl
              · (intro w hSw; (try dsimp only at hSw); go_simp <;> with_reducible rfl)
              (try simp only [Act.put, List.setIfInBounds_toArray, List.set_cons_zero, List.set_cons_succ])
              refine wpAnyH_take (i := 31) (oi := ?_) (v := ?_) ?_ (by kernel_rfl) (by kernel_rfl) (by kernel_rfl) ?_ (Or.inl ⟨?_, ?_⟩) (by assumption) ?_
              rotate_left 2
              · (simp only [List.getElem?_toArray, List.getElem?_cons_succ, List.getElem?_cons_zero]; rfl)
              · exact fun _ _ _ h => h
              · rfl
              · (intro w hSw; (try dsimp only at hSw); go_simp <;> with_reducible rfl)
              (try simp only [Act.put, List.setIfInBounds_toArray, List.set_cons_zero, List.set_cons_succ])
              refine wpAnyH_take (i := 32) (oi := ?_) (v := ?_) ?_ (by kernel_rfl) (by kernel_rfl) (by kernel_rfl) ?_ (Or.inl ⟨?_, ?_⟩) (by assumption) ?_
              rotate_left 2
              · (simp only [List.getElem?_toArray, List.getElem?_cons_succ, List.getElem?_cons_zero]; rfl)
              · exact fun _ _ _ h => h
              · rfl
              · (intro w hSw; (try dsimp only at hSw); go_simp <;> with_reducible rfl)
              (try simp only [Act.put, List.setIfInBounds_toArray, List.set_cons_zero, List.set_cons_succ])
              refine wpAnyH_take (i := 33) (oi := ?_) (v := ?_) ?_ (by kernel_rfl) (by kernel_rfl) (by kernel_rfl) ?_ (Or.inl ⟨?_, ?_⟩) (by assumption) ?_
              rotate_left 2
              · (simp only [List.getElem?_toArray, List.getElem?_cons_succ, List.getElem?_cons_zero]; rfl)
              · exact fun _ _ _ h => h
              · rfl
              · (intro w hSw; (try dsimp only at hSw); go_simp <;> with_reducible rfl)
              (try simp only [Act.put, List.setIfInBounds_toArray, List.set_cons_zero, List.set_cons_succ])
              refine wpAnyH_take (i := 34) (oi := ?_) (v := ?_) ?_ (by kernel_rfl) (by kernel_rfl) (by kernel_rfl) ?_ (Or.inl ⟨?_, ?_⟩) (by assumption) ?_
              rotate_left 2
              · (simp only [List.getElem?_toArray, List.getElem?_cons_succ, List.getElem?_cons_zero]; rfl)
              · exact fun _ _ _ h => h
              · rfl
              · (intro w hSw; (try dsimp only at hSw); go_simp <;> with_reducible rfl)
              (try simp only [Act.put, List.setIfInBounds_toArray, List.set_cons_zero, List.set_cons_succ])
              refine wpAnyH_take (i := 35) (oi := ?_) (v := ?_) ?_ (by kernel_rfl) (by kernel_rfl) (by kernel_rfl) ?_ (Or.inl ⟨?_, ?_⟩) (by assumption) ?_
              rotate_left 2
              · (simp only [List.getElem?_toArray, List.getElem?_cons_succ, List.getElem?_cons_zero]; rfl)
              · exact fun _ _ _ h => h
              · rfl
              · (intro w hSw; (try dsimp only at hSw); go_simp <;> with_reducible rfl)
              (try simp only [Act.put, List.setIfInBounds_toArray, List.set_cons_zero, List.set_cons_succ])
              refine wpAnyH_take (i := 36) (oi := ?_) (v := ?_) ?_ (by kernel_rfl) (by kernel_rfl) (by kernel_rfl) ?_ (Or.inl ⟨?_, ?_⟩) (by assumption) ?_
              rotate_left 2
              · (simp only [List.getElem?_toArray, List.getElem?_cons_succ, List.getElem?_cons_zero]; rfl)
              · exact fun _ _ _ h => h
              · rfl
              · (intro w hSw; (try dsimp only at hSw); go_simp <;> with_reducible rfl)
              (try simp only [Act.put, List.setIfInBounds_toArray, List.set_cons_zero, List.set_cons_succ])
              refine wpAnyH_take (i := 37) (oi := ?_) (v := ?_) ?_ (by kernel_rfl) (by kernel_rfl) (by kernel_rfl) ?_ (Or.inl ⟨?_, ?_⟩) (by assumption) ?_
              rotate_left 2
              · (simp only [List.getElem?_toArray, List.getElem?_cons_succ, List.getElem?_cons_zero]; rfl)
              · exact fun _ _ _ h => h
              · rfl
              · (intro w hSw; (try dsimp only at hSw); go_simp <;> with_reducible rfl)
              (try simp only [Act.put, List.setIfInBounds_toArray, List.set_cons_zero, List.set_cons_succ])
              refine wpAnyH_take (i := 38) (oi := ?_) (v := ?_) ?_ (by kernel_rfl) (by kernel_rfl) (by kernel_rfl) ?_ (Or.inl ⟨?_, ?_⟩) (by assumption) ?_
              rotate_left 2
              · (simp only [List.getElem?_toArray, List.getElem?_cons_succ, List.getElem?_cons_zero]; rfl)
              · exact fun _ _ _ h => h
              · rfl
              · (intro w hSw; (try dsimp only at hSw); go_simp <;> with_reducible rfl)
              (try simp only [Act.put, List.setIfInBounds_toArray, List.set_cons_zero, List.set_cons_succ])
              refine wpAnyH_take (i := 39) (oi := ?_) (v := ?_) ?_ (by kernel_rfl) (by kernel_rfl) (by kernel_rfl) ?_ (Or.inl ⟨?_, ?_⟩) (by assumption) ?_
              rotate_left 2
              · (simp only [List.getElem?_toArray, List.getElem?_cons_succ, List.getElem?_cons_zero]; rfl)
              · exact fun _ _ _ h => h
              · rfl
              · (intro w hSw; (try dsimp only at hSw); go_simp <;> with_reducible rfl)
              (try simp only [Act.put, List.setIfInBounds_toArray, List.set_cons_zero, List.set_cons_succ])
              refine wpAnyH_take (i := 40) (oi := ?_) (v := undef) ?_ (by kernel_rfl) (by kernel_rfl) (by kernel_rfl) ?_ (Or.inr ⟨?_, rfl⟩) (by assumption) ?_
              rotate_left 1
              · (simp only [List.getElem?_toArray, List.getElem?_cons_succ, List.getElem?_cons_zero]; rfl)
              · exact fun _ _ _ h => h
              · rfl
              (try simp only [Act.put, List.setIfInBounds_toArray, List.set_cons_zero, List.set_cons_succ])
              refine wpAnyH_take (i := 42) (oi := ?_) (v := undef) ?_ (by kernel_rfl) (by kernel_rfl) (by kernel_rfl) ?_ (Or.inr ⟨?_, rfl⟩) (by assumption) ?_
              rotate_left 1
              · (simp only [List.getElem?_toArray, List.getElem?_cons_succ, List.getElem?_cons_zero]; rfl)
              · exact fun _ _ _ h => h
              · rfl
              (try simp only [Act.put, List.setIfInBounds_toArray, List.set_cons_zero, List.set_cons_succ])
              refine wpAnyH_take (i := 43) (oi := ?_) (v := undef) ?_ (by kernel_rfl) (by kernel_rfl) (by kernel_rfl) ?_ (Or.inr ⟨?_, rfl⟩) (by assumption) ?_
              rotate_left 1
              · (simp only [List.getElem?_toArray, List.getElem?_cons_succ, List.getElem?_cons_zero]; rfl)
              · exact fun _ _ _ h => h
              · rfl
              (try simp only [Act.put, List.setIfInBounds_toArray, List.set_cons_zero, List.set_cons_succ])
              refine wpAnyH_take (i := 44) (oi := ?_) (v := undef) ?_ (by kernel_rfl) (by kernel_rfl) (by kernel_rfl) ?_ (Or.inr ⟨?_, rfl⟩) (by assumption) ?_
              rotate_left 1
              · (simp only [List.getElem?_toArray, List.getElem?_cons_succ, List.getElem?_cons_zero]; rfl)
              · exact fun _ _ _ h => h
              · rfl
              (try simp only [Act.put, List.setIfInBounds_toArray, List.set_cons_zero, List.set_cons_succ])
              refine wpAnyH_take (i := 45) (oi := ?_) (v := undef) ?_ (by kernel_rfl) (by kernel_rfl) (by kernel_rfl) ?_ (Or.inr ⟨?_, rfl⟩) (by assumption) ?_
              rotate_left 1
              · (simp only [List.getElem?_toArray, List.getElem?_cons_succ, List.getElem?_cons_zero]; rfl)
              · exact fun _ _ _ h => h
              · rfl
              (try simp only [Act.put, List.setIfInBounds_toArray, List.set_cons_zero, List.set_cons_succ])
              refine wpAnyH_take (i := 46) (oi := ?_) (v := undef) ?_ (by kernel_rfl) (by kernel_rfl) (by kernel_rfl) ?_ (Or.inr ⟨?_, rfl⟩) (by assumption) ?_
              rotate_left 1
              · (simp only [List.getElem?_toArray, List.getElem?_cons_succ, List.getElem?_cons_zero]; rfl)
              · exact fun _ _ _ h => h
              · rfl
              (try simp only [Act.put, List.setIfInBounds_toArray, List.set_cons_zero, List.set_cons_succ])
              refine wpAnyH_take (i := 41) (oi := ?_) (v := undef) ?_ (by kernel_rfl) (by kernel_rfl) (by kernel_rfl) ?_ (Or.inr ⟨?_, rfl⟩) (by assumption) ?_
              rotate_left 1
              · (simp only [List.getElem?_toArray, List.getElem?_cons_succ, List.getElem?_cons_zero]; rfl)
              · exact fun _ _ _ h => h
              · rfl
              (try simp only [Act.put, List.setIfInBounds_toArray, List.set_cons_zero, List.set_cons_succ])
              refine wpAnyH_take (i := 47) (oi := ?_) (v := undef) ?_ (by kernel_rfl) (by kernel_rfl) (by kernel_rfl) ?_ (Or.inr ⟨?_, rfl⟩) (by assumption) ?_
              rotate_left 1
              · (simp only [List.getElem?_toArray, List.getElem?_cons_succ, List.getElem?_cons_zero]; rfl)
              · exact fun _ _ _ h => h
              · rfl
              (try simp only [Act.put, List.setIfInBounds_toArray, List.set_cons_zero, List.set_cons_succ])
              refine wpAnyH_take (i := 48) (oi := ?_) (v := ?_) ?_ (by kernel_rfl) (by kernel_rfl) (by kernel_rfl) ?_ (Or.inl ⟨?_, ?_⟩) (by assumption) ?_
              rotate_left 2
              · (simp only [List.getElem?_toArray, List.getElem?_cons_succ, List.getElem?_cons_zero]; rfl)
              · exact fun _ _ _ h => h
              · rfl
              · (intro w hSw; (try dsimp only at hSw); go_simp <;> with_reducible rfl)
              (try simp only [Act.put, List.setIfInBounds_toArray, List.set_cons_zero, List.set_cons_succ])
              refine wpAnyH_take (i := 49) (oi := ?_) (v := ?_) ?_ (by kernel_rfl) (by kernel_rfl) (by kernel_rfl) ?_ (Or.inl ⟨?_, ?_⟩) (by assumption) ?_
              rotate_left 2
              · (simp only [List.getElem?_toArray, List.getElem?_cons_succ, List.getElem?_cons_zero]; rfl)
              · exact fun _ _ _ h => h
              · rfl
              · (intro w hSw; (try dsimp only at hSw); go_simp <;> with_reducible rfl)
              (try simp only [Act.put, List.setIfInBounds_toArray, List.set_cons_zero, List.set_cons_succ])
              refine wpAnyH_done (by kernel_rfl) ?_ _
              all_goals
                go_wp2
                go_meet
                exact ⟨rfl, HA3⟩
            case rest =>
              obtain ⟨rfl, HQ'⟩ := hcut
              clear HQ1
              rw [HYS.out] at HQ'
              go_wp2
              go_roundw
              case rel => exact ⟨j + 1, by omega, by go_num, HQ'⟩
              case measure => simp [intOf]; omega
        · obtain rfl : j = ps.length := by omega
          have HQ1 : Hid (InB w wr q (beB 4 7 ++ []) (.slice bo bs.length bc) bs) := by
            have := HQ.out
            rw [List.drop_length] at this
            show InB _ _ _ _ _ _
            rw [List.append_nil]
            exact this
          clear HQ
          have hl4 : ¬ (bs.length : Int) < 4 := by have := HL4.out; omega
          go_wp2_with fail
          refine (ibU32 HQ1.out (by omega)).mono ?_
          rintro e w4 ⟨rfl, ha⟩
          have HA1 := Lib.hid ha
          clear ha HQ1
          go_wp2_with fail
          refine (giDone HA1.out.ing).mono ?_
          rintro e wz ⟨rfl, rfl⟩
          obtain ⟨g, off, rfl, hbc, hbm⟩ := HA1.out.sl.some (by have := HL4.out; omega)
          have hb1 : (1 : Int) ≤ (bs.length : Int) := by have := HL4.out; omega
          have hb2 : (bs.length : Int) - 1 ≤ (bc : Int) := by omega
          have hb3 : ((bs.length : Int) - 1).toNat = bs.length - 1 := by omega
          have hsl := HA1.out.sl.short (m := bs.length - 1) (by omega)
          have hcut : bs.take (bs.length - 1) = allB ps ++ [0, 0, 0] := by
            rw [← List.dropLast_eq_take, HBS.out, show beB 4 7 = [0, 0, 0] ++ [7] by decide, ← List.append_assoc, List.dropLast_concat]
          rw [hcut] at hsl
          have HSL := Lib.hid hsl
          have HO4 := Lib.hid HA1.out.ing.only
          have HL3 := Lib.hid (show (allB ps ++ [0, 0, 0]).length = bs.length - 1 by rw [HBS.out]; simp [beB_length])
          clear hsl hcut
          go_wp2_with fail
          rw [← HL3.out]
          refine (to_any _ (allB ps ++ [0, 0, 0]) w4 (by have := HSL.out.toC; rw [← HL3.out] at this; exact this) (by rw [HL3.out]; omega)).mono ?_
          rintro e w5 ⟨q2, u2, rfl, hI, hq, ho⟩
          have HI5 := Lib.hid (show InG w w5 q2 (allB (ps.drop 0) ++ [0, 0, 0]) false from ⟨⟨u2, by rw [List.drop_zero]; exact hI⟩, by have := HO4.out.size; omega, HO4.out.trans ho (fun _ _ h => h)⟩)
          clear hI hq ho HSL HO4 HL3 HA1 hb1 hb2 hb3
          go_wp2_with fail
          go_loopw [11] (fun i wr => ∃ j : Nat, j ≤ ps.length ∧ i = .int .i64 j ∧ Hid (InG w wr q2 (allB (ps.drop j) ++ [0, 0, 0]) false)) (fun i _ => ps.length - (intOf i).toNat)
          case atStart => exact ⟨0, Nat.zero_le _, rfl, HI5⟩
          case round =>
            obtain ⟨j, hj, rfl, HQ⟩ := hrel
            clear HI5
            by_cases hltj : j < ps.length
            · obtain ⟨g3, off3, rfl, c1, c2, c3, hN⟩ := HP.out j hltj
              clear c1 c2
              have hS := size_tot ps hltj
              have hDr := allB_drop ps hltj
              rw [pieceB] at hDr
              obtain ⟨x, hx⟩ : ∃ x, x = (ps.getD j default).N := ⟨_, rfl⟩
              obtain ⟨t, hT⟩ : ∃ t, t = (ps.getD j default).S := ⟨_, rfl⟩
              rw [← hx] at hN hDr
              rw [← hT] at c3 hS hDr
              obtain ⟨ys, hys⟩ : ∃ ys, ys = allB (ps.drop (j + 1)) ++ [0, 0, 0] := ⟨_, rfl⟩
              have HQ1 : Hid (InG w wr q2 (beB 8 x ++ (beB 1 (x % 256) ++ (flagB (x % 2 == 1) ++ (txB t ++ ys)))) false) := by
                have := HQ.out
                rw [hDr] at this
                show InG _ _ _ _ _
                simpa [hys] using this
              have HN := Lib.hid hN
              have HC3 := Lib.hid c3
              have HYS := Lib.hid hys
              clear c3 hN hx hT hys hDr HQ
              go_wp2_with fail
              refine (giU64 HQ1.out HN.out).mono ?_
              rintro e w6 ⟨rfl, ha, _⟩
              have HA1 := Lib.hid ha
              clear ha HQ1
              go_wp2_with fail
              refine (giU8 HA1.out (by omega)).mono ?_
              rintro e w7 ⟨rfl, ha, _⟩
              have HA2 := Lib.hid ha
              clear ha HA1
              go_wp2_with fail
              refine (giFlag HA2.out).mono ?_
              rintro e w8 ⟨rfl, ha, _⟩
              have HA3 := Lib.hid ha
              clear ha HA2
              have d3 := HA3.out.only.cellq HC3.out
              by_cases hs : t.size < 65536
              · rw [txB, if_pos hs] at HA3
                have hs' : (t.size : Int) < 65536 := by omega
                have HSZ := Lib.hid (show t.data.toList.length ≤ 65535 by rw [Array.length_toList]; exact Nat.le_of_lt_succ hs)
                have HS := Lib.hid hS
                clear hs hS
                go_wp2_with fail
                refine (giText HA3.out HSZ.out).mono ?_
                rintro e w9 ⟨rfl, ha, _⟩
                rw [HYS.out] at ha
                have HA4 := Lib.hid ha
                clear ha HA3
                go_wp2
                go_roundw
                case rel => exact ⟨j + 1, by omega, by go_num, HA4⟩
                case measure => simp [intOf]; omega
              · rw [txB, if_neg hs, List.nil_append, HYS.out] at HA3
                have hs' : ¬ (t.size : Int) < 65536 := by omega
                have hd : decide ((t.size : Int) < 65536) = false := decide_eq_false hs'
                have HS := Lib.hid hS
                clear hs hS
                go_wp2
                go_roundw
                case rel => exact ⟨j + 1, by omega, by go_num, HA3⟩
                case measure => simp [intOf]; omega
            · obtain rfl : j = ps.length := by omega
              have HQ1 : Hid (InG w wr q2 [0, 0, 0] false) := by
                have := HQ.out
                rw [List.drop_length] at this
                exact this
              clear HQ
              go_wp2_with fail
              refine (outU8_nil 1 wr (by omega)).mono ?_
              rintro e wz ⟨rfl, rfl⟩
              go_wp2_with fail
              refine (giU32_short HQ1.out).mono ?_
              rintro e w6 ⟨rfl, ha⟩
              have HA1 := Lib.hid ha
              clear ha HQ1
              go_wp2_with (first
                | (go_at_call_of 17 (Value.pointer none); refine (bad_nil _).mono ?_; rintro e wz ⟨rfl, rfl⟩)
                | (go_at_call 17; refine (giBad HA1.out).mono ?_; rintro e wz ⟨rfl, rfl⟩)
                | (go_at_call_of 20 (Value.pointer none); refine (inDone_nil _).mono ?_; rintro e wz ⟨rfl, rfl⟩)
                | (go_at_call 20; refine (giDone HA1.out).mono ?_; rintro e wz ⟨rfl, rfl⟩)
                | (go_at_call 29; refine (inU8_nil _).mono ?_; rintro e wz ⟨rfl, rfl⟩)
                | (go_at_call 18; refine (left_nil _).mono ?_; rintro e wz ⟨rfl, rfl⟩)
                | (go_at_call 31; refine (inText_nil _).mono ?_; rintro e wz ⟨rfl, rfl⟩)
                | (go_at_call 25; refine (outText_nil _ _).mono ?_; rintro e wz ⟨rfl, rfl⟩)
                | (go_at_call 27; refine (outBytes_nil _).mono ?_; rintro e wz ⟨rfl, rfl⟩))
              go_ret
              exact ⟨rfl, HA1.out.only⟩

end Go.Proofs.Yticaonmifblnbaa
