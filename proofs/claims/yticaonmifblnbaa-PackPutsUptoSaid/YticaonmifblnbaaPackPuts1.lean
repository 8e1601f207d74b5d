/-
  The walk of the statements' puts: any pieces, into the program's Out and the document's.
-/
import Derived.Test.YticaonmifblnbaaPackDuo
import Derived.Test.YticaonmifblnbaaPackBack
namespace Go.Proofs.Yticaonmifblnbaa
open Go Go.RowKit Go.Lib
set_option linter.unusedVariables false

def kindN (z : Int) : Nat := ((wrap64 (z.tmod 6 + 6)).tmod 6).toNat
theorem kindN_spec (z : Int) : kindN z < 6 ∧ (wrap64 (z.tmod 6 + 6)).tmod 6 = (kindN z : Int) := by
  obtain ⟨m, hm, e⟩ := kind_cases z
  unfold kindN
  rw [e]
  exact ⟨by omega, by omega⟩

def pieceP (m x : Nat) (t : ByteArray) : List UInt8 :=
  match m with
  | 0 => beB 1 x
  | 1 => beB 2 x
  | 2 => beB 4 x
  | 3 => beB 8 x
  | 4 => flagB (x % 2 == 1)
  | _ => txF t
def allP (ps : List Pt) : List UInt8 := ps.flatMap fun p => pieceP (kindN p.K) p.N p.S

theorem of_eq {a b : Nat} (h : a % 256 = b % 256) : UInt8.ofNat a = UInt8.ofNat b := by
  apply UInt8.toNat_inj.1
  simpa using h
theorem be1 (x : Nat) : beB 1 (x % 256) = beB 1 x := by
  simp only [beB]
  rw [of_eq (a := x % 256 / 256 ^ 0) (b := x / 256 ^ 0) (by omega)]
theorem be2 (x : Nat) : beB 2 (x % 65536) = beB 2 x := by
  simp only [beB]
  rw [of_eq (a := x % 65536 / 256 ^ 1) (b := x / 256 ^ 1) (by omega), of_eq (a := x % 65536 / 256 ^ 0) (b := x / 256 ^ 0) (by omega)]
theorem be4 (x : Nat) : beB 4 (x % 4294967296) = beB 4 x := by
  simp only [beB]
  rw [of_eq (a := x % 4294967296 / 256 ^ 3) (b := x / 256 ^ 3) (by omega), of_eq (a := x % 4294967296 / 256 ^ 2) (b := x / 256 ^ 2) (by omega), of_eq (a := x % 4294967296 / 256 ^ 1) (b := x / 256 ^ 1) (by omega), of_eq (a := x % 4294967296 / 256 ^ 0) (b := x / 256 ^ 0) (by omega)]

theorem txF_length (s : ByteArray) : (txF s).length ≤ 2 + s.size := by
  unfold txF
  split
  · rw [txtB_length, Array.length_toList]; exact Nat.le_refl _
  · simp
theorem pieceP_length (m x : Nat) (t : ByteArray) : (pieceP m x t).length ≤ 8 + t.size := by
  have := txF_length t
  unfold pieceP
  split <;> simp [beB_length, flagB_length] <;> omega
theorem allP_append (a b : List Pt) : allP (a ++ b) = allP a ++ allP b := by simp only [allP, List.flatMap_append]
theorem allP_cons (p : Pt) (b : List Pt) : allP (p :: b) = pieceP (kindN p.K) p.N p.S ++ allP b := by simp only [allP, List.flatMap_cons]
theorem allP_length (ps : List Pt) : (allP ps).length ≤ 8 * tot ps := by
  induction ps with
  | nil => simp [allP]
  | cons p ps ih =>
    have := pieceP_length (kindN p.K) p.N p.S
    rw [allP_cons, tot_cons, List.length_append]
    omega
theorem allP_take (ps : List Pt) {k : Nat} (hk : k < ps.length) : allP (ps.take (k + 1)) = allP (ps.take k) ++ pieceP (kindN (ps.getD k default).K) (ps.getD k default).N (ps.getD k default).S := by
  rw [List.take_succ_eq_append_getElem hk, allP_append, allP_cons, getD_at ps hk]
  simp only [allP, List.flatMap_nil, List.append_nil]

def PutsPost (w : World) (ps : List Pt) (e : Ending) (w' : World) : Prop :=
  ∃ ao cap vr, e = .returned (.tuple #[.slice ao (allP ps).length cap, vr, .bool true]) ∧ w'.ownsRow w.heap.size 5 1 (.slice ao (allP ps).length cap) (allP ps).length (u8s (allP ps)) ∧ SlB w' vr (allP ps) ∧ Only (fun _ => False) w w'

set_option maxRecDepth 100000 in
set_option maxHeartbeats 4000000 in
theorem puts_any (ao : Option Addr) (c : Nat) (ps : List Pt) (w : World) (hp : SlP w ao ps) (ht : tot ps ≤ 1048576) :
    Calls Try.prog 9 #[.slice ao ps.length c] w (PutsPost w ps) := by
  have hpl := length_tot ps
  have HP := Lib.hid hp; clear hp
  have HD0 := Lib.hid (duo_new w)
  go_enter Try.func9, Try.ntmps9
  go_wp2_with fail
  go_loopw [7, 8] (fun sm i wr => sm = .bool true ∧ ∃ k : Nat, k ≤ ps.length ∧ i = .int .i64 k ∧ Hid (Duo w wr w.heap.size (allP (ps.take k)) (w.heap.size + 1) (allP (ps.take k)))) (fun _ i _ => ps.length - (intOf i).toNat)
  case atStart => exact ⟨rfl, 0, Nat.zero_le _, rfl, HD0⟩
  case round =>
    obtain ⟨rfl, k, hk, rfl, HQ⟩ := hrel
    clear HD0
    by_cases hlt : k < ps.length
    · obtain ⟨g, off, rfl, c1, c2, c3, hN⟩ := HP.out k hlt
      have hS := size_tot ps hlt
      have hL : (allP (ps.take k)).length ≤ 8388608 := by have a := allP_length (ps.take k); have b := tot_take ps k; omega
      have hT := allP_take ps hlt
      obtain ⟨z, hz⟩ : ∃ z, z = (ps.getD k default).K := ⟨_, rfl⟩
      obtain ⟨x, hx⟩ : ∃ x, x = (ps.getD k default).N := ⟨_, rfl⟩
      obtain ⟨t, hTT⟩ : ∃ t, t = (ps.getD k default).S := ⟨_, rfl⟩
      rw [← hz] at c1 hT
      rw [← hx] at c2 hN hT
      rw [← hTT] at c3 hS hT
      obtain ⟨xs, hxs⟩ : ∃ xs, xs = allP (ps.take k) := ⟨_, rfl⟩
      rw [← hxs] at HQ hL hT
      obtain ⟨hm6, hm⟩ := kindN_spec z
      have HT := Lib.hid hT
      have HN := Lib.hid hN
      have HC2 := Lib.hid c2
      have HC3 := Lib.hid c3
      have d1 := HQ.out.only.cellq c1
      have d2 := HQ.out.only.cellq c2
      have HS := Lib.hid hS
      clear c1 c2 c3 hN hz hx hTT hxs hT hS
      obtain ⟨m, hmm⟩ : ∃ m, m = kindN z := ⟨_, rfl⟩
      rw [← hmm] at hm6 hm HT
      clear hmm
      go_upto_block 2 with fail
      try rw [hm]
      clear hm d1 d2
      match m, hm6 with
      | 0, hm6 =>
        go_wp2_with fail
        first | rw [show IntKind.u8.wrap (x : Int) = ((x % 256 : Nat) : Int) by rw [IntKind.wrap_u8']; omega] | rw [show ((x : Int) % 256) = ((x % 256 : Nat) : Int) by omega]
        refine (HQ.out.callP (fun v hV => outU8 _ (x % 256) v _ _ hV (by omega) (by omega))).mono ?_
        rintro e w1 ⟨rfl, ha⟩
        have HA := Lib.hid ha
        clear ha HQ
        go_wp2_with fail
        refine (HA.out.callR (fun v hV => R.putNumber _ x 1 v _ _ hV (by omega) HN.out (by omega))).mono ?_
        rintro e w2 ⟨rfl, ha⟩
        rw [be1] at ha
        have HF : Hid (Duo w w2 w.heap.size (allP (ps.take (k + 1))) (w.heap.size + 1) (allP (ps.take (k + 1)))) := by
          show Duo _ _ _ _ _ _
          rw [HT.out]
          exact ha
        clear ha HA HT
        go_wp2
        go_roundw
        case rel => exact ⟨rfl, k + 1, by omega, by go_num, HF⟩
        case measure => simp [intOf]; omega
      | 1, hm6 =>
        go_wp2_with fail
        first | rw [show IntKind.u16.wrap (x : Int) = ((x % 65536 : Nat) : Int) by rw [IntKind.wrap_u16]; omega] | rw [show ((x : Int) % 65536) = ((x % 65536 : Nat) : Int) by omega]
        refine (HQ.out.callP (fun v hV => outU16 _ (x % 65536) v _ _ hV (by omega) (by omega))).mono ?_
        rintro e w1 ⟨rfl, ha⟩
        have HA := Lib.hid ha
        clear ha HQ
        go_wp2_with fail
        refine (HA.out.callR (fun v hV => R.putNumber _ x 2 v _ _ hV (by omega) HN.out (by omega))).mono ?_
        rintro e w2 ⟨rfl, ha⟩
        rw [be2] at ha
        have HF : Hid (Duo w w2 w.heap.size (allP (ps.take (k + 1))) (w.heap.size + 1) (allP (ps.take (k + 1)))) := by
          show Duo _ _ _ _ _ _
          rw [HT.out]
          exact ha
        clear ha HA HT
        go_wp2
        go_roundw
        case rel => exact ⟨rfl, k + 1, by omega, by go_num, HF⟩
        case measure => simp [intOf]; omega
      | 2, hm6 =>
        go_wp2_with fail
        first | rw [show IntKind.u32.wrap (x : Int) = ((x % 4294967296 : Nat) : Int) by rw [IntKind.wrap_u32']; omega] | rw [show ((x : Int) % 4294967296) = ((x % 4294967296 : Nat) : Int) by omega]
        refine (HQ.out.callP (fun v hV => outU32 _ (x % 4294967296) v _ _ hV (by omega) (by omega))).mono ?_
        rintro e w1 ⟨rfl, ha⟩
        have HA := Lib.hid ha
        clear ha HQ
        go_wp2_with fail
        refine (HA.out.callR (fun v hV => R.putNumber _ x 4 v _ _ hV (by omega) HN.out (by omega))).mono ?_
        rintro e w2 ⟨rfl, ha⟩
        rw [be4] at ha
        have HF : Hid (Duo w w2 w.heap.size (allP (ps.take (k + 1))) (w.heap.size + 1) (allP (ps.take (k + 1)))) := by
          show Duo _ _ _ _ _ _
          rw [HT.out]
          exact ha
        clear ha HA HT
        go_wp2
        go_roundw
        case rel => exact ⟨rfl, k + 1, by omega, by go_num, HF⟩
        case measure => simp [intOf]; omega
      | 3, hm6 =>
        go_wp2_with fail
        skip
        refine (HQ.out.callP (fun v hV => outU64 _ x v _ _ hV HN.out (by omega))).mono ?_
        rintro e w1 ⟨rfl, ha⟩
        have HA := Lib.hid ha
        clear ha HQ
        go_wp2_with fail
        refine (HA.out.callR (fun v hV => R.putNumber _ x 8 v _ _ hV (by omega) HN.out (by omega))).mono ?_
        rintro e w2 ⟨rfl, ha⟩
        skip
        have HF : Hid (Duo w w2 w.heap.size (allP (ps.take (k + 1))) (w.heap.size + 1) (allP (ps.take (k + 1)))) := by
          show Duo _ _ _ _ _ _
          rw [HT.out]
          exact ha
        clear ha HA HT
        go_wp2
        go_roundw
        case rel => exact ⟨rfl, k + 1, by omega, by go_num, HF⟩
        case measure => simp [intOf]; omega
      | 4, hm6 =>
        go_wp2_with fail
        rw [odd_eq x]
        refine (HQ.out.callP (fun v hV => outFlag _ (x % 2 == 1) v _ _ hV (by omega))).mono ?_
        rintro e w1 ⟨rfl, ha⟩
        have HA := Lib.hid ha
        clear ha HQ
        go_wp2_with fail
        rw [odd_eq x]
        refine (HA.out.callR (fun v hV => R.outFlag _ (x % 2 == 1) v _ _ hV (by omega))).mono ?_
        rintro e w2 ⟨rfl, ha⟩
        have HF : Hid (Duo w w2 w.heap.size (allP (ps.take (k + 1))) (w.heap.size + 1) (allP (ps.take (k + 1)))) := by
          show Duo _ _ _ _ _ _
          rw [HT.out]
          exact ha
        clear ha HA HT
        go_wp2
        go_roundw
        case rel => exact ⟨rfl, k + 1, by omega, by go_num, HF⟩
        case measure => simp [intOf]; omega
      | 5, hm6 =>
        have d3 := HQ.out.only.cellq HC3.out
        have HQd := Lib.hid (HQ.out.quiet ((Only.refl (fun _ => False) wr).drew))
        have HSZ := Lib.hid (show xs.length + 2 + t.size ≤ 140737488355328 by have := HS.out; omega)
        go_upto_region 9 with fail
        go_region_held3 (fun w' => w'.cell? ⟨g, off + k * 3 + 2, none⟩ = some (.string t))
          (first
            | exact HA2.out.only.cellq HC3.out
            | exact HA1.out.only.cellq HC3.out
            | exact HQd.out.only.cellq HC3.out)
          (first
            | (go_at_call 25; (with_reducible refine (HQd.out.textP t HSZ.out).mono ?_); rintro e w1 ⟨rfl, ha⟩; have HA1 := Lib.hid ha; clear ha)
            | (go_at_call 37; (with_reducible refine (HA1.out.textR t HSZ.out).mono ?_); rintro e w2 ⟨rfl, ha⟩; have HA2 := Lib.hid ha; clear ha))
        have HF : Hid (Duo w w2 w.heap.size (allP (ps.take (k + 1))) (w.heap.size + 1) (allP (ps.take (k + 1)))) := by
          show Duo _ _ _ _ _ _
          rw [HT.out]
          exact HA2.out
        clear HA1 HA2 HT HQ HQd
        go_wp2
        go_roundw
        case rel => exact ⟨rfl, k + 1, by omega, by go_num, HF⟩
        case measure => simp [intOf]; omega
      | m + 6, hm6 => omega
    · obtain rfl : k = ps.length := by omega
      have hLA : (allP ps).length ≤ 140737488355328 := by have := allP_length ps; omega
      obtain ⟨vp, vr, hP, hR, h1, h2, h3⟩ := HQ.out.ex
      rw [List.take_length] at hP hR
      obtain ⟨ro, rc, rfl⟩ := own_shape hR.own
      have HPV := Lib.hid hP
      have HRV := Lib.hid hR
      have HO := Lib.hid HQ.out.only
      clear hP hR h1 h2 h3 HQ
      have d0 : wr.cell? ⟨w.heap.size + 1, 0, none⟩ = some (.slice ro (allP ps).length rc) := R.OutV.cell HRV.out
      have HPd : Hid (OutV wr.drew w.heap.size vp (allP ps)) := Lib.hid (HPV.out.keep ((Only.refl (fun _ => False) wr).drew) (fun h => h) (fun _ _ h => h))
      have HRd : Hid (R.OutV wr.drew (w.heap.size + 1) (.slice ro (allP ps).length rc) (allP ps)) := Lib.hid (R.OutV.keep HRV.out ((Only.refl (fun _ => False) wr).drew) (fun h => h) (fun _ _ h => h))
      go_upto_region 25 with fail
      go_region_held3 (fun w' => w'.cell? ⟨w.heap.size + 1, 0, none⟩ = some (.slice ro (allP ps).length rc))
        (first
          | exact R.OutV.cell HR1.out
          | exact R.OutV.cell HRd.out)
        (first
          | (go_at_call 27; (with_reducible refine (outBytes _ _ _ _ HPd.out hLA).mono ?_); rintro e w1 ⟨rb, rfl, hb, ho⟩; have HB := Lib.hid hb; have HW := Lib.hid ho; have HR1 := Lib.hid (R.OutV.keep HRd.out ho (fun h => h) (fun _ _ h => h)); clear hb ho))
      obtain ⟨bo, bc, hbe⟩ := own_shape HB.out
      go_wp2
      go_ret3
      refine ⟨bo, bc, _, by rw [← hbe]; rfl, ?_, own_toB HR1.out.own, ?_⟩
      · rw [← hbe]
        have h1 := HB.out
        refine ⟨h1.1, ?_⟩
        rcases h1.2 with h0 | ⟨g, cap, cur, e1, hge, rest⟩
        · exact .inl h0
        · exact .inr ⟨g, cap, cur, e1, by have := HO.out.size; exact Nat.le_trans this hge, rest⟩
      · exact (HO.out.drew).trans HW.out (fun _ _ h => h)

end Go.Proofs.Yticaonmifblnbaa
