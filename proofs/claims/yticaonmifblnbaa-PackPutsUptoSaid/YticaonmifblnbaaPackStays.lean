/-
  The walk of the statement PackStays.
-/
import Derived.Test.YticaonmifblnbaaPackLaw0
import Derived.Deep.DeepCutAuto
import Derived.Deep.CutBlock
namespace Go.Proofs.Yticaonmifblnbaa
open Go Go.RowKit Go.Lib
set_option linter.unusedVariables false

/-- The In at a round's head: what is left, whether it is bad. -/
def StIn (w0 : World) (p : Nat) (xs : List UInt8) (bd : Bool) (w : World) : Prop := ∃ v, InV w p v xs bd ∧ Only (fun _ => False) w0 w

/-- Behind a take: what it answered is the zero ('z') where the In was bad, or became bad. -/
structure Took (w0 : World) (p : Nat) (xs : List UInt8) (bd z : Bool) (ys : List UInt8) (bd' : Bool) (w : World) : Prop where
  inv : StIn w0 p ys bd' w
  le : ys.length ≤ xs.length
  stay : bd = true → z = true ∧ ys = xs ∧ bd' = true
  zero : bd' = true → z = true

theorem took_num {w0 w w' : World} {p n : Nat} {xs : List UInt8} {bd : Bool} {v' : Value} (h : Only (fun _ => False) w0 w) (hp : w0.heap.size ≤ p) (hI : InV w' p v' (nextL n xs bd) (!can n xs bd)) (ho : Only (fun k => k = p) w w') :
    Took w0 p xs bd ((numB (nextR n xs bd) : Int) == 0) (nextL n xs bd) (!can n xs bd) w' := by
  refine ⟨⟨v', hI, h.none ho (fun k e => e ▸ hp)⟩, ?_, ?_, ?_⟩
  · unfold nextL; split <;> simp
  · rintro rfl; simp [can, nextR, nextL, numB]
  · intro hc
    have : can n xs bd = false := by simpa using hc
    simp [nextR, this, numB]

theorem took_flag {w0 w w' : World} {p : Nat} {xs : List UInt8} {bd : Bool} {v' : Value} (h : Only (fun _ => False) w0 w) (hp : w0.heap.size ≤ p) (hI : InV w' p v' (flagL xs bd) (!flagOk xs bd)) (ho : Only (fun k => k = p) w w') :
    Took w0 p xs bd (!flagR xs bd) (flagL xs bd) (!flagOk xs bd) w' := by
  refine ⟨⟨v', hI, h.none ho (fun k e => e ▸ hp)⟩, ?_, ?_, ?_⟩
  · unfold flagL; split <;> simp
  · rintro rfl; simp [flagOk, flagR, flagL, can]
  · intro hc
    have : flagOk xs bd = false := by simpa using hc
    simp [flagR, this]

theorem took_text {w0 w w' : World} {p : Nat} {xs : List UInt8} {bd : Bool} {v' : Value} (h : Only (fun _ => False) w0 w) (hp : w0.heap.size ≤ p) (hI : InV w' p v' (txtL xs bd) (!txtOk xs bd)) (ho : Only (fun k => k = p) w w') :
    Took w0 p xs bd (txtR xs bd).isEmpty (txtL xs bd) (!txtOk xs bd) w' := by
  refine ⟨⟨v', hI, h.none ho (fun k e => e ▸ hp)⟩, ?_, ?_, ?_⟩
  · unfold txtL; split <;> simp
  · rintro rfl; simp [txtOk, txtR, txtL, can]
  · intro hc
    have : txtOk xs bd = false := by simpa using hc
    simp [txtR, this]

theorem kind_cases (z : Int) : ∃ m : Nat, m < 6 ∧ (wrap64 (z.tmod 6 + 6)).tmod 6 = (m : Int) := by
  have h1 := Int.tmod_lt_of_pos z (b := 6) (by omega)
  have h2 := Int.lt_tmod_of_pos z (b := 6) (by omega)
  have e : wrap64 (z.tmod 6 + 6) = z.tmod 6 + 6 := by unfold wrap64; omega
  rw [e]
  have h3 : 0 ≤ z.tmod 6 + 6 := by omega
  rw [Int.tmod_eq_emod_of_nonneg h3]
  exact ⟨((z.tmod 6 + 6) % 6).toNat, by omega, by omega⟩

set_option maxRecDepth 100000 in
set_option maxHeartbeats 1000000 in
theorem stays_walk (vb : Value) (bs : List UInt8) (ao : Option Addr) (c : Nat) (ks : List Int) (w : World) (hb : SlC w vb bs) (hbl : bs.length ≤ 140737488355328) (hk : SlI w ao ks) (hkl : ks.length ≤ 140737488355328) :
    Calls Try.prog 7 #[vb, .slice ao ks.length c] w fun e w' => e = .returned (.bool true) ∧ Quiet w w' := by
  have HB := Lib.hid hb
  have HK := Lib.hid hk
  obtain ⟨bo, bc, rfl⟩ := hb.shape
  clear hb hk
  go_enter Try.func7, Try.ntmps7
  go_wp2_with fail
  refine (awake_any w).mono ?_
  rintro e w0 ⟨rfl, hq⟩
  have HO0 : Hid (Only (fun _ => False) w w0) := Lib.hid hq; clear hq
  go_wp2_with fail
  refine (to_any _ bs _ (HB.out.keep HO0.out) hbl).mono ?_
  rintro e w1 ⟨q, u1, rfl, hI, hq, ho⟩
  have HO1 : Hid (Only (fun _ => False) w w1) := Lib.hid (HO0.out.trans ho (fun _ _ h => h))
  have HG := Lib.hid (show w.heap.size ≤ q by have := HO0.out.size; omega)
  have HI1 : Hid (StIn w q bs false w1) := Lib.hid ⟨u1, hI, HO1.out⟩
  clear hI hq ho HO0
  go_wp2_with fail
  go_loopw [6, 7, 8] (fun l b i wr => ∃ (k : Nat) (xs : List UInt8) (bd : Bool), k ≤ ks.length ∧ i = .int .i64 k ∧ b = .bool bd ∧ l = .int .i64 xs.length ∧ Hid (StIn w q xs bd wr)) (fun _ _ i _ => ks.length - (intOf i).toNat)
  case atStart => exact ⟨0, bs, false, Nat.zero_le _, rfl, rfl, rfl, HI1⟩
  case round =>
    obtain ⟨k, xs, bd, hk, rfl, rfl, rfl, HS⟩ := hrel
    clear HI1 HO1
    by_cases hlt : k < ks.length
    · obtain ⟨g, off, rfl, hcell⟩ := HK.out k hlt
      by_cases h100 : k < 100
      · obtain ⟨v, hI, ho⟩ := HS.out
        have hc : wr.cell? ⟨g, off + k, none⟩ = some (.int .i64 (ks.getD k 0)) := ho.cellq hcell
        have hd100 : decide ((k : Int) < 100) = true := decide_eq_true (by omega)
        obtain ⟨z, hz⟩ : ∃ z, z = ks.getD k 0 := ⟨_, rfl⟩
        rw [← hz] at hc
        clear hcell hz
        have HI := Lib.hid hI
        have HO := Lib.hid ho
        clear hI ho
        go_upto_block 2 with fail
        obtain ⟨m, hm6, hm⟩ := kind_cases z
        rw [hm]
        clear hm
        go_cut [9] (fun s9 wx => ∃ z' ys bd', s9 = .bool z' ∧ Hid (Took w q xs bd z' ys bd' wx))
        case first =>
          match m, hm6 with
          | 0, hlt6 =>
            go_wp2_with fail
            refine (inU8 q v xs bd wr HI.out).mono ?_
            rintro e w2 ⟨v2, rfl, hI2, ho2⟩
            have HT := Lib.hid (took_num HO.out HG.out hI2 ho2)
            clear hI2 ho2 HI HO
            go_wp2
            go_meet
            exact ⟨_, _, _, rfl, HT⟩
          | 1, hlt6 =>
            go_wp2_with fail
            refine (inU16 q v xs bd wr HI.out).mono ?_
            rintro e w2 ⟨v2, rfl, hI2, ho2⟩
            have HT := Lib.hid (took_num HO.out HG.out hI2 ho2)
            clear hI2 ho2 HI HO
            go_wp2
            go_meet
            exact ⟨_, _, _, rfl, HT⟩
          | 2, hlt6 =>
            go_wp2_with fail
            refine (inU32 q v xs bd wr HI.out).mono ?_
            rintro e w2 ⟨v2, rfl, hI2, ho2⟩
            have HT := Lib.hid (took_num HO.out HG.out hI2 ho2)
            clear hI2 ho2 HI HO
            go_wp2
            go_meet
            exact ⟨_, _, _, rfl, HT⟩
          | 3, hlt6 =>
            go_wp2_with fail
            refine (inU64 q v xs bd wr HI.out).mono ?_
            rintro e w2 ⟨v2, rfl, hI2, ho2⟩
            have HT := Lib.hid (took_num HO.out HG.out hI2 ho2)
            clear hI2 ho2 HI HO
            go_wp2
            go_meet
            exact ⟨_, _, _, rfl, HT⟩
          | 4, hlt6 =>
            go_wp2_with fail
            refine (inFlag q v xs bd wr HI.out).mono ?_
            rintro e w2 ⟨v2, rfl, hI2, ho2⟩
            have HT := Lib.hid (took_flag HO.out HG.out hI2 ho2)
            clear hI2 ho2 HI HO
            go_wp2
            go_meet
            exact ⟨_, _, _, rfl, HT⟩
          | 5, hlt6 =>
            go_wp2_with fail
            refine (inText q v xs bd wr HI.out).mono ?_
            rintro e w2 ⟨v2, rfl, hI2, ho2⟩
            have HT := Lib.hid (took_text HO.out HG.out hI2 ho2)
            clear hI2 ho2 HI HO
            go_wp2
            go_meet
            exact ⟨_, _, _, rfl, HT⟩
          | m + 6, hlt6 => omega
        case rest =>
          obtain ⟨z', ys, bd', rfl, HT⟩ := hcut
          obtain ⟨v', hI', ho'⟩ := HT.out.inv
          have HI' := Lib.hid hI'
          have HO' := Lib.hid ho'
          clear hI' ho' HI HO hd100
          obtain ⟨lo, lc, rfl, _⟩ := HI'.out.sl.shape
          have hc0 := HI'.out.cell0
          have hc1 := HI'.out.cell1
          cases bd with
          | true =>
            obtain ⟨rfl, rfl, rfl⟩ := HT.out.stay rfl
            go_wp2_with (first
              | (go_at_call 18; refine (left_any q _ _ _ _ hc0).mono ?_; rintro e w' ⟨rfl, rfl⟩)
              | (go_at_call 17; refine (bad_any q _ _ hc1).mono ?_; rintro e w' ⟨rfl, rfl⟩)
              | (go_at_call 20; refine (inDone q _ _ _ _ HI'.out).mono ?_; rintro e w' ⟨rfl, rfl⟩))
            go_roundw
            case rel => exact ⟨k + 1, ys, true, by omega, by go_num, rfl, rfl, Lib.hid ⟨_, HI'.out, HO'.out⟩⟩
            case measure => simp [intOf]; omega
          | false =>
            have hle := HT.out.le
            have hle' : ¬ (xs.length : Int) < (ys.length : Int) := by omega
            cases bd' with
            | true =>
              obtain rfl := HT.out.zero rfl
              go_wp2_with (first
                | (go_at_call 18; refine (left_any q _ _ _ _ hc0).mono ?_; rintro e w' ⟨rfl, rfl⟩)
                | (go_at_call 17; refine (bad_any q _ _ hc1).mono ?_; rintro e w' ⟨rfl, rfl⟩)
                | (go_at_call 20; refine (inDone q _ _ _ _ HI'.out).mono ?_; rintro e w' ⟨rfl, rfl⟩))
              go_roundw
              case rel => exact ⟨k + 1, ys, true, by omega, by go_num, rfl, rfl, Lib.hid ⟨_, HI'.out, HO'.out⟩⟩
              case measure => simp [intOf]; omega
            | false =>
              go_wp2_with (first
                | (go_at_call 18; refine (left_any q _ _ _ _ hc0).mono ?_; rintro e w' ⟨rfl, rfl⟩)
                | (go_at_call 17; refine (bad_any q _ _ hc1).mono ?_; rintro e w' ⟨rfl, rfl⟩)
                | (go_at_call 20; refine (inDone q _ _ _ _ HI'.out).mono ?_; rintro e w' ⟨rfl, rfl⟩))
              go_roundw
              case rel => exact ⟨k + 1, ys, false, by omega, by go_num, rfl, rfl, Lib.hid ⟨_, HI'.out, HO'.out⟩⟩
              case measure => simp [intOf]; omega
      · have h100' : ¬ (k : Int) < 100 := by omega
        go_wp2
        go_ret
        exact ⟨rfl, HS.out.choose_spec.2⟩
    · go_wp2
      go_ret
      exact ⟨rfl, HS.out.choose_spec.2⟩

end Go.Proofs.Yticaonmifblnbaa
