/-
  The walk of the statement DiskPads.
-/
import Derived.Test.YtioabebbddlokaaDisk8
namespace Go.Proofs.Ytioabebbddlokaa
open Go Go.RowKit
set_option linter.unusedVariables false

def modN (m : Nat) (z : Int) : Nat := ((wrap64 (z.tmod m + m)).tmod m).toNat
theorem modN_spec (m : Nat) (h0 : 0 < m) (hm : m ≤ 1000) (z : Int) : modN m z < m ∧ (wrap64 (z.tmod m + m)).tmod m = (modN m z : Int) := by
  have h1 : -(m : Int) < z.tmod m ∧ z.tmod m < m := by
    have a := Int.tmod_lt_of_pos z (show (0 : Int) < m by omega)
    have b := Int.lt_tmod_of_pos z (show (0 : Int) < m by omega)
    exact ⟨by omega, a⟩
  have h2 : wrap64 (z.tmod m + m) = z.tmod m + m := IntWalk.wrap64_in _ ⟨by omega, by omega⟩
  unfold modN
  rw [h2]
  have h3 : 0 ≤ (z.tmod m + m).tmod m := Int.tmod_nonneg _ (by omega)
  have h4 : (z.tmod m + m).tmod m < m := Int.tmod_lt_of_pos _ (by omega)
  exact ⟨by omega, by omega⟩

theorem DS.write_free {D : DS} (hd : D.down = false) (hf : D.fuse < 0) {i : Nat} (hi : i < D.n) {b : List UInt8} (hb : b.length ≤ 64) : D.write i b = D.lay i (pad b) ∧ D.wrE i b = 0 := by
  have h1 := DS.last_free hd hf
  have h2 : D.has i = true := by simp [DS.has]; omega
  have h3 : decide (64 < b.length) = false := decide_eq_false (by omega)
  simp [DS.write, DS.wrE, h1, h2, h3]


theorem sec_zero (n i : Nat) (hi : i < n) : sec (List.replicate (n * 64) 0) i = List.replicate 64 0 := by
  rw [sec, List.drop_replicate, List.take_replicate]
  congr 1
  omega
theorem pad_get (b : List UInt8) (k : Nat) (hk : k < 64) (hb : b.length ≤ 64) : (pad b).getD k 0 = if k < b.length then b.getD k 0 else 0 := by
  by_cases h : k < b.length
  · simp [pad, h, List.getD_eq_getElem?_getD, List.getElem?_append]
  · have h2 : k - b.length < 64 - b.length := by omega
    simp [pad, h, List.getD_eq_getElem?_getD, List.getElem?_append, h2]
theorem SlC.cell {w : World} {ao : Option Addr} {n c : Nat} {xs : List UInt8} (h : SlC w (.slice ao n c) xs) {j : Nat} (hj : j < xs.length) :
    ∃ g off, ao = some ⟨g, off, none⟩ ∧ w.cell? ⟨g, off + j, none⟩ = some (.int .u8 (xs.getD j 0).toNat) := by
  rcases h with ⟨_, rfl⟩ | ⟨a, cap, e, hc⟩
  · simp at hj
  · simp at e
    obtain ⟨rfl, _, _⟩ := e
    have h1 := hc j hj
    obtain ⟨b, off, spot⟩ := a
    have hspot : spot = none := by simpa [Addr.add] using World.cell?_spot (hc 0 (by omega))
    subst hspot
    exact ⟨b, off, rfl, by rw [← add_lit]; exact h1⟩
/-- What DiskPads reads. -/
theorem pads_read (at' : Nat) (h8 : at' < 8) (a b : List UInt8) (ha : a.length ≤ 64) (hb : b.length ≤ 64) (i : Nat) (hi : i < 8) :
    sec (((DS.new 8).lay at' (pad a)).lay at' (pad b)).N i = if i = at' then pad b else List.replicate 64 0 := by
  have l1 : (put (List.replicate (8 * 64) 0) at' (pad a)).length = 8 * 64 := put_length List.length_replicate h8 (pad_length ha)
  show sec (put (put (List.replicate (8 * 64) 0) at' (pad a)) at' (pad b)) i = _
  by_cases h : i = at'
  · subst h
    rw [sec_put_same l1 hi (pad_length hb), if_pos rfl]
  · rw [sec_put_other l1 h8 (pad_length hb) h, sec_put_other (n := 8) List.length_replicate h8 (pad_length ha) h, sec_zero 8 i hi, if_neg h]

set_option maxRecDepth 100000 in
set_option maxHeartbeats 1000000 in
theorem pads_walk (z : Int) (va vb : Value) (xs bs : List UInt8) (w : World) (ha : SlC w va xs) (hb : SlC w vb bs) :
    Calls Try.prog 8 #[.int .i64 z, va, vb] w fun e w' => e = .returned (.bool true) ∧ Quiet w w' := by
  obtain ⟨h8, hm⟩ := modN_spec 8 (by decide) (by decide) z
  obtain ⟨n, hn⟩ : ∃ n, n = modN 8 z := ⟨_, rfl⟩
  rw [← hn] at h8 hm
  have hm : (wrap64 (z.tmod 8 + 8)).tmod 8 = (n : Int) := hm
  obtain ⟨ao, ac, rfl⟩ := ha.shape
  obtain ⟨bo, bc, rfl⟩ := hb.shape
  have HA := Lib.hid ha
  have HB := Lib.hid hb
  have HM := Lib.hid hm
  clear ha hb hm hn
  go_enter Try.func8, Try.ntmps8
  go_wp2_with fail
  refine (awake_any w).mono ?_
  rintro e w0 ⟨rfl, hq⟩
  have H0 := Lib.hid ((Own.start w).quiet hq); clear hq
  go_wp2_with fail
  refine (own_new H0.out 8 (by decide) (by decide)).mono ?_
  rintro e w1 ⟨p, rfl, h1⟩
  have H1 := Lib.hid h1; clear h1 H0
  by_cases hA : xs.length ≤ 64
  · by_cases hB : bs.length ≤ 64
    · have hA' : ¬ (64 : Int) < (xs.length : Int) := by omega
      have hB' : ¬ (64 : Int) < (bs.length : Int) := by omega
      have hA2 : decide ((64 : Int) < (xs.length : Int)) = false := decide_eq_false hA'
      have hB2 : decide ((64 : Int) < (bs.length : Int)) = false := decide_eq_false hB'
      go_wp2_with fail
      simp only [HM.out]
      have hD0 := DS.write_free (D := DS.new 8) rfl (by decide) (i := n) h8 hA
      refine (own_write H1.out n (.slice ao xs.length ac) xs (fun F B _ _ h0 _ => HA.out.old H1.out.only h0) (by decide) (by decide)).mono ?_
      rintro e w2 ⟨rfl, h2⟩
      rw [hD0.1] at h2
      rw [hD0.2]
      have H2 := Lib.hid h2; clear h2 hD0
      go_wp2_with fail
      have hD1 := DS.write_free (D := (DS.new 8).lay n (pad xs)) rfl (show (-1 : Int) < 0 by decide) (i := n) h8 hB
      refine (own_write H2.out n (.slice bo bs.length bc) bs (fun F B _ _ h0 _ => HB.out.old H2.out.only h0) (show 1 ≤ 1000000 by decide) (show 1 ≤ 1000000 by decide)).mono ?_
      rintro e w3 ⟨rfl, h3⟩
      rw [hD1.1] at h3
      rw [hD1.2]
      obtain ⟨D, hD⟩ : ∃ D, D = ((DS.new 8).lay n (pad xs)).lay n (pad bs) := ⟨_, rfl⟩
      rw [← hD] at h3
      have hDn : D.n = 8 := by rw [hD]; rfl
      have HR : Hid (∀ i, i < 8 → sec D.N i = if i = n then pad bs else List.replicate 64 0) := Lib.hid (by rw [hD]; exact fun i hi => pads_read n h8 xs bs hA hB i hi)
      have H3 := Lib.hid h3; clear h3 hD1 hD H1 H2
      go_wp2_with fail
      go_loopw [9] (fun i wr => ∃ k : Nat, k ≤ 8 ∧ i = .int .i64 k ∧ Hid (Own w wr (Sep (DiskR p D) Emp))) (fun i _ => 8 - (intOf i).toNat)
      case atStart => exact ⟨0, by omega, rfl, H3⟩
      case round =>
        obtain ⟨i, hi, rfl, HQ⟩ := hrel
        by_cases hlt : i < 8
        · have hltI : (i : Int) < 8 := by omega
          have HDN := Lib.hid hDn
          clear hDn H3
          go_wp2_with fail
          refine (own_read HQ.out i (by rw [HDN.out]; exact hlt)).mono ?_
          rintro e w4 ⟨g, rfl, h4⟩
          have H4 : Hid (Own w w4 (Sep (DiskR p D) Emp)) := Lib.hid h4.snd
          have hx := row_bytes' (n := 64) (cap := 64) h4.fst.row (by rw [HR.out i hlt]; split; exact (pad_length hB).symm; exact List.length_replicate.symm)
          have HX := Lib.hid hx
          clear h4 hx HQ
          have HBc : Hid (SlC w4 (.slice bo bs.length bc) bs) := Lib.hid (HB.out.keep H4.out.only)
          go_wp2_with fail
          go_loop [12] (fun k => ∃ j : Nat, j ≤ 64 ∧ k = .int .i64 j) (fun k => 64 - (intOf k).toNat)
          case atStart => exact ⟨0, by omega, rfl⟩
          case round =>
            obtain ⟨j, hj, rfl⟩ := hrel
            by_cases hjl : j < 64
            · have hjI : (j : Int) < 64 := by omega
              have hj0 : (0 : Int) ≤ (j : Int) := by omega
              have hS := HR.out i hlt
              obtain ⟨_, _, hge, hxc⟩ := HX.out.cell (j := j) (by rw [hS]; split; rw [pad_length hB]; exact hjl; rw [List.length_replicate]; exact hjl)
              simp only [Option.some.injEq, Addr.mk.injEq] at hge
              obtain ⟨rfl, rfl, _⟩ := hge
              rw [Nat.zero_add, hS] at hxc
              by_cases hin : i = n
              · subst hin
                rw [if_pos rfl, pad_get bs j hjl hB] at hxc
                by_cases hjb : j < bs.length
                · rw [if_pos hjb] at hxc
                  obtain ⟨bg, boff, rfl, hbc⟩ := HBc.out.cell hjb
                  have hjbI : (j : Int) < (bs.length : Int) := by omega
                  generalize (bs.getD j 0).toNat = t at hxc hbc
                  clear hS
                  go_wp2_with fail
                  all_goals
                    go_round
                    case rel => exact ⟨j + 1, by omega, by go_num⟩
                    case measure => simp [intOf]; omega
                · rw [if_neg hjb] at hxc
                  have hjbI : ¬ (j : Int) < (bs.length : Int) := by omega
                  have hjbJ : decide ((j : Int) < (bs.length : Int)) = false := decide_eq_false hjbI
                  clear hS
                  go_wp2_with fail
                  all_goals
                    go_round
                    case rel => exact ⟨j + 1, by omega, by go_num⟩
                    case measure => simp [intOf]; omega
              · have hinI : ((i : Int) == (n : Int)) = false := by simp; omega
                rw [if_neg hin] at hxc
                have e0 : (List.replicate 64 (0 : UInt8)).getD j 0 = 0 := by rw [List.getD_eq_getElem?_getD, List.getElem?_replicate, if_pos hjl]; rfl
                rw [e0] at hxc
                clear hS e0
                go_wp2_with fail
                all_goals
                  go_round
                  case rel => exact ⟨j + 1, by omega, by go_num⟩
                  case measure => simp [intOf]; omega
            · obtain rfl : j = 64 := by omega
              go_wp2_with fail
              go_roundw
              case rel => exact ⟨i + 1, by omega, by go_num, H4⟩
              case measure => simp [intOf]; omega
        · obtain rfl : i = 8 := by omega
          go_wp2_with fail
          go_ret
          exact ⟨rfl, HQ.out.only⟩
    · have hB' : (64 : Int) < (bs.length : Int) := by omega
      have hA' : ¬ (64 : Int) < (xs.length : Int) := by omega
      have hA2 : decide ((64 : Int) < (xs.length : Int)) = false := decide_eq_false hA'
      have hB2 : decide ((64 : Int) < (bs.length : Int)) = true := decide_eq_true hB'
      go_wp2_with fail
      go_ret
      exact ⟨rfl, H1.out.only⟩
  · have hA' : (64 : Int) < (xs.length : Int) := by omega
    have hA2 : decide ((64 : Int) < (xs.length : Int)) = true := decide_eq_true hA'
    go_wp2_with fail
    go_ret
    exact ⟨rfl, H1.out.only⟩

end Go.Proofs.Ytioabebbddlokaa
