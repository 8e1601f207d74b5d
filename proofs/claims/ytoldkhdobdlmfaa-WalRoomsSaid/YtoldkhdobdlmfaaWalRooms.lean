/-
  WalRooms: a record takes just its pieces of the room.
-/
import Derived.Test.YtoldkhdobdlmfaaWalJ6
namespace Go.Proofs.Ytoldkhdobdlmfaa
open Go Go.RowKit Go.Lib
set_option linter.unusedVariables false
set_option linter.unusedSimpArgs false
set_option maxRecDepth 100000

theorem own_next {w0 w : World} {q p base size M head nxt : Nat} {J : Res} [Stab J] (h : Own w0 w (Sep (WLogR q p base size M head nxt) J)) :
    Calls Try.prog 21 #[.pointer (some ⟨q, 0, none⟩)] w fun e w' => e = .returned (.int .u64 nxt) ∧ w = w' := wnext_any h.held

set_option maxRecDepth 100000 in
set_option maxHeartbeats 8000000 in
theorem rooms_walk (z : Int) (ao : Option Addr) (cc : Nat) (ks : List Int) (w : World) (ho : SlI w ao ks) (hks : ∀ z ∈ ks, -9223372036854775808 ≤ z ∧ z ≤ 9223372036854775807) :
    Calls Try.prog 7 #[.int .i64 z, .slice ao ks.length cc] w fun e w' => e = .returned (.bool true) ∧ Quiet w w' := by
  obtain ⟨h30, hm⟩ := modN_spec 30 (by decide) (by decide) z
  have hm : (wrap64 (z.tmod 30 + 30)).tmod 30 = (modN 30 z : Int) := hm
  obtain ⟨y, hy⟩ : ∃ y, y = modN 30 z := ⟨_, rfl⟩
  rw [← hy] at h30 hm
  have HO := Lib.hid ho
  have HM := Lib.hid hm
  have H30 := Lib.hid h30
  clear ho hm hy h30
  go_enter Try.func7, Try.ntmps7
  go_wp2_with fail
  refine (wawake w).mono ?_
  rintro e w0 ⟨rfl, hq⟩
  have H0 := Lib.hid ((Own.start w).quiet hq); clear hq
  go_wp2_with fail
  rw [HM.out]
  obtain ⟨s, hs⟩ : ∃ s : Nat, s = y + 4 := ⟨_, rfl⟩
  have hsI : ((y : Int) + 4) = (s : Int) := by omega
  have hs4 : 4 ≤ s := by omega
  have hs33 : s ≤ 33 := by have := H30.out; omega
  rw [hsI, show wrap64 (s : Int) = (s : Int) from IntWalk.wrap64_in _ ⟨by omega, by omega⟩]
  clear hs hsI HM H30
  refine (own_new H0.out 40 (by decide) (by decide)).mono ?_
  rintro e w1 ⟨p, rfl, h1⟩
  have HL0 : Hid (LogOk (DS.new 40) 3 s 1 1 1 [] 0) := Lib.hid (LogOk.new (by decide) (by omega) (by omega) (by decide) (by decide) (by omega))
  have hf0 : (DS.new 40).found 3 s 1 1 1 = [] := HL0.out.found (by decide) (by decide)
  have HO1 := Lib.hid (own_open h1 3 s 1 1 1 hs4 (by omega) (by show 3 + s ≤ 40; omega) (by decide) (by decide) (by decide) (by decide))
  rw [hf0] at HO1
  clear h1 H0 hf0
  go_wp2_with fail
  refine HO1.out.mono ?_
  rintro e w2 ⟨q, v, rfl, h2⟩
  obtain ⟨ro, rc, rfl⟩ := RecsR.shape h2.snd
  have H2 : Hid (Own w w2 (Sep (WLogR q p 3 s 1 1 1) (Sep (DiskR p (DS.new 40)) Emp))) := Lib.hid (h2.swap.snd)
  clear h2 HO1
  go_wp2_with fail
  go_loopw [10] (fun i wr => ∃ (k nxt : Nat) (D : DS) (A : List (List UInt8)), k ≤ ks.length ∧ k ≤ 60 ∧ i = .int .i64 k ∧ Hid (LogOk D 3 s 1 nxt 1 A (33 * k)) ∧ Hid (Own w wr (Sep (WLogR q p 3 s 1 1 nxt) (Sep (DiskR p D) Emp)))) (fun i _ => ks.length - (intOf i).toNat)
  case atStart => exact ⟨0, 1, _, [], Nat.zero_le _, by omega, rfl, HL0, H2⟩
  case round =>
    clear H2 HL0
    obtain ⟨k, nxt, D, A, hk, hk2, rfl, HL, HP⟩ := hrel
    have hnx := HL.out.nx
    have hft := HL.out.ring.fit
    obtain ⟨rm, hrm⟩ : ∃ rm : Nat, rm + nxt = s + 1 := ⟨s + 1 - nxt, by omega⟩
    have HRM := Lib.hid hrm
    have HNX : Hid (nxt = 1 + pcnt (tagM 1 A)) := Lib.hid hnx
    have hnxl : nxt ≤ 34 := by omega
    have hrm33 : rm ≤ 33 := by omega
    by_cases hin : k < ks.length ∧ k < 60
    · obtain ⟨hlt, h60⟩ := hin
      have hltI : (k : Int) < (ks.length : Int) := by omega
      have h60I : (k : Int) < 60 := by omega
      have hk0 : (0 : Int) ≤ (k : Int) := by omega
      obtain ⟨g, off, rfl, hx⟩ := HO.out k hlt
      have dx := HP.out.only.cellq hx
      obtain ⟨x, hxe⟩ : ∃ x, x = ks.getD k 0 := ⟨_, rfl⟩
      rw [← hxe] at dx
      have HLT := Lib.hid hlt
      have H60 := Lib.hid h60
      obtain ⟨h4, hm4⟩ := modN_spec 400 (by decide) (by decide) x
      have hm4 : (wrap64 (x.tmod 400 + 400)).tmod 400 = (modN 400 x : Int) := hm4
      obtain ⟨n, hn⟩ : ∃ n : Nat, n = modN 400 x := ⟨_, rfl⟩
      rw [← hn] at h4 hm4
      have HM4 := Lib.hid hm4
      have HN4 := Lib.hid h4
      clear hk hk2 hx hxe hnx hft hrm hm4 hn h4 h60 hlt
      go_upto_region 12 with fail
      rw [HM4.out]
      have hroom := own_room HP.out (by have := HNX.out; omega) (by omega) (by omega) rm HRM.out
      have HROOM := Lib.hid hroom
      clear hroom HM4
      go_wp2_with fail
      refine HROOM.out.mono ?_
      rintro e w3 ⟨rfl, h3⟩
      have H3 := Lib.hid h3
      clear h3 HROOM HP dx
      obtain ⟨c, hc⟩ : ∃ c, c = cntN n := ⟨_, rfl⟩
      have hcp := cntN_pos n
      have HCN : Hid (∀ w, Calls Try.prog 11 #[.int .i64 n] w fun e w' => e = .returned (.int .i64 c) ∧ w = w') := Lib.hid fun w => by
        have := wcount_any (n : Int) w
        rw [cnt_nat (by have := HN4.out; omega), ← hc] at this
        exact this
      obtain ⟨zs, hzs⟩ : ∃ zs : List UInt8, zs = List.replicate n 0 := ⟨_, rfl⟩
      obtain ⟨C, hC⟩ : ∃ C, C = (u8s zs).toArray := ⟨_, rfl⟩
      have hzl : n = zs.length := by rw [hzs]; simp
      have hmk : ∀ w, (Instr.makeSlice 48 (.int .i64 (n : Int)) (.int .i64 (n : Int))).run Try.prog w = .ok (.slice (some ⟨w.heap.size, 0, none⟩) n n) (w.alloc (.cells C 5)) := fun w => by
        rw [hC, hzs]; exact run_make_bytes n (by have := HN4.out; omega) w
      have h5 : Own w (w3.alloc (.cells C 5)) (Sep (WLogR q p 3 s 1 1 nxt) (Sep (DiskR p D) (Sep (Row w3.heap.size 5 zs) Emp))) := (H3.out.alloc (.cells C 5)).ac (by rw [hC]; show Sep (Row w3.heap.size 5 zs) _ = _; ac_rfl)
      have H5 := Lib.hid h5
      have HZL := Lib.hid hzl
      have HCC := Lib.hid hc
      clear h5 hzs hC H3 hzl hc
      by_cases hfit : c ≤ rm
      · have hap := own_append_fit H5.out HL.out (by have := H60.out; omega) (by omega) (some ⟨w3.heap.size, 0, none⟩) n n zs HZL.out (Nat.le_refl _) (hv_row HZL.out) (by have := HN4.out; omega) (by have := HNX.out; have := HRM.out; have := HCC.out; omega)
        rw [← HCC.out] at hap
        have HAP := Lib.hid hap
        have hfI : (c : Int) ≤ (rm : Int) := by omega
        have hfB : decide ((c : Int) ≤ (rm : Int)) = true := decide_eq_true hfI
        have hgI : ¬ (rm : Int) < (c : Int) := by omega
        have hgB : decide ((rm : Int) < (c : Int)) = false := decide_eq_false hgI
        obtain ⟨r2, hr2⟩ : ∃ r2 : Nat, r2 + c = rm := ⟨rm - c, by omega⟩
        have hw2 : wrap64 ((rm : Int) - (c : Int)) = (r2 : Int) := by rw [IntWalk.wrap64_in _ ⟨by omega, by omega⟩]; omega
        have hw3 : IntKind.i64.wrap ((rm : Int) - (c : Int)) = (r2 : Int) := by rw [IntWalk.i64_in _ (by omega)]; omega
        have HR2 := Lib.hid hr2
        have HFT := Lib.hid hfit
        clear hap H5 hfit hr2 hcp
        go_wp2_with fail
        refine HAP.out.mono ?_
        rintro e w4 ⟨rfl, D', hL', hn', h6⟩
        have H6 : Hid (Own w w4 (Sep (WLogR q p 3 s 1 1 (nxt + c)) (Sep (DiskR p D') Emp))) := Lib.hid ((h6.ac (J := Sep (Row w3.heap.size 5 zs) (Sep (WLogR q p 3 s 1 1 (nxt + c)) (Sep (DiskR p D') Emp))) (by show Sep (WLogR q p 3 s 1 1 (nxt + c)) _ = _; ac_rfl)).snd)
        have HL' : Hid (LogOk D' 3 s 1 (nxt + c) 1 (A ++ [zs]) (33 * (k + 1))) := Lib.hid ⟨hL'.ring, hL'.nx, by have := hL'.w; omega, by have := hL'.wr; omega⟩
        clear h6 hL' hn' HAP HL
        go_wp2_with fail
        refine (HCN.out _).mono ?_
        rintro e w' ⟨rfl, rfl⟩
        have hroom := own_room H6.out (by have := HNX.out; omega) (by have := HFT.out; omega) (by omega) r2 (by have := HRM.out; have := HR2.out; omega)
        have HROOM := Lib.hid hroom
        clear hroom H6
        go_wp2_with fail
        refine HROOM.out.mono ?_
        rintro e w5 ⟨rfl, h7⟩
        have H7 := Lib.hid h7
        clear h7 HROOM
        have hrr : ((r2 : Int) != (r2 : Int)) = false := by simp
        go_wp2_with fail
        go_roundw
        case rel => exact ⟨k + 1, nxt + c, D', A ++ [zs], HLT.out, by have := H60.out; omega, by go_num, HL', H7⟩
        case measure => have := HLT.out; simp [intOf]; omega
      · have hap := wlog_append_full H5.out (some ⟨w3.heap.size, 0, none⟩) n n (by have := HN4.out; omega) (by have := HNX.out; omega) (by omega) (by omega) (by have := HRM.out; have := HCC.out; omega)
        have HAP := Lib.hid hap
        have hfI : ¬ (c : Int) ≤ (rm : Int) := by omega
        have hfB : decide ((c : Int) ≤ (rm : Int)) = false := decide_eq_false hfI
        have hgI : (rm : Int) < (c : Int) := by omega
        have hgB : decide ((rm : Int) < (c : Int)) = true := decide_eq_true hgI
        clear hap H5 hfit hcp
        go_wp2_with fail
        refine HAP.out.mono ?_
        rintro e w4 ⟨rfl, h6⟩
        have H6 : Hid (Own w w4 (Sep (WLogR q p 3 s 1 1 nxt) (Sep (DiskR p D) Emp))) := Lib.hid ((h6.ac (J := Sep (Row w3.heap.size 5 zs) (Sep (WLogR q p 3 s 1 1 nxt) (Sep (DiskR p D) Emp))) (by show Sep (WLogR q p 3 s 1 1 nxt) _ = _; ac_rfl)).snd)
        have HL' : Hid (LogOk D 3 s 1 nxt 1 A (33 * (k + 1))) := Lib.hid ⟨HL.out.ring, HL.out.nx, by have := HL.out.w; omega, by have := HL.out.wr; omega⟩
        clear h6 HAP HL
        go_wp2_with fail
        refine (HCN.out _).mono ?_
        rintro e w' ⟨rfl, rfl⟩
        have hroom := own_room H6.out (by have := HNX.out; omega) (by omega) (by omega) rm HRM.out
        have HROOM := Lib.hid hroom
        clear hroom H6
        go_wp2_with fail
        refine HROOM.out.mono ?_
        rintro e w5 ⟨rfl, h7⟩
        have H7 := Lib.hid h7
        clear h7 HROOM
        have hrr : ((rm : Int) != (rm : Int)) = false := by simp
        go_wp2_with fail
        go_roundw
        case rel => exact ⟨k + 1, nxt, D, A, HLT.out, by have := H60.out; omega, by go_num, HL', H7⟩
        case measure => have := HLT.out; simp [intOf]; omega
    · have hcases : (¬ (k : Int) < (ks.length : Int)) ∨ ((k : Int) < (ks.length : Int) ∧ ¬ (k : Int) < 60) := by omega
      have HROOM := Lib.hid (own_room HP.out (by have := HNX.out; omega) (by omega) (by omega) rm HRM.out)
      have HK60 : Hid (33 * k ≤ 3000) := Lib.hid (by omega)
      clear hk hk2 hin hnx hft hrm HP
      rcases hcases with h1 | ⟨h1, h2⟩
      all_goals
        go_wp2_with fail
        refine HROOM.out.mono ?_
        rintro e w3 ⟨rfl, h3⟩
        have H3 := Lib.hid h3
        clear h3 HROOM h1
        by_cases hr0 : rm = 0
        case' pos =>
          have hr0I : ¬ (0 : Int) < (rm : Int) := by omega
          have hns : nxt = s + 1 := by have := HRM.out; omega
          have HX : Hid (Own w w3 (Sep (WLogR q p 3 s 1 1 (s + 1)) (Sep (DiskR p D) Emp))) := Lib.hid (by rw [← hns]; exact H3.out)
          clear H3 hns hr0
        case' neg =>
          have hr0I : (0 : Int) < (rm : Int) := by omega
          obtain ⟨n5, hn5⟩ : ∃ n5 : Nat, n5 = 50 * rm := ⟨_, rfl⟩
          have hm5 : (50 : Int) * (rm : Int) = (n5 : Int) := by omega
          have hm6 : IntKind.i64.wrap ((50 : Int) * (rm : Int)) = (n5 : Int) := by rw [IntWalk.i64_in _ (by omega)]; omega
          have hc5 : cntN n5 = rm := by unfold cntN; split <;> omega
          obtain ⟨zs, hzs⟩ : ∃ zs : List UInt8, zs = List.replicate n5 0 := ⟨_, rfl⟩
          obtain ⟨C, hC⟩ : ∃ C, C = (u8s zs).toArray := ⟨_, rfl⟩
          have hzl : n5 = zs.length := by rw [hzs]; simp
          have hmk : ∀ w, (Instr.makeSlice 48 (.int .i64 (n5 : Int)) (.int .i64 (n5 : Int))).run Try.prog w = .ok (.slice (some ⟨w.heap.size, 0, none⟩) n5 n5) (w.alloc (.cells C 5)) := fun w => by
            rw [hC, hzs]; exact run_make_bytes n5 (by omega) w
          have h5 : Own w (w3.alloc (.cells C 5)) (Sep (WLogR q p 3 s 1 1 nxt) (Sep (DiskR p D) (Sep (Row w3.heap.size 5 zs) Emp))) := (H3.out.alloc (.cells C 5)).ac (by rw [hC]; show Sep (Row w3.heap.size 5 zs) _ = _; ac_rfl)
          have hap := own_append_fit h5 HL.out (by have := HK60.out; omega) (by omega) (some ⟨w3.heap.size, 0, none⟩) n5 n5 zs hzl (Nat.le_refl _) (hv_row hzl) (by omega) (by rw [hc5]; have := HNX.out; have := HRM.out; omega)
          have HAP := Lib.hid hap
          have HC5 := Lib.hid hc5
          clear hap h5 H3 hzs hC hzl hn5 hc5 hr0
          go_wp2_with fail
          refine HAP.out.mono ?_
          rintro e w4 ⟨rfl, D', hL', hn', h6⟩
          have HX : Hid (Own w w4 (Sep (WLogR q p 3 s 1 1 (s + 1)) (Sep (DiskR p D') Emp))) := Lib.hid ((h6.ac (J := Sep (Row w3.heap.size 5 zs) (Sep (WLogR q p 3 s 1 1 (s + 1)) (Sep (DiskR p D') Emp))) (by rw [HC5.out, show nxt + rm = s + 1 by have := HRM.out; omega]; show Sep (WLogR q p 3 s 1 1 (s + 1)) _ = _; ac_rfl)).snd)
          clear h6 hL' hn' HAP HC5 hmk hm5 hm6
      all_goals
        clear HL HO HNX HRM HK60 hrm33 hnxl
        have hap := wlog_append_full HX.out none 0 0 (by decide) (by omega) (by omega) (by omega) (by show s < s + 1 + 1 - 1; omega)
        have HAP := Lib.hid hap
        clear hap HX
        go_wp2_with fail
        refine HAP.out.mono ?_
        rintro e w5 ⟨rfl, h7⟩
        have HRO := Lib.hid (own_room h7 (by omega) (by omega) (by omega) 0 (by omega))
        clear HAP h7
        go_wp2_with fail
        refine HRO.out.mono ?_
        rintro e w6 ⟨rfl, h8⟩
        have HNE := Lib.hid (wnext_any h8.held)
        have HHE : Hid (Calls Try.prog 20 #[.pointer (some ⟨q, 0, none⟩)] w6 fun e w' => e = .returned (.int .u64 1) ∧ w6 = w') := Lib.hid (whead_any h8.held)
        have HTR : Hid (Calls Try.prog 19 #[.pointer (some ⟨q, 0, none⟩), .int .u64 ((s + 1 : Nat) : Int)] w6 fun e w' => e = .returned (.int .i64 0) ∧ Own w w' (Sep (WLogR q p 3 s 1 (s + 1) (s + 1)) (Sep (DiskR p _) Emp))) := Lib.hid (by
          have := wtrim_any h8 (s + 1)
          rw [if_neg (by omega), if_neg (by omega)] at this
          exact this)
        obtain ⟨x, hx⟩ : ∃ x : Nat, x = s + 1 := ⟨_, rfl⟩
        rw [← hx] at HNE HTR
        have e1 : IntKind.u64.wrap ((x : Int) - 1) = (s : Int) := by rw [IntKind.wrap_u64]; omega
        have e2 : IntKind.u64.wrap (s : Int) = (s : Int) := by rw [IntKind.wrap_u64]; omega
        have e3 : ((s : Int) == (s : Int)) = true := by simp
        have HXX := Lib.hid hx
        clear h8 hx HRO
        go_wp2_with fail
        refine HNE.out.mono ?_
        rintro e w' ⟨rfl, rfl⟩
        go_wp2_with fail
        refine HHE.out.mono ?_
        rintro e w' ⟨rfl, rfl⟩
        go_wp2_with fail
        refine HNE.out.mono ?_
        rintro e w' ⟨rfl, rfl⟩
        go_wp2_with fail
        refine HTR.out.mono ?_
        rintro e w7 ⟨rfl, h9⟩
        have HRO2 := Lib.hid (own_room h9 (by omega) (by have := HXX.out; omega) (by omega) s (by omega))
        clear h9 HTR HHE HNE
        go_wp2_with fail
        refine HRO2.out.mono ?_
        rintro e w8 ⟨rfl, h10⟩
        have HF := Lib.hid h10.only
        clear h10 HRO2
        go_wp2_with fail
        go_ret
        exact ⟨rfl, HF.out⟩

end Go.Proofs.Ytoldkhdobdlmfaa
