/-
  Append of a log and of the document's log, whatever is asked: the same answers, by one pure function.
-/
import Derived.Test.YtbimhiffcdhcaaaWalR8
namespace Go.Proofs.Ytbimhiffcdhcaaa
open Go Go.RowKit Go.Lib
set_option linter.unusedVariables false
set_option linter.unusedSimpArgs false
set_option maxRecDepth 100000

set_option maxRecDepth 100000 in
set_option maxHeartbeats 8000000 in
theorem rlog_append_all {w0 w : World} {q r base size M head nxt : Nat} {D : DS} {J : Res} [Stab J] (h : Own w0 w (Sep (RLogR q r base size M head nxt) (Sep (RefR r D) J))) (v : Value) (xs : List UInt8) (hv : SlN w0 v xs) (hx : xs.length ≤ 32768) (hh : head ≤ nxt) (hn : nxt ≤ 9223372036854770000) (hs : size ≤ 4096) (hM : M < 4294967296) (h0 : 0 < size) (hlies : base + size ≤ D.n) (h4 : D.n ≤ 4096)
    (hf : nxt + cntN xs.length - head ≤ size) (hW : D.W.length ≤ 900000) (hwr : D.wr ≤ 900000) :
    Calls Try.prog 23 #[.pointer (some ⟨q, 0, none⟩), v] w fun e w' => e = .returned (.tuple #[.int .u64 (if (D.app base size M nxt xs (cntN xs.length)).down then 0 else nxt : Nat), .int .i64 (appE D base size M nxt xs)]) ∧
      Own w0 w' (Sep (RLogR q r base size M head (if (D.app base size M nxt xs (cntN xs.length)).down then nxt else nxt + cntN xs.length)) (Sep (RefR r (D.app base size M nxt xs (cntN xs.length))) J)) := by
  obtain ⟨vo, vc, rfl, hvc⟩ := hv.2
  have hl : ¬ (32768 : Int) < (xs.length : Int) := by omega
  have hld : decide ((32768 : Int) < (xs.length : Int)) = false := decide_eq_false hl
  have HP0 := Lib.hid (rpieces _ xs w0 w hv hx)
  have hm := cntN_max hx
  have hpos := cntN_pos xs.length
  have HAPP : Hid (appE D base size M nxt xs = bwR (D.app base size M nxt xs (cntN xs.length)).down) := Lib.hid rfl
  obtain ⟨c, hc⟩ : ∃ c, c = cntN xs.length := ⟨_, rfl⟩
  rw [← hc] at hf hm hpos HAPP ⊢
  have HC := Lib.hid hc
  have H := Lib.hid h
  have HM := Lib.hid hM
  have HL := Lib.hid hlies
  have H4 := Lib.hid h4
  have HW := Lib.hid hW
  have HWR := Lib.hid hwr
  clear h hv hc hx hM hlies h4 hW hwr
  obtain ⟨E, hE⟩ : ∃ E, E = D.app base size M nxt xs c := ⟨_, rfl⟩
  obtain ⟨ee, hee⟩ : ∃ ee, ee = appE D base size M nxt xs := ⟨_, rfl⟩
  rw [← hE, ← hee] at HAPP ⊢
  have HE := Lib.hid hE
  obtain ⟨ra, hra⟩ : ∃ ra : Nat, ra = (if E.down then 0 else nxt) := ⟨_, rfl⟩
  obtain ⟨rn, hrn⟩ : ∃ rn : Nat, rn = (if E.down then nxt else nxt + c) := ⟨_, rfl⟩
  rw [← hra, ← hrn]
  have HRA := Lib.hid hra
  have HRN := Lib.hid hrn
  clear hE hee hra hrn
  go_enter Try.func23, Try.ntmps23
  go_wp2_with fail
  refine HP0.out.mono ?_
  rintro e w1 ⟨lo, lc, fo, fc, vs, rfl, hp⟩
  rw [← HC.out] at hp ⊢
  obtain ⟨F, hF1, hF2, hF3⟩ := hp.own
  have h1 := H.out.fresh hF3 hF1 hF2
  obtain ⟨fs, hfs⟩ : ∃ fs, fs = flagsV (cntN xs.length) c := ⟨_, rfl⟩
  rw [← hfs] at h1
  have H1 : Hid (Own w0 w1 (AppR q r base size M head nxt c D lo fo lc fc vs fs J)) := Lib.hid (h1.ac (J := Sep Emp (AppR q r base size M head nxt c D lo fo lc fc vs fs J)) (by unfold AppR; ac_rfl)).snd
  have HVL := Lib.hid hp.len
  have HVS := Lib.hid hp.sl
  have HFS := Lib.hid hfs
  clear hp hF1 hF2 hF3 H HP0 h1 hfs
  obtain ⟨_, _, c2, _, c4, c5⟩ := rlog_cells H1.out.snd.held
  obtain ⟨z, hz⟩ : ∃ z : Int, z = ((nxt + c : Nat) : Int) - (head : Int) := ⟨_, rfl⟩
  have e1 : IntKind.u64.wrap (c : Int) = (c : Int) := by rw [IntKind.wrap_u64]; omega
  have e2 : IntKind.u64.wrap ((nxt : Int) + (c : Int)) = (nxt : Int) + (c : Int) := by rw [IntKind.wrap_u64]; omega
  have e3 : IntKind.u64.wrap ((nxt : Int) + (c : Int) - (head : Int)) = z := by rw [IntKind.wrap_u64]; omega
  have e4 : IntKind.u64.wrap (size : Int) = (size : Int) := by rw [IntKind.wrap_u64]; omega
  have e5 : decide ((size : Int) < z) = false := decide_eq_false (by omega)
  go_wp2_with fail
  go_quiet (fail)
  have H2 : Hid (Own w0 (w1.drewN nq) (AppR q r base size M head nxt c (D.app base size M nxt xs 0) lo fo lc fc vs fs J)) := Lib.hid (H1.out.drewN nq)
  clear c2 c4 c5 H1 e3 e5 hz
  go_wp2_with fail
  go_loopw [8] (fun i wr => ∃ k : Nat, k ≤ c ∧ i = .int .i64 k ∧ (k = 0 ∨ (D.app base size M nxt xs k).down = false) ∧ Hid (Own w0 wr (AppR q r base size M head nxt c (D.app base size M nxt xs k) lo fo lc fc vs fs J))) (fun i _ => c - (intOf i).toNat)
  case atStart => exact ⟨0, Nat.zero_le _, rfl, .inl rfl, H2⟩
  case round =>
    clear H2
    obtain ⟨k, hk, rfl, hdk, HQ⟩ := hrel
    have HDK := Lib.hid hdk
    clear hdk
    by_cases hlt : k < c
    · have hltI : (k : Int) < (c : Int) := by omega
      have hk0 : (0 : Int) ≤ (k : Int) := by omega
      obtain ⟨u, hu⟩ : ∃ u, vs[k]? = some u := ⟨vs[k]'(by rw [HVL.out]; exact hlt), List.getElem?_eq_getElem _⟩
      have hfk : fs[k]? = some (.int .i64 (wFlag c k : Int)) := by rw [HFS.out, ← HC.out]; simp [flagsV, hlt]
      obtain ⟨g1, g2, rfl, rfl, d1, d2, hq⟩ := AppR.cells HQ.out hu hfk
      obtain ⟨b0, b1, b2, b3, b4, b5⟩ := rlog_cells hq
      have hsl : SlC w0 u (pieceN xs k) := by have := HVS.out k hlt; rwa [List.getD_eq_getElem?_getD, hu] at this
      have HSL := Lib.hid hsl
      have HU := Lib.hid hu
      have HFK := Lib.hid hfk
      obtain ⟨sn, hsn⟩ : ∃ sn, sn = nxt + k := ⟨_, rfl⟩
      obtain ⟨rm, hrm⟩ : ∃ rm, rm = sn % size := ⟨_, rfl⟩
      obtain ⟨rg, hrg⟩ : ∃ rg, rg = ringS base size sn := ⟨_, rfl⟩
      have hrl : rg < base + size := by rw [hrg]; exact ring_lt h0 (Nat.le_refl _)
      have hbs : base + size ≤ 4096 := Nat.le_trans HL.out H4.out
      have hre : base + rm = rg := by rw [hrg, hrm]; rfl
      have q1 : IntKind.u64.wrap (k : Int) = (k : Int) := by rw [IntKind.wrap_u64]; omega
      have q2 : IntKind.u64.wrap ((nxt : Int) + (k : Int)) = (sn : Int) := by rw [IntKind.wrap_u64]; omega
      have q4 : (sn : Int).tmod (size : Int) = (rm : Int) := by rw [hrm]; rfl
      have q5 : IntKind.u64.wrap (rm : Int) = (rm : Int) := by rw [IntKind.wrap_u64]; omega
      have q6 : IntKind.i64.wrap (rm : Int) = (rm : Int) := IntWalk.i64_in _ (by omega)
      have q7 : IntKind.i64.wrap ((base : Int) + (rm : Int)) = (rg : Int) := by rw [IntWalk.i64_in _ (by omega)]; omega
      have q8 : ((size : Int) == 0) = false := by simp; omega
      have q9 : ¬ size = 0 := by omega
      have q10 : ¬ (size : Int) = 0 := by omega
      have q11 : sn % size = rm := hrm.symm
      obtain ⟨nk, hnk⟩ : ∃ nk : Int, nk = (sn : Int) := ⟨_, rfl⟩
      have HSN := Lib.hid hsn
      have HRG := Lib.hid hrg
      have HLT := Lib.hid hlt
      have HQd := Lib.hid HQ.out.drew
      have hfew := app_few D base size M nxt xs k
      have HB1 : Hid ((D.app base size M nxt xs k).W.length ≤ 1000000) := Lib.hid (by have := HW.out; omega)
      have HB2 : Hid ((D.app base size M nxt xs k).wr ≤ 1000000) := Lib.hid (by have := HWR.out; omega)
      have hpk : Pc.Ok ⟨M, wFlag c k, pieceN xs k⟩ := by have := wPc_ok (M := M) (xs := xs) (j := k) HM.out; rw [wPc, ← HC.out] at this; exact this
      have hsn64 : sn < 18446744073709551616 := by omega
      have hcall1 := fun (W : World) (hW : Own w0 W (AppR q r base size M head nxt c (D.app base size M nxt xs k) (some ⟨g1, 0, none⟩) (some ⟨g2, 0, none⟩) lc fc vs fs J)) =>
        (rsector sn ⟨M, wFlag c k, pieceN xs k⟩ hsn64 hpk u W (HSL.out.keep hW.only)).mono (R' := fun e w' => ∃ sv, e = .returned sv ∧ Own w0 w' (Sep (RefR r (D.app base size M nxt xs k)) (Sep (OwnB sv (pad (pcB sn (wPc M xs k)))) (Sep (RLogR q r base size M head nxt) (Sep (RowV 48 1 (.slice (some ⟨g1, 0, none⟩) c lc) c vs) (Sep (RowV 3 1 (.slice (some ⟨g2, 0, none⟩) c fc) c fs) J)))))) (by
          rintro e w' ⟨sv, rfl, ho, hon⟩
          refine ⟨sv, rfl, ?_⟩
          have hp64 : (pad (pcB sn (wPc M xs k))).length = 64 := pad_length (by rw [pcB_length]; have := pieceN_length xs k; show 14 + (pieceN xs k).length ≤ 64; omega)
          have hOB : OwnB sv (pad (pcB sn (wPc M xs k))) w' (fun k => sv.ownBlock = some k) := by
            refine ⟨?_, fun _ => Iff.rfl⟩
            rw [hp64]
            have := ho
            rw [show (⟨M, wFlag c k, pieceN xs k⟩ : Pc) = wPc M xs k by rw [wPc, ← HC.out]] at this
            exact own_base this (Nat.zero_le _)
          exact (hW.fresh hon hOB (fun b hb => (ho.lt b hb).1)).swap)
      have hcall2 := fun (W : World) (sv : Value) (hW : Own w0 W (Sep (RefR r (D.app base size M nxt xs k)) (Sep (OwnB sv (pad (pcB sn (wPc M xs k)))) (Sep (RLogR q r base size M head nxt) (Sep (RowV 48 1 (.slice (some ⟨g1, 0, none⟩) c lc) c vs) (Sep (RowV 3 1 (.slice (some ⟨g2, 0, none⟩) c fc) c fs) J)))))) =>
        own_rwrite hW (rg : Int) sv (pad (pcB sn (wPc M xs k))) (fun F B hJ hd' _ _ => OwnB.apart hJ hd') HB1.out HB2.out
      have HC1 := Lib.hid hcall1
      have HC2 := Lib.hid hcall2
      have HSIX : Hid (∀ (W : World), Own w0 W (Sep (RLogR q r base size M head nxt) (Sep (RowV 48 1 (.slice (some ⟨g1, 0, none⟩) c lc) c vs) (Sep (RowV 3 1 (.slice (some ⟨g2, 0, none⟩) c fc) c fs) J))) → W.cell? ⟨q, 0, none⟩ = some (.pointer (some ⟨r, 0, none⟩)) ∧ W.cell? ⟨q, 1, none⟩ = some (.int .i64 base) ∧ W.cell? ⟨q, 2, none⟩ = some (.int .i64 size) ∧ W.cell? ⟨q, 3, none⟩ = some (.int .u32 M) ∧ W.cell? ⟨g1, k, none⟩ = some u ∧ W.cell? ⟨g2, k, none⟩ = some (.int .i64 (wFlag c k : Int))) := Lib.hid (fun W hW => by
        obtain ⟨a0, a1, a2, a3, _⟩ := rlog_cells hW.held
        obtain ⟨x1, y1, z1, _⟩ := rowV_cell hW.snd.owns HU.out
        obtain ⟨x2, y2, z2, _⟩ := rowV_cell hW.snd.snd.owns HFK.out
        simp at y1 y2
        subst y1 y2
        exact ⟨a0, a1, a2, a3, z1, z2⟩)
      obtain ⟨flg, hflg⟩ : ∃ flg : Nat, flg = wFlag c k := ⟨_, rfl⟩
      have HFG := Lib.hid hflg
      clear hcall1 hcall2 hu hfk hsl hsn hrm hrg hfew hpk hq hnk hflg
      go_upto_region 10 with fail
      clear b0 b1 b2 b3 b4 b5 d1 d2
      go_region_held3 (fun w' => w'.cell? ⟨q, 0, none⟩ = some (.pointer (some ⟨r, 0, none⟩)) ∧ w'.cell? ⟨q, 1, none⟩ = some (.int .i64 base) ∧ w'.cell? ⟨q, 2, none⟩ = some (.int .i64 size) ∧ w'.cell? ⟨q, 3, none⟩ = some (.int .u32 M) ∧ w'.cell? ⟨g1, k, none⟩ = some u ∧ w'.cell? ⟨g2, k, none⟩ = some (.int .i64 (wFlag c k : Int)))
        (first
          | exact HSIX.out _ HA2.out.snd.snd
          | exact HSIX.out _ HA1.out.snd.snd
          | exact HSIX.out _ HQd.out.snd)
        (first
          | (go_at_call 42; (with_reducible refine (HC1.out _ HQd.out).mono ?_); rintro e w5 ⟨sv, rfl, ha⟩; have HA1 := Lib.hid ha; clear ha)
          | (go_at_call 31; (with_reducible refine (HC2.out _ _ HA1.out).mono ?_); rintro e w6 ⟨rfl, ha⟩; have HA2 := Lib.hid ha; clear ha))
      clear HC1 HC2 HSIX HQd HA1
      have hl64 : (pcB sn (wPc M xs k)).length ≤ 64 := by rw [pcB_length]; have := pieceN_length xs k; show 14 + (pieceN xs k).length ≤ 64; omega
      have hnext : D.app base size M nxt xs (k + 1) = (D.app base size M nxt xs k).write (rg : Int) (pad (pcB sn (wPc M xs k))) := by
        rw [(write_pad _ _ hl64).1, HRG.out, HSN.out]
        rfl
      have hwh := write_here (D := D.app base size M nxt xs k) (i := (rg : Int)) (b := pcB sn (wPc M xs k)) ⟨by omega, by have := (app_few D base size M nxt xs k).1; have := HL.out; omega⟩ hl64
      rw [← (write_pad _ _ hl64).1, ← (write_pad _ _ hl64).2, ← hnext] at hwh
      have H3 : Hid (Own w0 w6 (AppR q r base size M head nxt c (D.app base size M nxt xs (k + 1)) (some ⟨g1, 0, none⟩) (some ⟨g2, 0, none⟩) lc fc vs fs J)) := Lib.hid (by rw [hnext]; exact HA2.out.drop2)
      obtain ⟨er, her⟩ : ∃ er, er = (D.app base size M nxt xs k).wrE (rg : Int) (pad (pcB sn (wPc M xs k))) := ⟨_, rfl⟩
      rw [← her] at hwh ⊢
      clear HA2 her hnext hl64
      by_cases hlast : (D.app base size M nxt xs k).lastB = true
      · obtain ⟨rfl, hdn⟩ := hwh.1 hlast
        have HDN := Lib.hid hdn
        clear hwh hlast hdn
        go_wp2_with fail
        go_roundw
        case rel => exact ⟨k + 1, HLT.out, by go_num, .inr HDN.out, H3⟩
        case measure => have := HLT.out; simp [intOf]; omega
      · obtain ⟨rfl, hdn⟩ := hwh.2 (by simpa using hlast)
        have hEk : E = D.app base size M nxt xs (k + 1) := by
          have := app_down hdn (c - (k + 1))
          rw [HE.out, ← this]
          congr 1
          have := HLT.out
          omega
        rw [← hEk] at H3 hdn
        have HDN := Lib.hid hdn
        clear hwh hlast hdn hEk
        go_wp2_with fail
        go_ret2
        have x1 := HRA.out
        have x2 := HRN.out
        have x3 := HAPP.out
        rw [HDN.out] at x1 x2 x3
        simp only [if_true] at x1 x2
        refine ⟨?_, ?_⟩
        · rw [x1, x3]; rfl
        · rw [x2]
          exact (H3.out.ac (J := Sep (Sep (RowV 48 1 (.slice (some ⟨g1, 0, none⟩) c lc) c vs) (RowV 3 1 (.slice (some ⟨g2, 0, none⟩) c fc) c fs)) (Sep (RLogR q r base size M head nxt) (Sep (RefR r E) J))) (by unfold AppR; ac_rfl)).snd
    · have hkc : k = c := by omega
      subst hkc
      have hltI : ¬ (k : Int) < (k : Int) := by omega
      have hq := HQ.out.snd.held
      have b5 := (rlog_cells hq).2.2.2.2.2
      have f5 : wr.frozen? ⟨q, 5, none⟩ = false := blk_free hq 5
      have HST := Lib.hid (HQ.out.swap.store 5 (.int .u64 ((nxt : Int) + (k : Int))))
      have hdn := HDK.out.resolve_left (by omega)
      rw [← HE.out] at hdn
      have HDN := Lib.hid hdn
      clear hq HQ hdn
      go_wp2_with fail
      go_ret2
      have x1 := HRA.out
      have x2 := HRN.out
      have x3 := HAPP.out
      rw [HDN.out] at x1 x2 x3
      simp only [Bool.false_eq_true, if_false] at x1 x2
      refine ⟨?_, ?_⟩
      · rw [x1, x3]; rfl
      · rw [x2]
        have h9 := (HST.out.ac (J := Sep (Sep (RowV 48 1 (.slice lo k lc) k vs) (RowV 3 1 (.slice fo k fc) k fs)) (Sep (RLogR q r base size M head (nxt + k)) (Sep (RefR r (D.app base size M nxt xs k)) J))) (by unfold RLogR rlogO; ac_rfl)).snd
        rw [← HE.out] at h9
        exact h9


/-- What an Append answers and leaves: the piece, the error, the next piece, the disk. -/
structure ApX where
  x : Nat
  e : Nat
  nx : Nat
  D : DS
def apX (D : DS) (base size M head nxt : Nat) (xs : List UInt8) : ApX :=
  if 32768 < xs.length then ⟨0, 7, nxt, D⟩
  else if size < nxt + cntN xs.length - head then ⟨0, 3, nxt, D⟩
  else ⟨if (D.app base size M nxt xs (cntN xs.length)).down then 0 else nxt, appE D base size M nxt xs, if (D.app base size M nxt xs (cntN xs.length)).down then nxt else nxt + cntN xs.length, D.app base size M nxt xs (cntN xs.length)⟩

theorem wplay_append {w0 w : World} {q p base size M head nxt : Nat} {D : DS} {J : Res} [Stab J] (h : Own w0 w (Sep (WLogR q p base size M head nxt) (Sep (DiskR p D) J))) (vo : Option Addr) (n vc : Nat) (xs : List UInt8) (hnx : n = xs.length) (hvc : n ≤ vc)
    (hv : ∀ (w' : World) (B : Nat → Prop), J w' B → Only (fun _ => False) w0 w' → SlC w' (.slice vo n vc) xs) (hh : head ≤ nxt) (hn : nxt ≤ 9223372036854770000) (hM : M < 4294967296) (h0 : 0 < size) (hlies : base + size ≤ D.n) (h4 : D.n ≤ 4096)
    (hW : D.W.length ≤ 900000) (hwr : D.wr ≤ 900000) :
    Calls Try.prog 17 #[.pointer (some ⟨q, 0, none⟩), .slice vo n vc] w fun e w' => e = .returned (.tuple #[.int .u64 (apX D base size M head nxt xs).x, .int .i64 (apX D base size M head nxt xs).e]) ∧
      Own w0 w' (Sep (WLogR q p base size M head (apX D base size M head nxt xs).nx) (Sep (DiskR p (apX D base size M head nxt xs).D) J)) := by
  unfold apX
  by_cases h1 : 32768 < xs.length
  · rw [if_pos h1]
    refine (wlog_append_bad vo n vc (by omega)).mono ?_
    rintro e w' ⟨rfl, rfl⟩
    exact ⟨rfl, h⟩
  · rw [if_neg h1]
    by_cases h2 : size < nxt + cntN xs.length - head
    · rw [if_pos h2]
      refine (wlog_append_full h vo n vc (by omega) hh (by omega) (by omega) (by rw [hnx]; exact h2)).mono ?_
      rintro e w' ⟨rfl, h'⟩
      exact ⟨rfl, h'⟩
    · rw [if_neg h2]
      refine (wlog_append_all h vo n vc xs hnx hvc hv (by omega) hh hn hM h0 hlies h4 (by rw [hnx]; omega) hW hwr).mono ?_
      rintro e w' ⟨rfl, h'⟩
      rw [hnx] at h' ⊢
      exact ⟨rfl, h'⟩

theorem rplay_append {w0 w : World} {q r base size M head nxt : Nat} {D : DS} {J : Res} [Stab J] (h : Own w0 w (Sep (RLogR q r base size M head nxt) (Sep (RefR r D) J))) (v : Value) (xs : List UInt8) (hv : SlN w0 v xs) (hh : head ≤ nxt) (hn : nxt ≤ 9223372036854770000) (hM : M < 4294967296) (h0 : 0 < size) (hlies : base + size ≤ D.n) (h4 : D.n ≤ 4096)
    (hW : D.W.length ≤ 900000) (hwr : D.wr ≤ 900000) :
    Calls Try.prog 23 #[.pointer (some ⟨q, 0, none⟩), v] w fun e w' => e = .returned (.tuple #[.int .u64 (apX D base size M head nxt xs).x, .int .i64 (apX D base size M head nxt xs).e]) ∧
      Own w0 w' (Sep (RLogR q r base size M head (apX D base size M head nxt xs).nx) (Sep (RefR r (apX D base size M head nxt xs).D) J)) := by
  unfold apX
  by_cases h1 : 32768 < xs.length
  · rw [if_pos h1]
    refine (rlog_append_bad h.held v xs ⟨hv.1.keep h.only, hv.2⟩ h1).mono ?_
    rintro e w' ⟨rfl, rfl⟩
    exact ⟨rfl, h⟩
  · rw [if_neg h1]
    by_cases h2 : size < nxt + cntN xs.length - head
    · rw [if_pos h2]
      refine (rlog_append_full h v xs hv (by omega) hh (by omega) (by omega) h2).mono ?_
      rintro e w' ⟨rfl, h'⟩
      exact ⟨rfl, h'⟩
    · rw [if_neg h2]
      refine (rlog_append_all h v xs hv (by omega) hh hn (by omega) hM h0 hlies h4 (by omega) hW hwr).mono ?_
      rintro e w' ⟨rfl, h'⟩
      exact ⟨rfl, h'⟩

/-- What is known of a log and its disk behind k calls. -/
structure PlI (D : DS) (base size M head nxt k : Nat) : Prop where
  s4 : 4 ≤ size
  lies : base + size ≤ 40
  n : D.n = 40
  coh : Coh D
  hh : head ≤ nxt
  fit : nxt ≤ head + size
  num : nxt ≤ 4611686018427387904 + 40 * (k + 1)
  m : M < 4294967296
  w : D.W.length ≤ 1000 * k
  wr : D.wr ≤ 1000 * k
  sy : D.sy ≤ k
theorem app_coh {D : DS} (h : Coh D) (base size M nxt : Nat) (xs : List UInt8) : ∀ k, Coh (D.app base size M nxt xs k)
  | 0 => h
  | k + 1 => (app_coh h base size M nxt xs k).write _ _
theorem PlI.append {D : DS} {base size M head nxt k : Nat} (h : PlI D base size M head nxt k) (xs : List UInt8) : PlI (apX D base size M head nxt xs).D base size M head (apX D base size M head nxt xs).nx (k + 1) := by
  obtain ⟨h1, h2, h3, h4, h5, h6, h7, h8, h9, h10, h11⟩ := h
  unfold apX
  by_cases c1 : 32768 < xs.length
  · rw [if_pos c1]
    exact ⟨h1, h2, h3, h4, h5, h6, by show nxt ≤ _; omega, h8, by show D.W.length ≤ _; omega, by show D.wr ≤ _; omega, by show D.sy ≤ _; omega⟩
  · rw [if_neg c1]
    by_cases c2 : size < nxt + cntN xs.length - head
    · rw [if_pos c2]
      exact ⟨h1, h2, h3, h4, h5, h6, by show nxt ≤ _; omega, h8, by show D.W.length ≤ _; omega, by show D.wr ≤ _; omega, by show D.sy ≤ _; omega⟩
    · rw [if_neg c2]
      have hm := cntN_max (Nat.le_of_not_lt c1)
      obtain ⟨f1, f2, f3⟩ := app_few D base size M nxt xs (cntN xs.length)
      have f4 := app_sy D base size M nxt xs (cntN xs.length)
      obtain ⟨E, hE⟩ : ∃ E, E = D.app base size M nxt xs (cntN xs.length) := ⟨_, rfl⟩
      have hco : Coh E := by rw [hE]; exact app_coh h4 _ _ _ _ _ _
      rw [← hE] at f1 f2 f3 f4 ⊢
      obtain ⟨c, hc⟩ : ∃ c, c = cntN xs.length := ⟨_, rfl⟩
      rw [← hc] at hm f2 f3 c2 ⊢
      obtain ⟨z, hz⟩ : ∃ z, z = (if E.down = true then nxt else nxt + c) := ⟨_, rfl⟩
      rw [← hz]
      have hzz : z = nxt ∨ z = nxt + c := by
        rw [hz]
        cases E.down
        · exact .inr rfl
        · exact .inl rfl
      clear hz hE hc
      exact ⟨h1, h2, by rw [← h3]; exact f1, hco, by show head ≤ z; omega, by show z ≤ head + size; omega, by show z ≤ _; omega, h8, by show E.W.length ≤ _; omega, by show E.wr ≤ _; omega, by show E.sy ≤ _; omega⟩

end Go.Proofs.Ytbimhiffcdhcaaa
