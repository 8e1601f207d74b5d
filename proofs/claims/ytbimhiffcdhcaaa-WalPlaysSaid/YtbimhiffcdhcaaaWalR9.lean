/-
  The document's own answers for the log: Open, carried out.
-/
import Derived.Test.YtbimhiffcdhcaaaWalR8
namespace Go.Proofs.Ytbimhiffcdhcaaa
open Go Go.RowKit Go.Lib
set_option linter.unusedVariables false
set_option linter.unusedSimpArgs false
set_option maxRecDepth 100000

theorem RefAt.still {w w' : World} {r gk gs ck cs : Nat} {vw : Value} {f : Int} {kb sb : List Nat} {wb : List (Nat × Nat)} {D : DS} (h : RefAt w r gk gs ck cs vw f kb sb wb D) (ho : Only (fun _ => False) w w') : RefAt w' r gk gs ck cs vw f kb sb wb D :=
  h.keep fun k hk => ho.block k (h.lt hk) (fun h => h)
theorem one_at (b : List UInt8) (i : Nat) (h : i < b.length) : numB ((b.drop i).take 1) = (b.getD i 0).toNat := by
  have e : (b.drop i).take 1 = [b.getD i 0] := by
    rw [List.drop_eq_getElem_cons h, List.take_succ_cons, List.take_zero, List.getD_eq_getElem?_getD, List.getElem?_eq_getElem h]
    rfl
  rw [e]
  simp [numB]
theorem HasB.cell {w : World} {b : Nat} {s : List UInt8} (h : HasB w b s) (j : Nat) (hj : j < 64) : w.cell? ⟨b, j, none⟩ = some (.int .u8 (s.getD j 0).toNat) := by
  rw [cell_of_row w b _ _ _ _ h.1]
  simpa using u8s_at (xs := s) (j := j) (by rw [h.2]; exact hj)
theorem HasB.part {w : World} {b : Nat} {s : List UInt8} (h : HasB w b s) (i n cap : Nat) (hj : i + n ≤ 64) : SlC w (.slice (some ⟨b, i, none⟩) n cap) ((s.drop i).take n) := by
  have hl : ((s.drop i).take n).length = n := by rw [List.length_take, List.length_drop, h.2]; omega
  refine .inr ⟨⟨b, i, none⟩, cap, by rw [hl], fun j hj => ?_⟩
  rw [hl] at hj
  rw [add_lit, h.cell (i + j) (by omega)]
  congr 3
  simp [List.getD_eq_getElem?_getD, List.getElem?_take, hj]

abbrev RoR (q r base size M head fr n : Nat) (D : DS) (v dv : Value) (rs : List RecT) (vs : List Value) (data : List UInt8) (J : Res) : Res :=
  Sep (RowV 88 3 v n (recCells rs vs)) (Sep (DatR vs rs) (Sep (OwnB dv data) (Sep (RLogR q r base size M head fr) (Sep (RefR r D) J))))
structure RoI (P : Nat → Option Pc) (head size M : Nat) (R : List RecT) (last sn fr : Nat) (bg : Bool) (do' : Option Addr) (dc : Nat) (rs : List RecT) (data : List UInt8) : Prop where
  lo : head ≤ sn
  hi : sn ≤ head + size
  lM : last ≤ M
  r : R = rs ++ wAll P M (head + size - sn) sn last bg fr data
  fr : fr = nextOf head rs
  b : bg = true → data = [] ∧ do' = none ∧ dc = 0
  dl : data.length ≤ 50 * (sn - head)
theorem Own.ob_nil {w0 w : World} {I : Res} (h : Own w0 w I) : Own w0 w (Sep (OwnB (.slice none 0 0) []) I) := h.row_nil 5 1

set_option maxRecDepth 100000 in
set_option maxHeartbeats 40000000 in
theorem ropen_go {w0 w : World} {r : Nat} {D : DS} {J : Res} [Stab J] (h : Own w0 w (Sep (RefR r D) J)) (base size least M head : Nat) (hs4 : 4 ≤ size) (hl : base + size ≤ D.n) (hl0 : 0 < least) (hlm : least ≤ M) (hM : M < 4294967296) (hh0 : 0 < head) (hh : head ≤ 4611686018427387904) :
    Calls Try.prog 15 #[.pointer (some ⟨r, 0, none⟩), .int .i64 base, .int .i64 size, .int .u32 least, .int .u32 M, .int .u64 head] w fun e w' => ∃ q v, e = .returned (.tuple #[.pointer (some ⟨q, 0, none⟩), v, .int .i64 0]) ∧
      Own w0 w' (Sep (RLogR q r base size M head (nextOf head (D.found base size least M head))) (Sep (RecsR 88 v (D.found base size least M head)) (Sep (RefR r D) J))) := by
  obtain ⟨gk, gs, ck, cs, vw, f0, kb, sb, wb, hR⟩ := h.ref
  have h4 := hR.ok.n
  have r1 := hR.cell 1
  simp at r1
  have HR := Lib.hid hR
  obtain ⟨zb, hzb⟩ : ∃ zb : Int, zb = (base : Int) := ⟨_, rfl⟩
  obtain ⟨zs, hzs⟩ : ∃ zs : Int, zs = (size : Int) := ⟨_, rfl⟩
  obtain ⟨zn, hzn⟩ : ∃ zn : Int, zn = (D.n : Int) := ⟨_, rfl⟩
  have f1 : ¬ zb < 0 := by omega
  have f2 : ¬ zs < 4 := by omega
  have f0' : ¬ (D.n : Int) < zs := by omega
  have e3 : IntKind.i64.wrap ((D.n : Int) - zs) = zn - zs := by rw [IntWalk.i64_in _ (by omega)]; omega
  have f3 : ¬ zn - zs < zb := by omega
  have f4 : ¬ (least : Int) = 0 := by omega
  have f4N : ¬ least = 0 := by omega
  have f4B : ((least : Int) == 0) = false := by simpa using f4
  have f5 : ¬ (M : Int) < (least : Int) := by omega
  have f5N : ¬ M < least := by omega
  obtain ⟨zh, hzh⟩ : ∃ zh : Int, zh = (head : Int) := ⟨_, rfl⟩
  have f7 : ¬ (4611686018427387904 : Int) < zh := by omega
  have f8 : ¬ zh = 0 := by omega
  have f8B : (zh == 0) = false := by simpa using f8
  have g0 : decide ((D.n : Int) < zs) = false := decide_eq_false f0'
  have g1 : decide (zb < 0) = false := decide_eq_false f1
  have g2 : decide (zs < 4) = false := decide_eq_false f2
  have g3 : decide (zn - zs < zb) = false := decide_eq_false f3
  have g5 : decide ((M : Int) < (least : Int)) = false := decide_eq_false f5
  have g7 : decide ((4611686018427387904 : Int) < zh) = false := decide_eq_false f7
  rw [← hzb, ← hzs, ← hzh]
  have HZB := Lib.hid hzb
  have HZS := Lib.hid hzs
  have HZH := Lib.hid hzh
  obtain ⟨q, hq⟩ : ∃ q, q = w.heap.size := ⟨_, rfl⟩
  obtain ⟨W1, hW1⟩ : ∃ W1, W1 = w.alloc (.cells #[.pointer (some ⟨r, 0, none⟩), .int .i64 zb, .int .i64 zs, .int .u32 M, .int .u64 zh, .int .u64 zh] 55) := ⟨_, rfl⟩
  have h1 : Own w0 W1 (Sep (RLogR q r base size M head head) (Sep (RefR r D) J)) := by
    have := h.alloc (.cells #[.pointer (some ⟨r, 0, none⟩), .int .i64 zb, .int .i64 zs, .int .u32 M, .int .u64 zh, .int .u64 zh] 55 (0, 0))
    rw [← hq] at this
    rw [hW1]
    rw [hzb, hzs, hzh] at this ⊢
    exact this
  have ho1 : Only (fun _ => False) w W1 := by rw [hW1]; exact (Only.refl _ w).alloc _
  obtain ⟨R, hRR⟩ : ∃ R, R = D.found base size least M head := ⟨_, rfl⟩
  rw [← hRR]
  have HRL : Hid (R.length ≤ size) := Lib.hid (by rw [hRR]; exact wAll_len _ _ _ _ _ _)
  have HI0 : Hid (RoI (lookP D.N base size) head size M R least head head true none 0 [] []) := Lib.hid ⟨Nat.le_refl _, by omega, hlm, by rw [hRR, show head + size - head = size by omega]; rfl, rfl, fun _ => ⟨rfl, rfl, rfl⟩, Nat.zero_le _⟩
  have H1 : Hid (Own w0 W1 (RoR q r base size M head head 0 D (.slice none 0 0) (.slice none 0 0) [] [] [] J)) := Lib.hid (((h1.ob_nil).dat_nil.row_nil 88 3).ac (by unfold RoR; rfl))
  have HQ := Lib.hid hq
  have HW1 := Lib.hid hW1
  have hbn : base + size ≤ 4096 := by omega
  have HN : Hid (base + size ≤ D.n ∧ D.n ≤ 4096) := Lib.hid ⟨hl, h4⟩
  have HM := Lib.hid hM
  clear h hR h4 hzb hzs hzn hzh hl hl0 hlm h1 ho1 hq hW1 hRR HR hM
  go_enter Try.func15, Try.ntmps15
  go_upto_region 4 with fail
  rw [← HW1.out, ← HQ.out]
  clear f1 f2 f0' e3 f3 f4 f4N f4B f5 f5N f7 f8 f8B g0 g1 g2 g3 g5 g7 r1
  obtain rfl := HZB.out
  obtain rfl := HZS.out
  obtain rfl := HZH.out
  clear HZB HZS HZH HW1 HQ
  go_wp2_with fail
  go_loopw [16, 17, 18, 19, 20] (fun rv dv lv bv sv wr => ∃ (last sn fr n dl : Nat) (bg : Bool) (ao : Option Addr) (cap : Nat) (do' : Option Addr) (dc : Nat) (rs : List RecT) (vs : List Value) (data : List UInt8), rv = .slice ao n cap ∧ dv = .slice do' dl dc ∧ lv = .int .u32 last ∧ bv = .bool bg ∧ sv = .int .u64 sn ∧ Hid (n = rs.length ∧ dl = data.length) ∧ Hid (RoI (lookP D.N base size) head size M R last sn fr bg do' dc rs data) ∧ Hid (Own w0 wr (RoR q r base size M head fr n D (.slice ao n cap) (.slice do' dl dc) rs vs data J))  ) (fun _ _ _ _ sv _ => head + size - (intOf sv).toNat)
  case atStart => exact ⟨least, head, head, 0, 0, true, none, 0, none, 0, [], [], [], rfl, rfl, rfl, rfl, rfl, Lib.hid ⟨rfl, rfl⟩, HI0, H1⟩
  case round =>
    clear H1 HI0
    obtain ⟨last, sn, fr, n, dl, bg, ao, cap, do', dc, rs, vs, data, rfl, rfl, rfl, rfl, rfl, HNL, HI, HQ⟩ := hrel
    obtain ⟨gk, gs, ck, cs, vw, f0, kb, sb, wb, hR⟩ := HQ.out.snd.snd.snd.snd.ref
    have HR := Lib.hid hR
    clear hR
    have hlo := HI.out.lo
    have hhi := HI.out.hi
    obtain ⟨zend, hze⟩ : ∃ z : Int, z = ((head + size : Nat) : Int) := ⟨_, rfl⟩
    have e1 : IntKind.u64.wrap (size : Int) = (size : Int) := by rw [IntKind.wrap_u64]; omega
    have e2 : IntKind.u64.wrap ((head : Int) + (size : Int)) = zend := by rw [IntKind.wrap_u64]; omega
    by_cases hlt : sn < head + size
    · have hltI : (sn : Int) < zend := by omega
      have hltB : decide ((sn : Int) < zend) = true := decide_eq_true hltI
      obtain ⟨rm, hrm⟩ : ∃ rm, rm = sn % size := ⟨_, rfl⟩
      obtain ⟨rg, hrg⟩ : ∃ rg, rg = ringS base size sn := ⟨_, rfl⟩
      have hrl : rg < base + size := by rw [hrg]; exact ring_lt (by omega) (Nat.le_refl _)
      have hre : base + rm = rg := by rw [hrg, hrm]; rfl
      have q4 : (sn : Int).tmod (size : Int) = (rm : Int) := by rw [hrm]; rfl
      have q5 : IntKind.u64.wrap (rm : Int) = (rm : Int) := by rw [IntKind.wrap_u64]; omega
      have q6 : IntKind.i64.wrap (rm : Int) = (rm : Int) := IntWalk.i64_in _ (by omega)
      have q7 : IntKind.i64.wrap ((base : Int) + (rm : Int)) = (rg : Int) := by rw [IntWalk.i64_in _ (by omega)]; omega
      have q8 : ((size : Int) == 0) = false := by simp; omega
      have q9 : ¬ size = 0 := by omega
      have q10 : ¬ (size : Int) = 0 := by omega
      have q11 : sn % size = rm := hrm.symm
      have hin : rg < D.n := by have := HN.out.1; omega
      have r1 := HR.out.cell 1
      simp at r1
      have r2 := HR.out.seenAt hin
      have hsb := HR.out.hs rg hin
      obtain ⟨bk, hbk⟩ : ∃ b, b = sb.getD rg 0 := ⟨_, rfl⟩
      obtain ⟨sk, hsk⟩ : ∃ t, t = sec D.N rg := ⟨_, rfl⟩
      rw [← hbk] at r2 hsb
      rw [← hsk] at hsb
      unfold sl64 at r2
      have hinI : (rg : Int) < (D.n : Int) := by omega
      have hrg0 : (0 : Int) ≤ (rg : Int) := by omega
      have hskl := hsb.2
      have HSB := Lib.hid hbk
      have HSK : Hid (sk = sec D.N (ringS base size sn)) := Lib.hid (by rw [← hrg]; exact hsk)
      have HSL := Lib.hid hskl
      have HLT := Lib.hid hlt
      have HIN := Lib.hid hin
      have hsn64 : sn < 9223372036854775808 := by omega
      have HASB := Lib.hid hsb
      clear hrm hrg hrl hre hsb hbk hsk hskl hlt hin hze hlo hhi
      go_wp2_with fail
      go_quiet (fail)
      have HWQ : Hid (Only (fun _ => False) wr (wr.drewN nq)) := Lib.hid ((Only.refl _ wr).drewN nq)
      clear r1 r2 q4 q5 q6 q7 q8 q9 q10 q11 hinI hrg0 hltI hltB e1 e2
      go_wp2_with fail
      obtain ⟨wq, hwq⟩ : ∃ wq, wq = wr.drewN nq := ⟨_, rfl⟩
      obtain ⟨ip, hip⟩ : ∃ ip, ip = wr.heap.size := ⟨_, rfl⟩
      obtain ⟨wi, hwi⟩ : ∃ wi, wi = wq.alloc (.cells #[.slice (some ⟨bk, 8, none⟩) 4 56, .int .i64 0, .bool false] 85) := ⟨_, rfl⟩
      rw [← hwq] at HWQ ⊢
      have hwi0 : Only (fun _ => False) wr wi := by rw [hwi]; exact HWQ.out.alloc _
      have hpl : ((sk.drop 8).take 4).length = 4 := by rw [List.length_take, List.length_drop, HSL.out]; rfl
      have hI : RI.RefAt wi ip (.slice (some ⟨bk, 8, none⟩) 4 56) ((sk.drop 8).take 4) 0 false := by
        refine ⟨by rw [hwi, hip, hwq]; exact heap_alloc_new (wr.drewN nq) _, .inr ⟨bk, 8, 56, (u8s sk).toArray, by rw [hpl], by rw [hpl]; omega, by unfold maxLen; omega, ?_, fun j hj => ?_⟩, Nat.zero_le _, by rw [hpl]; omega⟩
        · exact hwi0.keep HASB.out.1 (fun h => h)
        · rw [hpl] at hj
          have := u8s_at (xs := sk) (j := 8 + j) (by rw [HSL.out]; omega)
          simp only [List.getElem?_toArray]
          rw [this]
          congr 3
          simp [List.getD_eq_getElem?_getD, List.getElem?_take, hj]
      have hge : wr.heap.size ≤ ip := by omega
      rw [← hwi, ← hip]
      have HI4 := Lib.hid hI
      have HWI := Lib.hid hwi0
      have HGE := Lib.hid hge
      have HPL := Lib.hid hpl
      clear hwi hwi0 hI hge hip hpl hwq HWQ
      refine (RI.refNum_ok ip 4 _ _ 0 wi HI4.out (by rw [HPL.out]; omega) (by omega)).mono ?_
      rintro e w3 ⟨rfl, q2, rfl⟩
      have ho2 : Only (fun _ => False) wr ((wi.drewN q2).setCell ⟨ip, 1, none⟩ (.int .i64 ((0 + 4 : Nat) : Int))) := (HWI.out.drewN q2).setCell (fun h => by have := HGE.out; simp at h; omega) _
      obtain ⟨W2, hW2⟩ : ∃ W2, W2 = (wi.drewN q2).setCell ⟨ip, 1, none⟩ (.int .i64 ((0 + 4 : Nat) : Int)) := ⟨_, rfl⟩
      rw [← hW2] at ho2 ⊢
      have HO2 := Lib.hid ho2
      obtain ⟨xm, hxm⟩ : ∃ xm, xm = (secPc sk).m := ⟨_, rfl⟩
      have hnm : numB (List.take 4 (List.drop 0 ((sk.drop 8).take 4))) = xm := by rw [hxm, List.drop_zero, List.take_of_length_le (by rw [HPL.out]; exact Nat.le_refl _)]; rfl
      rw [hnm]
      have hxm32 : xm < 4294967296 := by rw [hxm]; have := numB_le 4 ((sk.drop 8).take 4) (by rw [HPL.out]; decide); exact this
      obtain ⟨zm, hzm⟩ : ∃ zm : Int, zm = (xm : Int) := ⟨_, rfl⟩
      have hwm : IntKind.u32.wrap zm = zm := by rw [IntKind.wrap_u32]; omega
      rw [← hzm]
      have hhb := HASB.out
      have hHB2 : HasB W2 bk sk := ⟨ho2.keep hhb.1 (fun h => h), hhb.2⟩
      have c12 := hHB2.cell 12 (by decide)
      have c13 := hHB2.cell 13 (by decide)
      obtain ⟨xf, hxf⟩ : ∃ xf, xf = wF sk := ⟨_, rfl⟩
      obtain ⟨xn, hxn⟩ : ∃ xn, xn = wN sk := ⟨_, rfl⟩
      have hf1 : xf = (sk.getD 12 0).toNat := by rw [hxf]; exact one_at sk 12 (by rw [HSL.out]; decide)
      have hn1 : xn = (sk.getD 13 0).toNat := by rw [hxn]; exact one_at sk 13 (by rw [HSL.out]; decide)
      have hf256 : xf < 256 := by rw [hf1]; exact UInt8.toNat_lt _
      have hn256 : xn < 256 := by rw [hn1]; exact UInt8.toNat_lt _
      rw [← hf1] at c12
      rw [← hn1] at c13
      obtain ⟨zf, hzf⟩ : ∃ z : Int, z = (xf : Int) := ⟨_, rfl⟩
      obtain ⟨zn, hzn⟩ : ∃ z : Int, z = (xn : Int) := ⟨_, rfl⟩
      have hwf : IntKind.i64.wrap zf = zf := IntWalk.i64_in _ (by omega)
      have hwn : IntKind.i64.wrap zn = zn := IntWalk.i64_in _ (by omega)
      rw [← hzf] at c12
      rw [← hzn] at c13
      have HZM := Lib.hid hzm
      have HZF := Lib.hid hzf
      have HZN := Lib.hid hzn
      have HXM := Lib.hid hxm
      have HXF := Lib.hid hxf
      have HXN := Lib.hid hxn
      have H256 : Hid (xf < 256 ∧ xn < 256 ∧ xm < 4294967296) := Lib.hid ⟨hf256, hn256, hxm32⟩
      have HB2 := Lib.hid hHB2
      clear hW2 ho2 hnm hxm hhb hHB2 hxf hxn hf1 hn1 hzm hzf hzn hf256 hn256 hxm32 HI4 HWI HGE
      go_upto_region 15 with fail
      clear c12 c13 hwf hwn hwm
      obtain ⟨fuel, hfuel⟩ : ∃ fuel, head + size - sn = fuel + 1 := ⟨head + size - sn - 1, by have := HLT.out; omega⟩
      have HSTOP : Hid (¬ (HeadOk sk last M bg ∧ sk = pad (pcB sn (secPc sk))) → R = rs) := Lib.hid fun hn => by
        have := HI.out.r
        rw [hfuel, wAll_stop HSK.out hn, List.append_nil] at this
        exact this
      have HFU := Lib.hid hfuel
      clear hfuel
      obtain ⟨zl, hzl⟩ : ∃ z : Int, z = (last : Int) := ⟨_, rfl⟩
      obtain ⟨zM, hzM⟩ : ∃ z : Int, z = (M : Int) := ⟨_, rfl⟩
      rw [← hzl, ← hzM]
      have HZL := Lib.hid hzl
      have HZMM := Lib.hid hzM
      clear hzl hzM
      have H2 : Hid (Own w0 W2 (RoR q r base size M head fr n D (.slice ao n cap) (.slice do' dl dc) rs vs data J)) := Lib.hid (HQ.out.quiet HO2.out)
      clear HQ HR
      go_cut [160] (fun cv wx => ∃ c : Bool, cv = .bool c ∧ Hid (wx = W2 ∧ (c = false → HeadOk sk last M bg) ∧ (c = true → R = rs)))
      case first =>
        as_aux_lemma =>
          by_cases c1 : 50 < zn
          · have HST : Hid (R = rs) := Lib.hid (HSTOP.out fun h => by have h1 := h.1.n; have x1 := HXM.out; have x2 := HXF.out; have x3 := HXN.out; have x4 := HZM.out; have x5 := HZF.out; have x6 := HZN.out; have x7 := HZL.out; have x8 := HZMM.out; clear HSTOP HI H2; omega)
            have b1 : decide (50 < zn) = true := by simpa using c1
            go_wp2_with fail
            go_meet
            exact ⟨true, rfl, Lib.hid ⟨rfl, (fun h => by cases h), fun _ => HST.out⟩⟩
          have b1 : decide (50 < zn) = false := by simpa using c1
          by_cases c2 : zm < zl
          · have HST : Hid (R = rs) := Lib.hid (HSTOP.out fun h => by have h1 := h.1.l; have x1 := HXM.out; have x2 := HXF.out; have x3 := HXN.out; have x4 := HZM.out; have x5 := HZF.out; have x6 := HZN.out; have x7 := HZL.out; have x8 := HZMM.out; clear HSTOP HI H2; omega)
            have b2 : decide (zm < zl) = true := by simpa using c2
            go_wp2_with fail
            go_meet
            exact ⟨true, rfl, Lib.hid ⟨rfl, (fun h => by cases h), fun _ => HST.out⟩⟩
          have b2 : decide (zm < zl) = false := by simpa using c2
          by_cases c3 : zM < zm
          · have HST : Hid (R = rs) := Lib.hid (HSTOP.out fun h => by have h1 := h.1.m; have x1 := HXM.out; have x2 := HXF.out; have x3 := HXN.out; have x4 := HZM.out; have x5 := HZF.out; have x6 := HZN.out; have x7 := HZL.out; have x8 := HZMM.out; clear HSTOP HI H2; omega)
            have b3 : decide (zM < zm) = true := by simpa using c3
            go_wp2_with fail
            go_meet
            exact ⟨true, rfl, Lib.hid ⟨rfl, (fun h => by cases h), fun _ => HST.out⟩⟩
          have b3 : decide (zM < zm) = false := by simpa using c3
          cases bg with
          | false =>
            by_cases c4 : zm ≠ zl
            · have HST : Hid (R = rs) := Lib.hid (HSTOP.out fun h => by have h1 := h.1.g; simp at h1; have x1 := HXM.out; have x2 := HXF.out; have x3 := HXN.out; have x4 := HZM.out; have x5 := HZF.out; have x6 := HZN.out; have x7 := HZL.out; have x8 := HZMM.out; clear HSTOP HI H2; omega)
              have b4 : (zm != zl) = true := by simpa using c4
              go_wp2_with fail
              go_meet
              exact ⟨true, rfl, Lib.hid ⟨rfl, (fun h => by cases h), fun _ => HST.out⟩⟩
            have c4' : zm = zl := by omega
            have b4 : (zm != zl) = false := by simpa using c4'
            have HC4 := Lib.hid c4'
            clear c4 c4'
            by_cases c5 : 3 < zf
            · have HST : Hid (R = rs) := Lib.hid (HSTOP.out fun h => by have h1 := h.1.f; have x1 := HXM.out; have x2 := HXF.out; have x3 := HXN.out; have x4 := HZM.out; have x5 := HZF.out; have x6 := HZN.out; have x7 := HZL.out; have x8 := HZMM.out; clear HSTOP HI H2; omega)
              have b5 : decide (3 < zf) = true := by simpa using c5
              go_wp2_with fail
              go_meet
              exact ⟨true, rfl, Lib.hid ⟨rfl, (fun h => by cases h), fun _ => HST.out⟩⟩
            have b5 : decide (3 < zf) = false := by simpa using c5
            have hzf0 : 0 ≤ zf := by have := HZF.out; omega
            by_cases c6 : zf.tmod 2 = 1
            · have HST : Hid (R = rs) := Lib.hid (HSTOP.out fun h => by have h1 := h.1.o; simp at h1; have x1 := HXM.out; have x2 := HXF.out; have x3 := HXN.out; have x4 := HZM.out; have x5 := HZF.out; have x6 := HZN.out; have x7 := HZL.out; have x8 := HZMM.out; rw [Int.tmod_eq_emod_of_nonneg hzf0] at c6; clear HSTOP HI H2; omega)
              have b6 : (zf.tmod 2 == 1) = true := by simpa using c6
              have c6e :  zf % 2 = 1 := by have := c6; rw [Int.tmod_eq_emod_of_nonneg hzf0] at this; omega
              have b6e : (zf % 2 == 1) = true := by simpa using c6e
              go_wp2_with fail
              go_meet
              exact ⟨true, rfl, Lib.hid ⟨rfl, (fun h => by cases h), fun _ => HST.out⟩⟩
            have b6 : (zf.tmod 2 == 1) = false := by simpa using c6
            have c6e : ¬ zf % 2 = 1 := by have := c6; rw [Int.tmod_eq_emod_of_nonneg hzf0] at this; omega
            have b6e : (zf % 2 == 1) = false := by simpa using c6e
            have HC6 : Hid (xf % 2 = 1 ↔ false = true) := Lib.hid (by rw [Int.tmod_eq_emod_of_nonneg hzf0] at c6; have := HZF.out; simp; omega)
            by_cases c2f : zf < 2
            · have b7 : decide (zf < 2) = true := by simpa using c2f
              by_cases c7 : zn ≠ 50
              · have HST : Hid (R = rs) := Lib.hid (HSTOP.out fun h => by have h1 := h.1.u; have x1 := HXM.out; have x2 := HXF.out; have x3 := HXN.out; have x4 := HZM.out; have x5 := HZF.out; have x6 := HZN.out; have x7 := HZL.out; have x8 := HZMM.out; clear HSTOP HI H2; omega)
                have b8 : (zn != 50) = true := by simpa using c7
                go_wp2_with fail
                go_meet
                exact ⟨true, rfl, Lib.hid ⟨rfl, (fun h => by cases h), fun _ => HST.out⟩⟩
              have c7' : zn = 50 := by omega
              have b8 : (zn != 50) = false := by simpa using c7'
              have b9 : (zn == 0) = false := by simp; omega
              have HC7 := Lib.hid c7'
              clear c7 c7'
              have HK : Hid (HeadOk sk last M false) := Lib.hid (by have x1 := HXM.out; have x2 := HXF.out; have x3 := HXN.out; have x4 := HZM.out; have x5 := HZF.out; have x6 := HZN.out; have x7 := HZL.out; have x8 := HZMM.out; have y4 := HC4.out; have y7 := HC7.out; have x9 := HC6.out; rw [x2] at x9; exact ⟨by omega, by omega, by omega, .inr (by omega), by omega, x9, by omega, by omega⟩)
              go_wp2_with fail
              go_meet
              exact ⟨false, rfl, Lib.hid ⟨rfl, (fun _ => HK.out), fun h => by cases h⟩⟩
            · have b7 : decide (zf < 2) = false := by simpa using c2f
              by_cases c8 : zn = 0
              · have b9 : (zn == 0) = true := by simpa using c8
                have HC8 := Lib.hid c8
                clear c8
                by_cases c9 : zf ≠ 3
                · have HST : Hid (R = rs) := Lib.hid (HSTOP.out fun h => by have h1 := h.1.z; have y8 := HC8.out; have x1 := HXM.out; have x2 := HXF.out; have x3 := HXN.out; have x4 := HZM.out; have x5 := HZF.out; have x6 := HZN.out; have x7 := HZL.out; have x8 := HZMM.out; clear HSTOP HI H2; omega)
                  have b10 : (zf != 3) = true := by simpa using c9
                  go_wp2_with fail
                  go_meet
                  exact ⟨true, rfl, Lib.hid ⟨rfl, (fun h => by cases h), fun _ => HST.out⟩⟩
                have c9' : zf = 3 := by omega
                have b10 : (zf != 3) = false := by simpa using c9'
                have HC9 := Lib.hid c9'
                clear c9 c9'
                have HK : Hid (HeadOk sk last M false) := Lib.hid (by have x1 := HXM.out; have x2 := HXF.out; have x3 := HXN.out; have x4 := HZM.out; have x5 := HZF.out; have x6 := HZN.out; have x7 := HZL.out; have x8 := HZMM.out; have y4 := HC4.out; have y8 := HC8.out; have y9 := HC9.out; have x9 := HC6.out; rw [x2] at x9; exact ⟨by omega, by omega, by omega, .inr (by omega), by omega, x9, by omega, by omega⟩)
                go_wp2_with fail
                go_meet
                exact ⟨false, rfl, Lib.hid ⟨rfl, (fun _ => HK.out), fun h => by cases h⟩⟩
              have b9 : (zn == 0) = false := by simpa using c8
              have HK : Hid (HeadOk sk last M false) := Lib.hid (by have x1 := HXM.out; have x2 := HXF.out; have x3 := HXN.out; have x4 := HZM.out; have x5 := HZF.out; have x6 := HZN.out; have x7 := HZL.out; have x8 := HZMM.out; have y4 := HC4.out; have x9 := HC6.out; rw [x2] at x9; exact ⟨by omega, by omega, by omega, .inr (by omega), by omega, x9, by omega, by omega⟩)
              go_wp2_with fail
              go_meet
              exact ⟨false, rfl, Lib.hid ⟨rfl, (fun _ => HK.out), fun h => by cases h⟩⟩
          | true =>
            by_cases c5 : 3 < zf
            · have HST : Hid (R = rs) := Lib.hid (HSTOP.out fun h => by have h1 := h.1.f; have x1 := HXM.out; have x2 := HXF.out; have x3 := HXN.out; have x4 := HZM.out; have x5 := HZF.out; have x6 := HZN.out; have x7 := HZL.out; have x8 := HZMM.out; clear HSTOP HI H2; omega)
              have b5 : decide (3 < zf) = true := by simpa using c5
              go_wp2_with fail
              go_meet
              exact ⟨true, rfl, Lib.hid ⟨rfl, (fun h => by cases h), fun _ => HST.out⟩⟩
            have b5 : decide (3 < zf) = false := by simpa using c5
            have hzf0 : 0 ≤ zf := by have := HZF.out; omega
            by_cases c6 : ¬ zf.tmod 2 = 1
            · have HST : Hid (R = rs) := Lib.hid (HSTOP.out fun h => by have h1 := h.1.o; simp at h1; have x1 := HXM.out; have x2 := HXF.out; have x3 := HXN.out; have x4 := HZM.out; have x5 := HZF.out; have x6 := HZN.out; have x7 := HZL.out; have x8 := HZMM.out; rw [Int.tmod_eq_emod_of_nonneg hzf0] at c6; clear HSTOP HI H2; omega)
              have b6 : (zf.tmod 2 == 1) = false := by simpa using c6
              have c6e : ¬ zf % 2 = 1 := by have := c6; rw [Int.tmod_eq_emod_of_nonneg hzf0] at this; omega
              have b6e : (zf % 2 == 1) = false := by simpa using c6e
              go_wp2_with fail
              go_meet
              exact ⟨true, rfl, Lib.hid ⟨rfl, (fun h => by cases h), fun _ => HST.out⟩⟩
            have b6 : (zf.tmod 2 == 1) = true := by simpa using c6
            have c6e :  zf % 2 = 1 := by have := c6; rw [Int.tmod_eq_emod_of_nonneg hzf0] at this; omega
            have b6e : (zf % 2 == 1) = true := by simpa using c6e
            have HC6 : Hid (xf % 2 = 1 ↔ true = true) := Lib.hid (by rw [Int.tmod_eq_emod_of_nonneg hzf0] at c6; have := HZF.out; simp; omega)
            by_cases c2f : zf < 2
            · have b7 : decide (zf < 2) = true := by simpa using c2f
              by_cases c7 : zn ≠ 50
              · have HST : Hid (R = rs) := Lib.hid (HSTOP.out fun h => by have h1 := h.1.u; have x1 := HXM.out; have x2 := HXF.out; have x3 := HXN.out; have x4 := HZM.out; have x5 := HZF.out; have x6 := HZN.out; have x7 := HZL.out; have x8 := HZMM.out; clear HSTOP HI H2; omega)
                have b8 : (zn != 50) = true := by simpa using c7
                go_wp2_with fail
                go_meet
                exact ⟨true, rfl, Lib.hid ⟨rfl, (fun h => by cases h), fun _ => HST.out⟩⟩
              have c7' : zn = 50 := by omega
              have b8 : (zn != 50) = false := by simpa using c7'
              have b9 : (zn == 0) = false := by simp; omega
              have HC7 := Lib.hid c7'
              clear c7 c7'
              have HK : Hid (HeadOk sk last M true) := Lib.hid (by have x1 := HXM.out; have x2 := HXF.out; have x3 := HXN.out; have x4 := HZM.out; have x5 := HZF.out; have x6 := HZN.out; have x7 := HZL.out; have x8 := HZMM.out; have y7 := HC7.out; have x9 := HC6.out; rw [x2] at x9; exact ⟨by omega, by omega, by omega, .inl rfl, by omega, x9, by omega, by omega⟩)
              go_wp2_with fail
              go_meet
              exact ⟨false, rfl, Lib.hid ⟨rfl, (fun _ => HK.out), fun h => by cases h⟩⟩
            · have b7 : decide (zf < 2) = false := by simpa using c2f
              by_cases c8 : zn = 0
              · have b9 : (zn == 0) = true := by simpa using c8
                have HC8 := Lib.hid c8
                clear c8
                by_cases c9 : zf ≠ 3
                · have HST : Hid (R = rs) := Lib.hid (HSTOP.out fun h => by have h1 := h.1.z; have y8 := HC8.out; have x1 := HXM.out; have x2 := HXF.out; have x3 := HXN.out; have x4 := HZM.out; have x5 := HZF.out; have x6 := HZN.out; have x7 := HZL.out; have x8 := HZMM.out; clear HSTOP HI H2; omega)
                  have b10 : (zf != 3) = true := by simpa using c9
                  go_wp2_with fail
                  go_meet
                  exact ⟨true, rfl, Lib.hid ⟨rfl, (fun h => by cases h), fun _ => HST.out⟩⟩
                have c9' : zf = 3 := by omega
                have b10 : (zf != 3) = false := by simpa using c9'
                have HC9 := Lib.hid c9'
                clear c9 c9'
                have HK : Hid (HeadOk sk last M true) := Lib.hid (by have x1 := HXM.out; have x2 := HXF.out; have x3 := HXN.out; have x4 := HZM.out; have x5 := HZF.out; have x6 := HZN.out; have x7 := HZL.out; have x8 := HZMM.out; have y8 := HC8.out; have y9 := HC9.out; have x9 := HC6.out; rw [x2] at x9; exact ⟨by omega, by omega, by omega, .inl rfl, by omega, x9, by omega, by omega⟩)
                go_wp2_with fail
                go_meet
                exact ⟨false, rfl, Lib.hid ⟨rfl, (fun _ => HK.out), fun h => by cases h⟩⟩
              have b9 : (zn == 0) = false := by simpa using c8
              have HK : Hid (HeadOk sk last M true) := Lib.hid (by have x1 := HXM.out; have x2 := HXF.out; have x3 := HXN.out; have x4 := HZM.out; have x5 := HZF.out; have x6 := HZN.out; have x7 := HZL.out; have x8 := HZMM.out; have x9 := HC6.out; rw [x2] at x9; exact ⟨by omega, by omega, by omega, .inl rfl, by omega, x9, by omega, by omega⟩)
              go_wp2_with fail
              go_meet
              exact ⟨false, rfl, Lib.hid ⟨rfl, (fun _ => HK.out), fun h => by cases h⟩⟩
      case rest =>
      obtain ⟨c, rfl, hwx⟩ := hcut
      obtain rfl := HZMM.out
      obtain rfl := HZL.out
      obtain ⟨hwe, hk1, hk2⟩ := hwx.out
      obtain rfl := hwe.symm
      have HST := Lib.hid hk2
      have HK0 := Lib.hid hk1
      clear hwx hk1 hk2
      cases c with
      | true =>
        have HST2 : Hid (R = rs) := Lib.hid (HST.out rfl)
        clear HST HK0
        go_wp2_with fail
        refine bodyPost_ret (v := .tuple #[.pointer (some ⟨q, 0, none⟩), .slice ao n cap, .int .i64 0]) (by simp [results, Try.results15, go_sem]) rfl ?_
        exact ⟨q, _, rfl, ropen_fin HNL.out.1 HI.out.fr HST2.out H2.out⟩
      | false =>
        have hk : HeadOk sk last M bg := HK0.out rfl
        have HK := Lib.hid hk
        clear hk HST HK0
        go_upto_region 16 with fail
        have hk := HK.out
        have hn50 : xn ≤ 50 := by have := hk.n; have := HXN.out; omega
        obtain rfl := HZN.out
        obtain ⟨m, hm⟩ : ∃ m, m = 14 + xn := ⟨_, rfl⟩
        have s5 : (14 : Int) + (xn : Int) = (m : Int) := by omega
        have s6 : IntKind.i64.wrap ((14 : Int) + (xn : Int)) = (m : Int) := by rw [IntWalk.i64_in _ (by omega)]; omega
        have s7 : IntKind.i64.wrap (m : Int) = (m : Int) := IntWalk.i64_in _ (by omega)
        have y0 : (0 : Int) ≤ (m : Int) := by omega
        have y1 : (14 : Int) ≤ (m : Int) := by omega
        have y2 : (m : Int) ≤ 64 := by omega
        have y3 : 14 ≤ m := by omega
        have y4 : m ≤ 64 := by omega
        have HM14 : Hid (m - 14 = xn) := Lib.hid (by omega)
        have hdl : (secPc sk).d.length = xn := by rw [secPc_dl HSL.out hk.n]; exact HXN.out.symm
        have HDP : Hid ((secPc sk).d = (sk.drop 14).take xn) := Lib.hid (by rw [secPc_d, HXN.out])
        have hxk : (secPc sk).Ok := secPc_ok (by rw [hdl]; exact hn50)
        obtain ⟨L1, hL1⟩ : ∃ L, L = pad (pcB sn (secPc sk)) := ⟨_, rfl⟩
        have HC1 : Hid (∀ W, Only (fun _ => False) W2 W → Calls Try.prog 42 #[.int .u64 sn, .int .u32 zm, .int .i64 zf, .slice (some ⟨bk, 14, none⟩) (m - 14) 50] W fun e w' => ∃ so sc, e = .returned (.slice so 64 sc) ∧ (convert 48 9 (.slice so 64 sc)).run Try.prog w' = .ok (.string ⟨L1.toArray⟩) w' ∧ Only (fun _ => False) W2 w') := Lib.hid fun W hW => by
          have hv : SlC W (.slice (some ⟨bk, 14, none⟩) (m - 14) 50) (secPc sk).d := by
            rw [HDP.out, HM14.out]
            have := HB2.out.part 14 xn 50 (by omega)
            exact this.keep hW
          have := rsector sn (secPc sk) (by omega) hxk _ W hv
          rw [show ((secPc sk).m : Int) = zm by rw [HZM.out, HXM.out], show ((secPc sk).f : Int) = zf by rw [HZF.out, HXF.out]; rfl] at this
          refine this.mono ?_
          rintro e w' ⟨sv, rfl, ho, hon⟩
          obtain ⟨so, sc, rfl⟩ := own_shapeN ho
          refine ⟨so, sc, rfl, ?_, hW.trans hon (fun _ _ h => h)⟩
          have hp64 : (pad (pcB sn (secPc sk))).length = 64 := pad_length (by rw [pcB_length]; omega)
          have hsc : SlC w' (.slice so 64 sc) (pad (pcB sn (secPc sk))) := by
            have h9 := own_base ho (Nat.zero_le _)
            have h10 : w'.ownsRow 0 5 1 (.slice so 64 sc) (pad (pcB sn (secPc sk))).length (u8s (pad (pcB sn (secPc sk)))) := by rw [hp64]; exact h9
            exact (own_toB h10).toC
          rw [hL1]
          exact run_strC hsc
        have HCB : Hid (∀ W, Only (fun _ => False) W2 W → (convert 48 9 (.slice (some ⟨bk, 0, none⟩) 64 64)).run Try.prog W = .ok (.string ⟨sk.toArray⟩) W) := Lib.hid fun W hW => run_strC (HB2.out.slc.keep hW)
        have HQd : Hid (Only (fun _ => False) W2 W2.drew) := Lib.hid (Only.refl _ W2).drew
        have HL1 := Lib.hid hL1
        clear hm hk hdl hxk hL1
        have HEQ : Hid (L1 = sk ↔ sk = pad (pcB sn (secPc sk))) := Lib.hid (by rw [HL1.out]; exact eq_comm)
        go_cut [172] (fun cv wx => ∃ (c : Bool) (W5 : World), cv = .bool c ∧ wx = W5 ∧ Hid (Only (fun _ => False) W2 W5 ∧ (c = false → sk = pad (pcB sn (secPc sk))) ∧ (c = true → ¬ sk = pad (pcB sn (secPc sk)))))
        case first =>
          by_cases he : L1 = sk
          · have HE : Hid (sk = pad (pcB sn (secPc sk))) := Lib.hid (HEQ.out.1 he)
            rw [he] at HC1
            obtain ⟨S, hS⟩ : ∃ S : ByteArray, S = ⟨sk.toArray⟩ := ⟨_, rfl⟩
            rw [← hS] at HC1 HCB
            have cvb0 := HCB.out _ HQd.out
            clear he hS HL1 HEQ
            go_region_with (first
              | (go_at_call 42; (with_reducible refine (HC1.out _ HQd.out).mono ?_); rintro e w5 ⟨so, sc, rfl, cvs, ha⟩; have HA1 := Lib.hid ha; have cvb1 := HCB.out _ ha; clear ha))
            all_goals
              go_wp2_with fail
              go_meet
              exact ⟨false, _, rfl, rfl, Lib.hid ⟨HA1.out, (fun _ => HE.out), fun h => by cases h⟩⟩
          · have HE : Hid (¬ sk = pad (pcB sn (secPc sk))) := Lib.hid (fun h => he (HEQ.out.2 h))
            obtain ⟨L2, hL2⟩ : ∃ L, L = sk := ⟨_, rfl⟩
            rw [← hL2] at HCB he
            have hneB : (L1 == L2) = false := by simpa using he
            have hneN : (L1 != L2) = true := by simpa using he
            have cvb0 := HCB.out _ HQd.out
            clear hL2 HL1 HEQ
            go_region_with (first
              | (go_at_call 42; (with_reducible refine (HC1.out _ HQd.out).mono ?_); rintro e w5 ⟨so, sc, rfl, cvs, ha⟩; have HA1 := Lib.hid ha; have cvb1 := HCB.out _ ha; clear ha))
            all_goals
              go_wp2_with fail
              go_meet
              exact ⟨true, _, rfl, rfl, Lib.hid ⟨HA1.out, (fun h => by cases h), fun _ => HE.out⟩⟩
        case rest =>
        obtain ⟨c, W5, rfl, hwe, hwx⟩ := hcut
        have HSS : Hid (IntKind.i64.wrap ((14 : Int) + (xn : Int)) = (m : Int) ∧ IntKind.i64.wrap (m : Int) = (m : Int)) := Lib.hid ⟨s6, s7⟩
        clear s5 s6 s7
        obtain rfl := hwe.symm
        obtain ⟨how, hw1, hw2⟩ := hwx.out
        have H5 : Hid (Own w0 W5 (RoR q r base size M head fr n D (.slice ao n cap) (.slice do' dl dc) rs vs data J)) := Lib.hid (H2.out.quiet how)
        have HB5 : Hid (HasB W5 bk sk) := Lib.hid ⟨how.keep HB2.out.1 (fun h => h), HB2.out.2⟩
        have HE := Lib.hid hw1
        have HEN := Lib.hid hw2
        clear HC1 HCB HQd HL1 HEQ hwx how hw1 hw2 H2 HB2
        cases c with
        | true =>
          have HST2 : Hid (R = rs) := Lib.hid (HSTOP.out fun h => HEN.out rfl h.2)
          clear HEN HE
          go_wp2_with fail
          refine bodyPost_ret (v := .tuple #[.pointer (some ⟨q, 0, none⟩), .slice ao n cap, .int .i64 0]) (by simp [results, Try.results15, go_sem]) rfl ?_
          exact ⟨q, _, rfl, ropen_fin HNL.out.1 HI.out.fr HST2.out H5.out⟩
        | false =>
          have he : sk = pad (pcB sn (secPc sk)) := HE.out rfl
          have hr := HI.out.r
          rw [HFU.out, wAll_go HSK.out HSL.out (by omega) HK.out he] at hr
          obtain ⟨pt, hpt⟩ : ∃ pt, pt = (sk.drop 14).take (wN sk) := ⟨_, rfl⟩
          rw [← hpt, ← HXF.out, ← HXM.out] at hr
          have hptl : pt.length = xn := by rw [hpt, ← HXN.out, List.length_take, List.length_drop, HSL.out]; omega
          have HPS : Hid (SlC W5 (.slice (some ⟨bk, 14, none⟩) xn 50) pt) := Lib.hid (by rw [hpt, ← HXN.out]; exact HB5.out.part 14 xn 50 (by omega))
          have HRF := Lib.hid hr
          have HPT := Lib.hid hptl
          have h5q : Own w0 W5 (Sep (OwnB (.slice do' dl dc) data) (Sep (RowV 88 3 (.slice ao n cap) n (recCells rs vs)) (Sep (DatR vs rs) (Sep (RLogR q r base size M head fr) (Sep (RefR r D) J))))) := H5.out.ac (by unfold RoR; ac_rfl)
          have HCS : Hid (Value.slice do' dl dc = .slice none 0 0 ∨ 0 < pt.length) := Lib.hid (by
            rcases HK.out.z with hz | hz
            · have ho := HK.out.o
              rw [hz] at ho
              obtain ⟨b1, b2, b3⟩ := HI.out.b (ho.1 rfl)
              have := HNL.out.2
              rw [b1] at this
              exact .inl (by rw [this, b2, b3]; rfl)
            · exact .inr (by rw [hptl, HXN.out]; exact hz))
          have HDLB : Hid (data.length + pt.length ≤ 300000) := Lib.hid (by have := HI.out.dl; have := HI.out.hi; have := HI.out.lo; have := HN.out; omega)
          have hdlm : dl + xn ≤ 300000 := by have := HDLB.out; have := HNL.out.2; omega
          have HLEN : Hid ((data ++ pt).length = dl + xn) := Lib.hid (by rw [List.length_append, hptl, HNL.out.2])
          have H5Q := Lib.hid h5q
          clear he hr hpt hptl h5q H5 HEN HE
          obtain ⟨s6, s7⟩ := HSS.out
          go_upto_region 17 with fail
          go_upto_region 18 with (at_builtin; rw [HM14.out]; refine wp_moreO H5Q.out (.slice (some ⟨bk, 14, none⟩) xn 50) pt HPS.out (by have := HDLB.out; omega) HCS.out rfl (.tmp 173) (.tmp 177) rfl rfl rfl (dl + xn) HLEN.out ?_; intro bo2 bc2 w6 H6)
          clear s6 s7 y0 y1 y2 y3 y4
          obtain ⟨d2, hd2⟩ : ∃ d2, d2 = dl + xn := ⟨_, rfl⟩
          obtain ⟨dt, hdt⟩ : ∃ dt, dt = data ++ pt := ⟨_, rfl⟩
          rw [← hd2, ← hdt] at HLEN H6
          rw [← hdt] at HRF
          rw [← hd2]
          have hd2m : d2 ≤ 300000 := by omega
          have HDT := Lib.hid hdt
          have HS1 : Hid (IntKind.u64.wrap ((sn : Int) + 1) = (sn : Int) + 1) := Lib.hid (by rw [IntKind.wrap_u64]; omega)
          clear H5Q HPS HCS hd2 hdt hdlm HB5
          by_cases hf2 : xf < 2
          · as_aux_lemma =>
              have hf2I : ¬ 2 ≤ zf := by have := HZF.out; omega
              have hf2B : decide (2 ≤ zf) = false := decide_eq_false hf2I
              have hRF := HRF.out
              rw [if_neg (by omega)] at hRF
              have HNI : Hid (RoI (lookP D.N base size) head size M R xm (sn + 1) fr false bo2 bc2 rs dt) := Lib.hid ⟨by have := HI.out.lo; omega, HLT.out, by rw [HXM.out]; exact HK.out.m, by rw [hRF]; have := HFU.out; rw [show head + size - (sn + 1) = fuel by omega], HI.out.fr, (fun h => by cases h), by rw [HDT.out, List.length_append, HPT.out]; have := HI.out.dl; have := HI.out.lo; have : xn ≤ 50 := hn50; omega⟩
              have H7 : Hid (Own w0 w6 (RoR q r base size M head fr n D (.slice ao n cap) (.slice bo2 d2 bc2) rs vs dt J)) := Lib.hid (H6.out.ac (by unfold RoR; ac_rfl))
              clear hRF HRF H6 hf2
              have e_s1 := HS1.out
              go_wp2_with fail
              go_roundw
              case rel => exact ⟨xm, sn + 1, fr, n, d2, false, ao, cap, bo2, bc2, rs, vs, dt, rfl, rfl, by rw [HZM.out], rfl, by go_num, Lib.hid ⟨HNL.out.1, HLEN.out.symm⟩, HNI, H7⟩
              case measure => have := HLT.out; simp [intOf]; omega
          · as_aux_lemma =>
              have hf2I : 2 ≤ zf := by have := HZF.out; omega
              have hf2B : decide (2 ≤ zf) = true := decide_eq_true hf2I
              have hRF := HRF.out
              rw [if_pos (by omega), HLEN.out] at hRF
              by_cases hbig : 32768 < d2
              · rw [if_neg (by omega), List.append_nil] at hRF
                have hbI : (32768 : Int) < (d2 : Int) := by omega
                have hbB : decide ((32768 : Int) < (d2 : Int)) = true := decide_eq_true hbI
                have HST2 : Hid (R = rs) := Lib.hid hRF
                have H7 : Hid (Own w0 w6 (RoR q r base size M head fr n D (.slice ao n cap) (.slice bo2 d2 bc2) rs vs dt J)) := Lib.hid (H6.out.ac (by unfold RoR; ac_rfl))
                clear hRF HRF H6 hf2 hbig
                go_wp2_with fail
                refine bodyPost_ret (v := .tuple #[.pointer (some ⟨q, 0, none⟩), .slice ao n cap, .int .i64 0]) (by simp [results, Try.results15, go_sem]) rfl ?_
                exact ⟨q, _, rfl, ropen_fin HNL.out.1 HI.out.fr HST2.out H7.out⟩
              · rw [if_pos (by omega)] at hRF
                have hbI : ¬ (32768 : Int) < (d2 : Int) := by omega
                have hbB : decide ((32768 : Int) < (d2 : Int)) = false := decide_eq_false hbI
                have hn4 : n < 4096 := by
                  have h1 := HRL.out
                  have h2 := HN.out
                  have h3 := HNL.out.1
                  rw [hRF, List.length_append, List.length_cons] at h1
                  omega
                have HNI : Hid (RoI (lookP D.N base size) head size M R xm (sn + 1) (sn + 1) true none 0 (rs ++ [(fr, sn + 1, dt)]) []) := Lib.hid ⟨by have := HI.out.lo; omega, HLT.out, by rw [HXM.out]; exact HK.out.m, by rw [hRF, List.append_assoc]; have := HFU.out; rw [show head + size - (sn + 1) = fuel by omega]; rfl, (nextOf_snoc _ _ _ _ _).symm, fun _ => ⟨rfl, rfl, rfl⟩, Nat.zero_le _⟩
                have h7 : Own w0 w6 (Sep (RowV 88 3 (.slice ao n cap) n (recCells rs vs)) (Sep (RLogR q r base size M head fr) (Sep (Sep (OwnB (.slice bo2 d2 bc2) dt) (DatR vs rs)) (Sep (RefR r D) J)))) := H6.out.ac (by ac_rfl)
                have b5 := (rlog_cells h7.snd.held).2.2.2.2.2
                have hvl : vs.length = rs.length := by
                  obtain ⟨F, hA, _⟩ := h7.snd.snd.fst.snd
                  exact hA.1
                have HVL := Lib.hid hvl
                have hbs := fun w => run_buildSlice_one (P := Try.prog) w 39 88 _ 3 Try.underlying39 Try.infoRrec rfl (by decide) (by decide) #[.int .u64 (fr : Int), .int .u64 ((sn : Int) + 1), .slice bo2 d2 bc2] rfl
                obtain ⟨i0, hi0, hz0, hz1, hz2⟩ := info_parts Try.infoRrec3
                have HRW := Lib.hid (h7.owns.alloc (.cells #[.int .u64 (fr : Int), .int .u64 ((sn : Int) + 1), .slice bo2 d2 bc2] 88))
                have HA := Lib.hid ((h7.alloc (.cells #[.int .u64 (fr : Int), .int .u64 ((sn : Int) + 1), .slice bo2 d2 bc2] 88)).snd)
                clear hRF HRF H6 hf2 hbig h7 hvl
                have HMX : Hid (n + 1 ≤ maxLen ∧ (n + 1) * 40 ≤ 140737488355328) := Lib.hid ⟨by unfold maxLen; omega, by omega⟩
                clear hn4
                have HOC : Hid (∀ u ∈ ([.int .u64 (fr : Int), .int .u64 ((sn : Int) + 1), .slice bo2 d2 bc2] : List Value), u.oneCell' = true) := Lib.hid (by
                  intro u hu
                  rcases List.mem_cons.1 hu with rfl | hu
                  · rfl
                  · rcases List.mem_cons.1 hu with rfl | hu
                    · rfl
                    · rw [List.mem_singleton.1 hu]; rfl)
                have e_s1 := HS1.out
                go_wp2_with (first | (at_builtin; refine wpList_append_lies _ rfl (.tmp 186) (.tmp 195) 39 rfl 0 88 i0 _ 3 40 Try.underlying39 hi0 hz0 hz1 hz2 rfl (by decide) (.slice ao n cap) n (recCells rs vs) rfl HRW.out ⟨w6.heap.size, 0, none⟩ 1 1 [.int .u64 (fr : Int), .int .u64 ((sn : Int) + 1), .slice bo2 d2 bc2] rfl rfl (World.news_of_block (heap_alloc_new w6 _)) HOC.out Nat.zero_lt_one HMX.out.1 HMX.out.2 (Nat.zero_le _) (w6.heap.size + 1) (by simp) ?_))
                intro g cap2 w7 hown hgrow hat hlt7
                have h8 := HA.out.appended hown hgrow (hat.imp (fun h => h) (fun h => by simp; omega))
                have h9 : Own w0 w7 (Sep (RLogR q r base size M head fr) (Sep (RowV 88 3 (.slice (some ⟨g, 0, none⟩) (n + 1) cap2) (n + 1) (recCells rs vs ++ [.int .u64 (fr : Int), .int .u64 ((sn : Int) + 1), .slice bo2 d2 bc2])) (Sep (Sep (OwnB (.slice bo2 d2 bc2) dt) (DatR vs rs)) (Sep (RefR r D) J)))) := h8.ac (by ac_rfl)
                have k5 : w7.frozen? ⟨q, 5, none⟩ = false := blk_free h9.held 5
                have c5 := (rlog_cells h9.held).2.2.2.2.2
                have h10 := h9.store 5 (.int .u64 ((sn : Int) + 1))
                have H10 : Hid (Own w0 (w7.setCell ⟨q, 5, none⟩ (.int .u64 ((sn : Int) + 1))) (RoR q r base size M head (sn + 1) (n + 1) D (.slice (some ⟨g, 0, none⟩) (n + 1) cap2) (.slice none 0 0) (rs ++ [(fr, sn + 1, dt)]) (vs ++ [.slice bo2 d2 bc2]) [] J)) := Lib.hid (by
                  have h11 : Own w0 (w7.setCell ⟨q, 5, none⟩ (.int .u64 ((sn : Int) + 1))) (Sep (RLogR q r base size M head (sn + 1)) (Sep (RowV 88 3 (.slice (some ⟨g, 0, none⟩) (n + 1) cap2) (n + 1) (recCells (rs ++ [(fr, sn + 1, dt)]) (vs ++ [.slice bo2 d2 bc2]))) (Sep (DatR (vs ++ [.slice bo2 d2 bc2]) (rs ++ [(fr, sn + 1, dt)])) (Sep (RefR r D) J)))) := by
                    rw [recCells_snoc HVL.out]
                    exact h10.imp fun F hF => hF.imp (fun _ h => h) (fun B hB => hB.imp (fun _ h => h) (fun C hC => hC.imp (fun _ h => DatR.push h) (fun _ h => h)))
                  exact h11.ob_nil.ac (by unfold RoR; ac_rfl))
                clear hown hgrow hat hlt7 h8 h9 h10 HA HRW hi0 hz0 hz1 hz2 hbs b5
                go_wp2_with fail
                go_roundw
                case rel => exact ⟨xm, sn + 1, sn + 1, n + 1, 0, true, some ⟨g, 0, none⟩, cap2, none, 0, rs ++ [(fr, sn + 1, dt)], vs ++ [.slice bo2 d2 bc2], [], rfl, rfl, by rw [HZM.out], rfl, by go_num, Lib.hid ⟨by rw [List.length_append, ← HNL.out.1]; rfl, rfl⟩, HNI, H10⟩
                case measure => have := HLT.out; simp [intOf]; omega
    · have hltI : ¬ (sn : Int) < zend := by omega
      have hltB : decide ((sn : Int) < zend) = false := decide_eq_false hltI
      have HST2 : Hid (R = rs) := Lib.hid (by
        have := HI.out.r
        rw [show head + size - sn = 0 by omega] at this
        rw [this]
        exact List.append_nil _)
      clear hlt hlo hhi hze HR
      go_wp2_with fail
      refine bodyPost_ret (v := .tuple #[.pointer (some ⟨q, 0, none⟩), .slice ao n cap, .int .i64 0]) (by simp [results, Try.results15, go_sem]) rfl ?_
      exact ⟨q, _, rfl, ropen_fin HNL.out.1 HI.out.fr HST2.out HQ.out⟩

end Go.Proofs.Ytbimhiffcdhcaaa
