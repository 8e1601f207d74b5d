/-
  The walk of the statement DiskPlays, where the size is above 64: the same walk as for a disk of few sectors, which is what the statement makes of it.
-/
import Derived.Test.YtidkeglldmbfeaaDiskPlays2
namespace Go.Proofs.Ytidkeglldmbfeaa
open Go Go.RowKit
set_option linter.unusedVariables false
set_option linter.unusedSimpArgs false
set_option maxRecDepth 100000

set_option maxHeartbeats 8000000 in
theorem plays_mod (z : Int) (n : Nat) (ao : Option Addr) (c : Nat) (os : List OpT) (w : World) (h1 : 64 < z) (h2 : z ≤ 4096) (h3 : 8 + z % 57 = n) (ho : SlOpS w ao os) :
    Calls Try.prog 3 #[.int .i64 z, .slice ao os.length c] w fun e w' => e = .returned (.bool true) ∧ Quiet w w' := by
  have h8 : 8 ≤ n := by omega
  have hn : n ≤ 64 := by omega
  have HO := Lib.hid ho; clear ho
  have h1B : decide (64 < z) = true := by simpa using h1
  have h2B : decide (z ≤ 4096) = true := by simpa using h2
  have hz0 : 0 ≤ z := by omega
  have HN := Lib.hid hn
  have H8 := Lib.hid h8
  have H3 := Lib.hid h3
  clear hn h8 h3
  go_enter Try.func3, Try.ntmps3
  go_wp2_with fail
  refine (awake_any w).mono ?_
  rintro e w0 ⟨rfl, hq⟩
  have H0 := Lib.hid ((Own.start w).quiet hq); clear hq
  go_wp2_with fail
  rw [H3.out]
  clear H3 h1 h2 hz0
  refine (own_new H0.out n H8.out (by have := HN.out; omega)).mono ?_
  rintro e w1 ⟨p, rfl, h1⟩
  have H1 := Lib.hid h1; clear h1 H0
  go_wp2_with fail
  refine (own_rnew H1.out n H8.out (by have := HN.out; omega)).mono ?_
  rintro e w2 ⟨r, rfl, h2⟩
  have HP0 : Hid (PlayR w w2 p r n 0 (DS.new n) Emp) := Lib.hid ⟨h2.swap, ⟨rfl, Nat.le_refl _, Nat.le_refl _, Nat.le_refl _⟩, Coh.new n⟩
  clear h2 H1
  go_wp2_with fail
  go_loopw [11] (fun i wr => ∃ (k : Nat) (D : DS), k ≤ os.length ∧ k ≤ 200 ∧ i = .int .i64 k ∧ Hid (PlayR w wr p r n k D Emp)) (fun i _ => os.length - (intOf i).toNat)
  case atStart => exact ⟨0, _, Nat.zero_le _, by omega, rfl, HP0⟩
  case round =>
    clear HP0
    obtain ⟨k, D, hk, hk2, rfl, HP⟩ := hrel
    by_cases hin : k < os.length ∧ k < 200
    · obtain ⟨hlt, h200⟩ := hin
      · have hltI : (k : Int) < (os.length : Int) := by omega
        have h200I : (k : Int) < 200 := by omega
        have hk0 : (0 : Int) ≤ (k : Int) := by omega
        obtain ⟨g, off, rfl, hx⟩ := HO.out k hlt
        obtain ⟨x, hxe⟩ : ∃ x, x = os.getD k default := ⟨_, rfl⟩
        rw [← hxe] at hx
        clear hxe
        obtain ⟨vb, hvb, hSb, hBl⟩ := hx.b
        obtain ⟨lo, lc, hvl, hSl, hLl, hLn⟩ := hx.l
        obtain ⟨vo, vc, rfl, hvc⟩ := hSb.2
        have hri := hx.ri
        have hrl := hx.rl
        have hon := HP.out.1.only
        have d0 : wr.cell? ⟨g, off + k * 4, none⟩ = some (.int .i64 x.K) := hon.cellq hx.k
        have d1 : wr.cell? ⟨g, off + k * 4 + 1, none⟩ = some (.int .i64 x.I) := hon.cellq hx.i
        have d2 : wr.cell? ⟨g, off + k * 4 + 2, none⟩ = some (.slice vo x.B.length vc) := hon.cellq hvb
        have d3 : wr.cell? ⟨g, off + k * 4 + 3, none⟩ = some (.slice lo x.L.length lc) := hon.cellq hvl
        obtain ⟨xk, xi, xb, xl⟩ := x
        simp only at d0 d1 d2 d3 hSb hBl hSl hLl hLn hri hrl
        have HSB := Lib.hid hSb
        have HBL := Lib.hid hBl
        have HSL := Lib.hid hSl
        have HLL := Lib.hid hLl
        have HLN := Lib.hid hLn
        have HRI := Lib.hid hri
        have HRL := Lib.hid hrl
        have HLT := Lib.hid hlt
        have H200 := Lib.hid h200
        clear hx hvb hSb hvl hSl hon hBl hLl hLn hvc hri hrl hk hk2 hlt h200
        go_upto_block 2 with fail
        have hpl := (HP.out.1.alloc (.cells #[.int .i64 xk, .int .i64 xi, .slice vo xb.length vc, .slice lo xl.length lc] 41)).swap.rot
        have he := Own.blk hpl.snd.snd
        obtain ⟨op, hop⟩ : ∃ op, op = wr.heap.size := ⟨_, rfl⟩
        rw [← hop] at hpl he ⊢
        clear d0 d1 d2 d3 hop
        generalize wr.alloc (.cells #[.int .i64 xk, .int .i64 xi, .slice vo xb.length vc, .slice lo xl.length lc] 41) = w3 at *
        have e0 : w3.cell? ⟨op, 0, none⟩ = some (.int .i64 xk) := by simp [World.cell?, he]
        have e1 : w3.cell? ⟨op, 1, none⟩ = some (.int .i64 xi) := by simp [World.cell?, he]
        have e2 : w3.cell? ⟨op, 2, none⟩ = some (.slice vo xb.length vc) := by simp [World.cell?, he]
        have e3 : w3.cell? ⟨op, 3, none⟩ = some (.slice lo xl.length lc) := by simp [World.cell?, he]
        have HPO := Lib.hid hpl
        have HFW := Lib.hid HP.out.2.1
        have HCO := Lib.hid HP.out.2.2
        have hkb : k < 200 := H200.out
        have hb1 : D.W.length ≤ 1000000 := by have := HFW.out.W; omega
        have hb2 : D.wr ≤ 1000000 := by have := HFW.out.wr; omega
        have hb3 : D.sy ≤ 1000000 := by have := HFW.out.sy; omega
        have HB1 := Lib.hid hb1
        have HB2 := Lib.hid hb2
        have HB3 := Lib.hid hb3
        have HSZ := Lib.hid HP.out.2.1.sz
        have HOKD : Hid D.Ok := Lib.hid (by obtain ⟨gn, gk, vw, hD⟩ := HP.out.1.disk; exact hD.ok)
        clear hpl he HP hkb hb1 hb2 hb3
        obtain ⟨hq5, hqe⟩ := modN_spec 5 (by decide) (by decide) xk
        have hqe2 : (wrap64 (xk.tmod 5 + 5)).tmod 5 = (modN 5 xk : Int) := hqe
        obtain ⟨qv, hqv⟩ : ∃ qv : Int, qv = (wrap64 (xk.tmod 5 + 5)).tmod 5 := ⟨_, rfl⟩
        have hkinds : qv = 0 ∨ qv = 1 ∨ qv = 2 ∨ qv = 3 ∨ qv = 4 := by omega
        rw [← hqv]
        have HKD := Lib.hid hkinds
        clear hq5 hqe hqe2 hqv hkinds
        go_cut [11] (fun s wx => s = .int .i64 k ∧ ∃ E, Hid (PlayR w wx p r n (k + 1) E Emp))
        case first =>
          rcases HKD.out with rfl | rfl | rfl | rfl | rfl
          · as_aux_lemma =>
              go_wp2_with fail
              refine (raw_lent _ xb w3 (HSB.out.1.keep HPO.out.only) (by have := HBL.out; omega)).mono ?_
              rintro e w4 ⟨gm, cm, rfl, hml, ho4⟩
              have hmo : OwnB (.slice (some ⟨gm, 0, none⟩) (xb ++ [71, 72]).length cm) (xb ++ [71, 72]) w4 (fun q => (Value.slice (some ⟨gm, 0, none⟩) (xb ++ [71, 72]).length cm).ownBlock = some q) := by
                refine ownB_mk (b := w3.heap.size) ?_
                rw [len2]
                exact hml
              have h4 := (HPO.out.fresh ho4 hmo (fun q hq => by simp [Value.ownBlock] at hq; subst hq; exact (hml.lt gm rfl).1)).swap
              have HQd := Lib.hid h4.drew
              clear hml ho4 hmo h4 HPO
              have hcall1 := fun (W : World) (hW : Own w W (Sep (DiskR p D) (Sep (OwnB (.slice (some ⟨gm, 0, none⟩) (xb ++ [71, 72]).length cm) (xb ++ [71, 72])) (Sep (RefR r D) (Sep (Blk op (.cells #[.int .i64 xk, .int .i64 xi, .slice vo xb.length vc, .slice lo xl.length lc] 41)) Emp))))) =>
                own_write hW xi (.slice (some ⟨gm, 0, none⟩) xb.length cm) xb (fun F B hJ hd _ _ => lent_apart hJ hd) HB1.out HB2.out
              have hcall2 := fun (W : World) (hW : Own w W (Sep (RefR r D) (Sep (DiskR p (D.write xi xb)) (Sep (OwnB (.slice (some ⟨gm, 0, none⟩) (xb ++ [71, 72]).length cm) (xb ++ [71, 72])) (Sep (Blk op (.cells #[.int .i64 xk, .int .i64 xi, .slice vo xb.length vc, .slice lo xl.length lc] 41)) Emp))))) =>
                own_rwrite hW xi (.slice vo xb.length vc) xb (fun F B _ _ h0 _ => HSB.out.1.old hW.only h0) HB1.out HB2.out
              have hcall3 := fun (W : World) (hW : Own w W (Sep (RefR r (D.write xi xb)) (Sep (DiskR p (D.write xi xb)) (Sep (OwnB (.slice (some ⟨gm, 0, none⟩) (xb ++ [71, 72]).length cm) (xb ++ [71, 72])) (Sep (Blk op (.cells #[.int .i64 xk, .int .i64 xi, .slice vo xb.length vc, .slice lo xl.length lc] 41)) Emp))))) =>
                raw_kept 0 gm cm (.slice vo xb.length vc) xb W (by
                  obtain ⟨F, h5, _⟩ := hW.snd.snd.fst
                  have := h5.1
                  rwa [len2] at this) (HSB.out.1.keep hW.only) (by have := HBL.out; omega)
              have HC1 := Lib.hid hcall1
              have HC2 := Lib.hid hcall2
              have HC3 := Lib.hid hcall3
              clear hcall1 hcall2 hcall3
              go_upto_region 23 with fail
              go_region_held3 (fun w' => w'.cell? ⟨op, 1, none⟩ = some (.int .i64 xi) ∧ w'.cell? ⟨op, 2, none⟩ = some (.slice vo xb.length vc))
                (first
                  | exact op_cells HA2.out
                  | exact op_cells HA1.out
                  | exact op_cells HQd.out)
                (first
                  | (go_at_call 15; (with_reducible refine (HC1.out _ HQd.out).mono ?_); rintro e w5 ⟨rfl, ha⟩; have HA1 := Lib.hid ha.rot.swap; clear ha)
                  | (go_at_call 23; (with_reducible refine (HC2.out _ HA1.out).mono ?_); rintro e w6 ⟨rfl, ha⟩; have HA2 := Lib.hid ha; clear ha)
                  | (go_at_call 24; (with_reducible refine (HC3.out _ HA2.out).mono ?_); rintro e w7 ⟨rfl, rfl⟩))
              clear HC1 HC2 HC3 HQd HA1
              obtain ⟨E, hE⟩ : ∃ E, E = D.write xi xb := ⟨_, rfl⟩
              have hfe := HFW.out.write xi xb
              have hce := HCO.out.write xi xb
              rw [← hE] at HA2 hfe hce
              have HFE := Lib.hid hfe
              have HCE := Lib.hid hce
              clear hE hfe hce
              obtain ⟨mv, hmv⟩ : ∃ mv, mv = Value.slice (some ⟨gm, 0, none⟩) (xb ++ [71, 72]).length cm := ⟨_, rfl⟩
              rw [← hmv] at HA2
              have HMV := Lib.hid hmv; clear hmv
              have HL0 : Hid (Own w w6 (Sep (OwnB mv (xb ++ [71, 72])) (Sep (RefR r E) (Sep (DiskR p E) (Sep (Blk op (.cells #[.int .i64 xk, .int .i64 xi, .slice vo xb.length vc, .slice lo xl.length lc] 41)) Emp))))) := Lib.hid (HA2.out.rot.swap)
              clear HA2
              go_wp2_with fail
              go_loopw [14] (fun i wr => ∃ (j : Nat) (ys : List UInt8), j ≤ xb.length ∧ i = .int .i64 j ∧ ys.length = xb.length + 2 ∧ Hid (Own w wr (Sep (OwnB mv ys) (Sep (RefR r E) (Sep (DiskR p E) (Sep (Blk op (.cells #[.int .i64 xk, .int .i64 xi, .slice vo xb.length vc, .slice lo xl.length lc] 41)) Emp)))))) (fun i _ => xb.length - (intOf i).toNat)
              case atStart => exact ⟨0, _, Nat.zero_le _, rfl, len2 xb, HL0⟩
              case round =>
                clear HL0
                obtain ⟨j, ys, hj, rfl, hys, HL⟩ := hrel
                by_cases hlj : j < xb.length
                · have hljI : (j : Int) < (xb.length : Int) := by omega
                  have hj0 : (0 : Int) ≤ (j : Int) := by omega
                  obtain ⟨g', cp, hv, hcp, ⟨u, hu⟩, hfz, hput⟩ := own_put HL.out (k := j) (by omega) 1
                  have hg : g' = gm ∧ cp = cm := by
                    have := HMV.out
                    rw [hv] at this
                    simp at this
                    exact ⟨this.1, this.2.2⟩
                  obtain ⟨hg1, hg2⟩ := hg
                  subst hg1
                  have hcm : xb.length + 2 ≤ cm := by rw [← hg2]; rw [hys] at hcp; exact hcp
                  have hjb : (j : Int) ≤ 140737488351232 := by have := HBL.out; omega
                  have hjc : (j : Int) < (cm : Int) := by omega
                  have hjn : j < cm := by omega
                  clear hcm hg2
                  have HPUT := Lib.hid hput
                  have HYS : Hid ((ys.set j 1).length = xb.length + 2) := Lib.hid (by rw [List.length_set]; exact hys)
                  have HLJ := Lib.hid hlj
                  clear hput hv hcp HL HMV hys hlj hj
                  go_wp2
                  go_roundw
                  case rel => exact ⟨j + 1, _, HLJ.out, by go_num, HYS.out, HPUT⟩
                  case measure => have := HLJ.out; simp [intOf]; omega
                · have hljI : ¬ (j : Int) < (xb.length : Int) := by omega
                  have H5 : Hid (PlayR w wr p r n (k + 1) E Emp) := Lib.hid ⟨(HL.out.snd.swap.assoc').drop2', HFE.out, HCE.out⟩
                  clear HL
                  go_wp2
                  go_meet
                  exact ⟨rfl, _, H5⟩
          · as_aux_lemma =>
              by_cases hh : D.has xi = true
              · obtain ⟨i, rfl⟩ : ∃ i : Nat, xi = (i : Int) := ⟨xi.toNat, by simp [DS.has] at hh; omega⟩
                have hi : i < D.n := by simp [DS.has] at hh; omega
                have HI := Lib.hid hi
                clear hh hi
                go_wp2_with fail
                refine (own_read HPO.out i HI.out).mono ?_
                rintro e w4 ⟨ga, rfl, h4⟩
                have e1' := (op_cells h4).1
                obtain ⟨gk, gs, ck, cs', vw, f, kb, sb, wb, hR⟩ := h4.snd.snd.ref
                have HR := Lib.hid hR
                have hsl := sec_length hR.ok.N HI.out
                have HSL2 := Lib.hid hsl
                have H4 := Lib.hid h4
                clear h4 hR HPO hsl
                go_wp2_with fail
                refine (ref_read HR.out i HI.out).mono ?_
                rintro e w5 ⟨v5, rfl, hv5, ho5⟩
                obtain ⟨bo, bc, rfl⟩ := own_shapeN hv5
                have h5 := H4.out.quiet ho5
                have s1 : SlC w5 (.slice (some ⟨ga, 0, none⟩) 64 64) (sec D.N i) := row_bytes' h5.fst.row HSL2.out.symm
                have s2 : SlC w5 (.slice bo 64 bc) (sec D.N i) := by
                  have := HSL2.out
                  rw [← this] at hv5 ⊢
                  exact own_slc hv5
                have S1 := Lib.hid s1
                have S2 := Lib.hid s2
                have HL0 : Hid (Own w w5 (Sep (Blk ga (.cells (u8s (sec D.N i)).toArray 69)) (Sep (DiskR p D) (Sep (RefR r D) (Sep (Blk op (.cells #[.int .i64 xk, .int .i64 i, .slice vo xb.length vc, .slice lo xl.length lc] 41)) Emp))))) := Lib.hid h5
                have HLS : Hid ((u8s (sec D.N i)).toArray.size = 64) := Lib.hid (by simp [u8s_length, HSL2.out])
                clear hv5 ho5 h5 s1 s2 H4 HR
                go_wp2_with fail
                refine (raw_bytes _ _ (sec D.N i) w5 S1.out S2.out).mono ?_
                rintro e w' ⟨rfl, rfl⟩
                go_wp2_with fail
                go_loopw [19] (fun i2 wr => ∃ (j : Nat) (cs : Array Value), j ≤ 64 ∧ i2 = .int .i64 j ∧ cs.size = 64 ∧ Hid (Own w wr (Sep (Blk ga (.cells cs 69)) (Sep (DiskR p D) (Sep (RefR r D) (Sep (Blk op (.cells #[.int .i64 xk, .int .i64 i, .slice vo xb.length vc, .slice lo xl.length lc] 41)) Emp)))))) (fun i2 _ => 64 - (intOf i2).toNat)
                case atStart => exact ⟨0, _, Nat.zero_le _, rfl, HLS.out, HL0⟩
                case round =>
                  clear HL0 HLS
                  obtain ⟨j, cs, hj, rfl, hcs, HL⟩ := hrel
                  by_cases hlj : j < 64
                  · have hljI : (j : Int) < 64 := by omega
                    have hj0 : (0 : Int) ≤ (j : Int) := by omega
                    have hb := Own.blk HL.out
                    have hcl : wr.cell? ⟨ga, j, none⟩ = some cs[j] := by simp [World.cell?, hb, show j < cs.size by omega]
                    have hfz : wr.frozen? ⟨ga, j, none⟩ = false := by simp [World.frozen?, hb]
                    have HPUT := Lib.hid (blk_put HL.out j (.int .u8 2))
                    have HYS : Hid ((cs.setIfInBounds j (.int .u8 2)).size = 64) := Lib.hid (by simpa using hcs)
                    have HLJ := Lib.hid hlj
                    obtain ⟨u, hu⟩ : ∃ u, u = cs[j] := ⟨_, rfl⟩
                    rw [← hu] at hcl
                    clear hb HL hcs hlj hj hu
                    go_wp2
                    go_roundw
                    case rel => exact ⟨j + 1, _, HLJ.out, by go_num, HYS.out, HPUT⟩
                    case measure => have := HLJ.out; simp [intOf]; omega
                  · have hljI : ¬ (j : Int) < 64 := by omega
                    have H5 : Hid (PlayR w wr p r n (k + 1) D Emp) := Lib.hid ⟨(HL.out.snd.assoc').drop2', HFW.out.up, HCO.out⟩
                    clear HL
                    go_wp2
                    go_meet
                    exact ⟨rfl, _, H5⟩
              · have hh' : D.has xi = false := by simpa using hh
                obtain ⟨gn, gk0, vw0, hD⟩ := HPO.out.disk
                obtain ⟨gk, gs, ck, cs', vw, f, kb, sb, wb, hR⟩ := HPO.out.snd.ref
                have HDA := Lib.hid (disk_read_arg hD xi hh')
                have HRA := Lib.hid (ref_read_arg hR xi hh')
                have H5 : Hid (PlayR w w3 p r n (k + 1) D Emp) := Lib.hid ⟨(HPO.out.assoc').drop2', HFW.out.up, HCO.out⟩
                have S0 : Hid (SlC w3 (.slice none 0 0) []) := Lib.hid (.inl ⟨rfl, rfl⟩)
                clear hh hh' hD hR HPO
                go_wp2_with fail
                refine HDA.out.mono ?_
                rintro e w' ⟨rfl, rfl⟩
                go_wp2_with fail
                refine HRA.out.mono ?_
                rintro e w' ⟨rfl, rfl⟩
                go_wp2_with fail
                refine (raw_bytes _ _ [] w3 S0.out S0.out).mono ?_
                rintro e w' ⟨rfl, rfl⟩
                go_wp2_with fail
                go_loop [19] (fun i2 => i2 = .int .i64 0) (fun _ => 0)
                case atStart => exact rfl
                case round =>
                  obtain rfl := hrel
                  go_wp2
                  go_meet
                  exact ⟨rfl, _, H5⟩
          · as_aux_lemma =>
              go_wp2_with fail
              refine (own_sync HPO.out HB1.out HB3.out).mono ?_
              rintro e w4 ⟨rfl, h4⟩
              have H4 := Lib.hid h4.swap; clear h4 HPO
              go_wp2_with fail
              refine (own_rsync H4.out HCO.out HB3.out).mono ?_
              rintro e w5 ⟨rfl, h5⟩
              have H5 : Hid (PlayR w w5 p r n (k + 1) D.sync Emp) := Lib.hid ⟨(h5.swap.assoc').drop2', HFW.out.sync, HCO.out.sync⟩
              clear h5 H4
              go_wp2
              go_meet
              exact ⟨rfl, _, H5⟩
          · as_aux_lemma =>
              go_wp2_with fail
              refine (own_fuse HPO.out xi HRI.out).mono ?_
              rintro e w4 ⟨rfl, h4⟩
              have e1' := (op_cells2 h4).1
              have H4 := Lib.hid h4.swap; clear h4 HPO
              go_wp2_with fail
              refine (own_rfuse H4.out xi HRI.out).mono ?_
              rintro e w5 ⟨rfl, h5⟩
              have H5 : Hid (PlayR w w5 p r n (k + 1) (D.fused xi) Emp) := Lib.hid ⟨(h5.swap.assoc').drop2', (HFW.out.fused xi).up, HCO.out.fused xi⟩
              clear h5 H4
              go_wp2
              go_meet
              exact ⟨rfl, _, H5⟩
          · as_aux_lemma =>
              have hll : xl.length * 8 ≤ 140737488355328 := by have := HLL.out; omega
              have e3b : (w3.alloc (.cells #[] 3)).cell? ⟨op, 3, none⟩ = some (.slice lo xl.length lc) := (op_cells2 (HPO.out.quiet ((Only.refl _ w3).alloc (.cells #[] 3)))).2.2
              go_wp2_with (at_builtin; refine wp_freshI _ lo lc xl (HSL.out.keep HPO.out.only) HLN.out hll rfl (.tmp 122) (.tmp 124) rfl rfl rfl ?_; intro co cap w5 HF5)
              have hX := (fresh_own HPO.out HF5.out).swap
              have HX := Lib.hid hX
              clear hX HF5 hll HPO
              refine (own_crash HX.out co cap xl (fun F B hJ hd _ _ => IntR.apart hJ hd) HRL.out HB1.out).mono ?_
              rintro e w6 ⟨rfl, h6⟩
              have e3' := (op_cells2 h6.drop2).2.2
              have H6 := Lib.hid h6.drop2.swap
              clear h6 HX
              go_wp2_with fail
              refine (own_rcrash H6.out HCO.out lo lc xl (fun F B _ _ h0 _ => HSL.out.old H6.out.only h0) HB1.out).mono ?_
              rintro e w7 ⟨rfl, h7⟩
              have H7 : Hid (PlayR w w7 p r n (k + 1) (D.crash xl) Emp) := Lib.hid ⟨(h7.swap.assoc').drop2', (HFW.out.crash xl).up, HCO.out.crash HOKD.out xl⟩
              clear h7 H6
              go_wp2
              go_meet
              exact ⟨rfl, _, H7⟩
        case rest =>
          as_aux_lemma =>
            obtain ⟨rfl, E, HE⟩ := hcut
            clear HPO e0 e1 e2 e3 HKD
            obtain ⟨gn, gk0, vw0, hD⟩ := (Own.drew HE.out.1).disk
            obtain ⟨gk, gs, ck, cs', vw, f, kb, sb, wb, hR⟩ := HE.out.1.snd.ref
            have hrow := hR.m.row
            obtain ⟨wo, wc, rfl⟩ := own_shapeN hrow
            have r1 := hR.cell 1
            have r2 := hR.cell 2
            have r4 := hR.cell 4
            have r5 := hR.cell 5
            have r6 := hR.cell 6
            simp at r1 r2 r4 r5 r6
            have C1 := Lib.hid (disk_down hD)
            have C2 := Lib.hid (disk_waiting hD)
            have C3 := Lib.hid (disk_writes hD)
            have C4 := Lib.hid (disk_syncs hD)
            have C5 := Lib.hid (disk_size hD)
            have HEd := Lib.hid (⟨HE.out.1.drew, HE.out.2⟩ : PlayR w _ p r n (k + 1) E Emp)
            clear hD hR hrow HE
            go_upto_region 44 with fail
            refine wp_region_still_lit (by kernel_rfl) (by kernel_rfl) ?_
            repeat still_step
            still_call (C1.out.mono (fun _ _ ⟨a, b⟩ => ⟨a, b.symm⟩))
            repeat still_step
            still_call (C2.out.mono (fun _ _ ⟨a, b⟩ => ⟨a, b.symm⟩))
            repeat still_step
            still_call (C3.out.mono (fun _ _ ⟨a, b⟩ => ⟨a, b.symm⟩))
            repeat still_step
            still_call (C4.out.mono (fun _ _ ⟨a, b⟩ => ⟨a, b.symm⟩))
            repeat still_step
            still_call (C5.out.mono (fun _ _ ⟨a, b⟩ => ⟨a, b.symm⟩))
            repeat still_step
            refine wpStill_nil ?_
            change Exit.then _ _ _ _ (World.drew _)
            go_wp2
            go_roundw
            case rel => exact ⟨k + 1, E, HLT.out, H200.out, by go_num, HEd⟩
            case measure => have := HLT.out; simp [intOf]; omega
    · have hor : ¬ (k : Int) < (os.length : Int) ∨ (k : Int) < (os.length : Int) ∧ ¬ (k : Int) < 200 := by omega
      have HP1 : Hid (Own w wr (Sep (DiskR p D) (Sep (RefR r D) Emp))) := Lib.hid HP.out.1
      have hsz : D.n = n := HP.out.2.1.sz
      clear HP hin hk hk2
      rcases hor with h | ⟨h, h'⟩
      all_goals
        as_aux_lemma =>
          go_wp2_with fail
          go_loopw [20] (fun i wy => ∃ j : Nat, j ≤ D.n ∧ i = .int .i64 j ∧ Hid (Own w wy (Sep (DiskR p D) (Sep (RefR r D) Emp)))) (fun i _ => D.n - (intOf i).toNat)
          case atStart => exact ⟨0, Nat.zero_le _, rfl, HP1⟩
          case round =>
            clear HP1
            obtain ⟨j, hj, rfl, HQ⟩ := hrel
            obtain ⟨gk, gs, ck, cs', vw, f, kb, sb, wb, hR⟩ := HQ.out.snd.ref
            have r1 := hR.cell 1
            simp at r1
            clear hR
            by_cases hlj : j < D.n
            · have hljI : (j : Int) < (D.n : Int) := by omega
              have hj0 : (0 : Int) ≤ (j : Int) := by omega
              have hj64 : (j : Int) ≤ 64 := by have := HN.out; omega
              have HLJ := Lib.hid hlj
              go_wp2_with fail
              refine (own_read HQ.out j HLJ.out).mono ?_
              rintro e w4 ⟨ga, rfl, h4⟩
              obtain ⟨gk, gs2, ck, cs2, vw, f, kb, sb, wb, hR⟩ := h4.snd.snd.ref
              have r1' := hR.cell 1
              have r2' := hR.seenAt HLJ.out
              have hsl := sec_length hR.ok.N HLJ.out
              have s1 : SlC w4 (.slice (some ⟨ga, 0, none⟩) 64 64) (sec D.N j) := row_bytes' h4.fst.row hsl.symm
              have s2 : SlC w4 (sl64 (sb.getD j 0)) (sec D.N j) := (hR.hs j HLJ.out).slc
              obtain ⟨sbj, hsbj⟩ : ∃ b, b = sb.getD j 0 := ⟨_, rfl⟩
              rw [← hsbj] at r2' s2
              unfold sl64 at r2' s2
              simp at r1'
              have S1 := Lib.hid s1
              have S2 := Lib.hid s2
              have H4 := Lib.hid h4.snd
              clear h4 hR s1 s2 hsbj hsl HQ r1
              go_wp2_with fail
              refine (raw_bytes _ _ (sec D.N j) w4 S1.out S2.out).mono ?_
              rintro e w' ⟨rfl, rfl⟩
              go_wp2
              go_roundw
              case rel => exact ⟨j + 1, HLJ.out, by go_num, H4⟩
              case measure => have := HLJ.out; simp [intOf]; omega
            · have hljI : ¬ (j : Int) < (D.n : Int) := by omega
              have HQO := Lib.hid HQ.out.only
              clear HQ
              go_wp2
              go_ret
              exact ⟨rfl, HQO.out⟩

end Go.Proofs.Ytidkeglldmbfeaa
