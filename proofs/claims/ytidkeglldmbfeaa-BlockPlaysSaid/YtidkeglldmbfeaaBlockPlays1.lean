/-
  The walk of the statement BlockPlays.
-/
import Derived.Test.YtidkeglldmbfeaaBlockPlays0
import Derived.Test.YtidkeglldmbfeaaBlk5
import Derived.Laws.BitsAllLaws
namespace Go.Proofs.Ytidkeglldmbfeaa
open Go Go.RowKit
set_option linter.unusedVariables false
set_option linter.unusedSimpArgs false
set_option maxRecDepth 100000

theorem Few.mono {m k k' : Nat} {D : DS} (h : Few m k D) (hk : k ≤ k') : Few m k' D := ⟨h.sz, Nat.le_trans h.W hk, Nat.le_trans h.wr hk, Nat.le_trans h.sy hk⟩
theorem Few.blk {m k : Nat} {D : DS} (h : Few m k D) (s id : Nat) (xs : List UInt8) : ∀ j, Few m (k + j) (D.blk s id xs j)
  | 0 => h
  | j + 1 => (Few.blk h s id xs j).write _ _
theorem Few.bwrite {m k : Nat} {D : DS} (h : Few m k D) (s : Int) (id : Nat) (xs : List UInt8) : Few m (k + 1000) (D.bwrite s id xs) := by
  unfold DS.bwrite
  split
  · rename_i hb
    simp only [DS.okB, Bool.and_eq_true, decide_eq_true_eq] at hb
    have := cntN_max hb.1.1.2
    exact (h.blk _ _ _ _).mono (by omega)
  · exact h.mono (by omega)
theorem Coh.blk {D : DS} (h : Coh D) (s id : Nat) (xs : List UInt8) : ∀ j, Coh (D.blk s id xs j)
  | 0 => h
  | j + 1 => (Coh.blk h s id xs j).write _ _
theorem Coh.bwrite {D : DS} (h : Coh D) (s : Int) (id : Nat) (xs : List UInt8) : Coh (D.bwrite s id xs) := by
  unfold DS.bwrite
  split
  · exact h.blk _ _ _ _
  · exact h
/-- Both disks behind k calls. -/
def BPl (w wr : World) (p r k : Nat) (D : DS) : Prop := Own w wr (Sep (DiskR p D) (Sep (RefR r D) Emp)) ∧ Few 32 (1000 * k) D ∧ Coh D
theorem opu_cells0 {w0 w : World} {I J : Res} {op : Nat} {a b c d e : Value} {t : TypeId} (h : Own w0 w (Sep I (Sep J (Sep (Blk op (.cells #[a, b, c, d, e] t)) Emp)))) :
    w.cell? ⟨op, 1, none⟩ = some b ∧ w.cell? ⟨op, 2, none⟩ = some c ∧ w.cell? ⟨op, 3, none⟩ = some d ∧ w.cell? ⟨op, 4, none⟩ = some e := by
  have := Own.blk h.snd.snd
  exact ⟨by simp [World.cell?, this], by simp [World.cell?, this], by simp [World.cell?, this], by simp [World.cell?, this]⟩
theorem opu_cells1 {w0 w : World} {I J K : Res} {op : Nat} {a b c d e : Value} {t : TypeId} (h : Own w0 w (Sep I (Sep J (Sep K (Sep (Blk op (.cells #[a, b, c, d, e] t)) Emp))))) :
    w.cell? ⟨op, 1, none⟩ = some b ∧ w.cell? ⟨op, 2, none⟩ = some c ∧ w.cell? ⟨op, 3, none⟩ = some d := by
  have := Own.blk h.snd.snd.snd
  exact ⟨by simp [World.cell?, this], by simp [World.cell?, this], by simp [World.cell?, this]⟩
theorem lent_cap {w : World} {B : Nat} {g n cap : Nat} {xs : List UInt8} (h : w.ownsRow B 5 1 (.slice (some ⟨g, 0, none⟩) n cap) n (u8s xs)) : n ≤ cap := by
  rcases h.2 with ⟨hv, _⟩ | ⟨g', cap', cur, hv, _, _, hc, _⟩
  · cases hv
  · simp at hv
    omega

theorem bits_u8_any (op : BinOp) (a b : Int) : ∃ c : UInt8, bits op .u8 a b = (c.toNat : Int) := by
  obtain ⟨z, hz⟩ : ∃ z : Int, bits op .u8 a b = IntKind.u8.wrap z := ⟨_, rfl⟩
  have h : IntKind.u8.wrap z = z % 256 := by simp [IntKind.wrap, IntKind.signed, IntKind.bits]
  refine ⟨UInt8.ofNat (z % 256).toNat, ?_⟩
  rw [hz, h]
  simp
  omega
theorem ownb_apart {w : World} {g n cap : Nat} {xs : List UInt8} {J : Res} {F B : Nat → Prop} (hn : xs.length = n) (hJ : Sep (OwnB (.slice (some ⟨g, 0, none⟩) n cap) xs) J w B) (hd : ∀ k, F k → ¬ B k) : SlO w F (.slice (some ⟨g, 0, none⟩) n cap) xs := by
  obtain ⟨A, C, hA, hC, hac, hB⟩ := hJ
  refine ⟨own_slc hA.1, fun a m c e hx hk => ?_⟩
  simp at e
  obtain ⟨rfl, _, _⟩ := e
  exact hd _ hk ((hB _).2 (.inl ((hA.2 _).2 rfl)))
theorem ownb_apart2 {w : World} {g n cap : Nat} {xs : List UInt8} {I J : Res} {F B : Nat → Prop} (hn : xs.length = n) (hJ : Sep I (Sep (OwnB (.slice (some ⟨g, 0, none⟩) n cap) xs) J) w B) (hd : ∀ k, F k → ¬ B k) : SlO w F (.slice (some ⟨g, 0, none⟩) n cap) xs := by
  obtain ⟨A, C, hA, hC, hac, hB⟩ := hJ
  exact ownb_apart hn hC (fun k hk h => hd k hk ((hB k).2 (.inr h)))

set_option maxHeartbeats 8000000 in
theorem bplays_walk (ao : Option Addr) (c : Nat) (os : List OpU) (n : Int) (w : World) (ho : SlOpU w ao os) :
    Calls Try.prog 4 #[.slice ao os.length c, .int .i64 n] w fun e w' => e = .returned (.bool true) ∧ Quiet w w' := by
  have HO := Lib.hid ho; clear ho
  go_enter Try.func4, Try.ntmps4
  go_wp2_with fail
  refine (awake3_any w).mono ?_
  rintro e w0 ⟨rfl, hq⟩
  have H0 := Lib.hid ((Own.start w).quiet hq); clear hq
  go_wp2_with fail
  refine (count_all n w0).mono ?_
  rintro e w' ⟨rfl, rfl⟩
  go_wp2_with fail
  refine (rcount_all n w0).mono ?_
  rintro e w' ⟨rfl, rfl⟩
  go_wp2_with fail
  refine (own_new H0.out 32 (by decide) (by decide)).mono ?_
  rintro e w1 ⟨p, rfl, h1⟩
  have H1 := Lib.hid h1; clear h1 H0
  go_wp2_with fail
  refine (own_rnew H1.out 32 (by decide) (by decide)).mono ?_
  rintro e w2 ⟨r, rfl, h2⟩
  have HP0 : Hid (BPl w w2 p r 0 (DS.new 32)) := Lib.hid ⟨h2.swap, ⟨rfl, Nat.le_refl _, Nat.le_refl _, Nat.le_refl _⟩, Coh.new 32⟩
  clear h2 H1
  go_wp2_with fail
  go_loopw [9] (fun i wr => ∃ (k : Nat) (D : DS), k ≤ os.length ∧ k ≤ 60 ∧ i = .int .i64 k ∧ Hid (BPl w wr p r k D)) (fun i _ => os.length - (intOf i).toNat)
  case atStart => exact ⟨0, _, Nat.zero_le _, by omega, rfl, HP0⟩
  case round =>
    clear HP0
    obtain ⟨k, D, hk, hk2, rfl, HP⟩ := hrel
    by_cases hin : k < os.length ∧ k < 60
    · obtain ⟨hlt, h200⟩ := hin
      · have hltI : (k : Int) < (os.length : Int) := by omega
        have h200I : (k : Int) < 60 := by omega
        have hk0 : (0 : Int) ≤ (k : Int) := by omega
        obtain ⟨g, off, rfl, hx⟩ := HO.out k hlt
        obtain ⟨x, hxe⟩ : ∃ x, x = os.getD k default := ⟨_, rfl⟩
        rw [← hxe] at hx
        clear hxe
        obtain ⟨vb, hvb, hSb, hBl⟩ := hx.b
        obtain ⟨lo, lc, hvl, hSl, hLl, hLn⟩ := hx.l
        obtain ⟨vo, vc, rfl, hvc⟩ := hSb.2
        have hri := hx.ri
        have hrd := hx.rd
        have hrl := hx.rl
        have hon := HP.out.1.only
        have d0 : wr.cell? ⟨g, off + k * 5, none⟩ = some (.int .i64 x.K) := hon.cellq hx.k
        have d1 : wr.cell? ⟨g, off + k * 5 + 1, none⟩ = some (.int .i64 x.I) := hon.cellq hx.i
        have d2 : wr.cell? ⟨g, off + k * 5 + 2, none⟩ = some (.int .u64 x.D) := hon.cellq hx.d
        have d3 : wr.cell? ⟨g, off + k * 5 + 3, none⟩ = some (.slice vo x.B.length vc) := hon.cellq hvb
        have d4 : wr.cell? ⟨g, off + k * 5 + 4, none⟩ = some (.slice lo x.L.length lc) := hon.cellq hvl
        obtain ⟨xk, xi, xd0, xb, xl⟩ := x
        simp only at d0 d1 d2 d3 d4 hSb hBl hSl hLl hLn hri hrl hrd
        obtain ⟨xd, rfl⟩ := Int.eq_ofNat_of_zero_le hrd.1
        have hxd : xd < 18446744073709551616 := by have := hrd.2; omega
        have HXD := Lib.hid hxd
        have HSB := Lib.hid hSb
        have HBL := Lib.hid hBl
        have HSL := Lib.hid hSl
        have HLL := Lib.hid hLl
        have HLN := Lib.hid hLn
        have HRI := Lib.hid hri
        have HRL := Lib.hid hrl
        have HLT := Lib.hid hlt
        have H200 := Lib.hid h200
        clear hx hvb hSb hvl hSl hon hBl hLl hLn hvc hri hrl hrd hxd hk hk2 hlt h200
        go_upto_block 2 with fail
        have hpl := (HP.out.1.alloc (.cells #[.int .i64 xk, .int .i64 xi, .int .u64 (xd : Int), .slice vo xb.length vc, .slice lo xl.length lc] 53)).swap.rot
        have he := Own.blk hpl.snd.snd
        obtain ⟨op, hop⟩ : ∃ op, op = wr.heap.size := ⟨_, rfl⟩
        rw [← hop] at hpl he ⊢
        clear d0 d1 d2 d3 d4 hop
        generalize wr.alloc (.cells #[.int .i64 xk, .int .i64 xi, .int .u64 (xd : Int), .slice vo xb.length vc, .slice lo xl.length lc] 53) = w3 at *
        have e0 : w3.cell? ⟨op, 0, none⟩ = some (.int .i64 xk) := by simp [World.cell?, he]
        have e1 : w3.cell? ⟨op, 1, none⟩ = some (.int .i64 xi) := by simp [World.cell?, he]
        have e2 : w3.cell? ⟨op, 2, none⟩ = some (.int .u64 (xd : Int)) := by simp [World.cell?, he]
        have e3 : w3.cell? ⟨op, 3, none⟩ = some (.slice vo xb.length vc) := by simp [World.cell?, he]
        have e4 : w3.cell? ⟨op, 4, none⟩ = some (.slice lo xl.length lc) := by simp [World.cell?, he]
        have HPO := Lib.hid hpl
        have HFW := Lib.hid HP.out.2.1
        have HCO := Lib.hid HP.out.2.2
        have hkb : k < 60 := H200.out
        have hb1 : D.W.length ≤ 100000 := by have := HFW.out.W; omega
        have hb2 : D.wr ≤ 100000 := by have := HFW.out.wr; omega
        have HB1 := Lib.hid hb1
        have HB2 := Lib.hid hb2
        have HSZ := Lib.hid HP.out.2.1.sz
        have HOKD : Hid D.Ok := Lib.hid (by obtain ⟨gn, gk, vw, hD⟩ := HP.out.1.disk; exact hD.ok)
        clear hpl he HP hkb hb1 hb2
        obtain ⟨hq5, hqe⟩ := modN_spec 5 (by decide) (by decide) xk
        have hqe2 : (wrap64 (xk.tmod 5 + 5)).tmod 5 = (modN 5 xk : Int) := hqe
        obtain ⟨qv, hqv⟩ : ∃ qv : Int, qv = (wrap64 (xk.tmod 5 + 5)).tmod 5 := ⟨_, rfl⟩
        have hkinds : qv = 0 ∨ qv = 1 ∨ qv = 2 ∨ qv = 3 ∨ qv = 4 := by omega
        rw [← hqv]
        have HKD := Lib.hid hkinds
        clear hq5 hqe hqe2 hqv hkinds
        rcases HKD.out with rfl | rfl | rfl | rfl | rfl
        · as_aux_lemma =>
            go_wp2_with fail
            refine (raw_lent _ xb w3 (HSB.out.1.keep HPO.out.only) (by have := HBL.out; omega)).mono ?_
            rintro e w4 ⟨gm, cm, rfl, hml, ho4⟩
            have hcap : xb.length + 2 ≤ cm := lent_cap hml
            have hmo : OwnB (.slice (some ⟨gm, 0, none⟩) (xb ++ [71, 72]).length cm) (xb ++ [71, 72]) w4 (fun q => (Value.slice (some ⟨gm, 0, none⟩) (xb ++ [71, 72]).length cm).ownBlock = some q) := by
              refine ownB_mk (b := w3.heap.size) ?_
              rw [len2]
              exact hml
            have h4 := (HPO.out.fresh ho4 hmo (fun q hq => by simp [Value.ownBlock] at hq; subst hq; exact (hml.lt gm rfl).1)).swap
            have HQd := Lib.hid h4.drew
            clear hml ho4 hmo h4 HPO
            have hbe : ∃ z : Int, z = ((D.bwE xi xd xb : Nat) : Int) := ⟨_, rfl⟩
            obtain ⟨ez, hez⟩ := hbe
            have hcall1 := fun (W : World) (hW : Own w W (Sep (DiskR p D) (Sep (OwnB (.slice (some ⟨gm, 0, none⟩) (xb ++ [71, 72]).length cm) (xb ++ [71, 72])) (Sep (RefR r D) (Sep (Blk op (.cells #[.int .i64 xk, .int .i64 xi, .int .u64 (xd : Int), .slice vo xb.length vc, .slice lo xl.length lc] 53)) Emp))))) =>
              own_bwrite hW xi HRI.out xd HXD.out (.slice (some ⟨gm, 0, none⟩) xb.length cm) xb (fun w' B hJ _ => .inr ⟨some ⟨gm, 0, none⟩, cm, rfl, by omega, (lent_apart (F := fun _ => False) hJ (fun _ h => h.elim)).1⟩) (by have := HBL.out; omega) (by have := HB1.out; omega) (by have := HB2.out; omega)
            have hcall2 := fun (W : World) (hW : Own w W (Sep (RefR r D) (Sep (DiskR p (D.bwrite xi xd xb)) (Sep (OwnB (.slice (some ⟨gm, 0, none⟩) (xb ++ [71, 72]).length cm) (xb ++ [71, 72])) (Sep (Blk op (.cells #[.int .i64 xk, .int .i64 xi, .int .u64 (xd : Int), .slice vo xb.length vc, .slice lo xl.length lc] 53)) Emp))))) =>
              own_rbwrite hW xi HRI.out xd HXD.out (.slice vo xb.length vc) xb (HSB.out.keep hW.only) (by have := HBL.out; omega) (by have := HB1.out; omega) (by have := HB2.out; omega)
            have hcall3 := fun (W : World) (hW : Own w W (Sep (RefR r (D.bwrite xi xd xb)) (Sep (DiskR p (D.bwrite xi xd xb)) (Sep (OwnB (.slice (some ⟨gm, 0, none⟩) (xb ++ [71, 72]).length cm) (xb ++ [71, 72])) (Sep (Blk op (.cells #[.int .i64 xk, .int .i64 xi, .int .u64 (xd : Int), .slice vo xb.length vc, .slice lo xl.length lc] 53)) Emp))))) =>
              raw_kept 0 gm cm (.slice vo xb.length vc) xb W (by
                obtain ⟨F, h5, _⟩ := hW.snd.snd.fst
                have := h5.1
                rwa [len2] at this) (HSB.out.1.keep hW.only) (by have := HBL.out; omega)
            rw [← hez] at hcall1 hcall2
            have HC1 := Lib.hid hcall1
            have HC2 := Lib.hid hcall2
            have HC3 := Lib.hid hcall3
            clear hcall1 hcall2 hcall3 hez hcap
            go_upto_region 14 with fail
            go_region_held3 (fun w' => w'.cell? ⟨op, 1, none⟩ = some (.int .i64 xi) ∧ w'.cell? ⟨op, 2, none⟩ = some (.int .u64 (xd : Int)) ∧ w'.cell? ⟨op, 3, none⟩ = some (.slice vo xb.length vc))
              (first
                | exact opu_cells1 HA2.out
                | exact opu_cells1 HA1.out
                | exact opu_cells1 HQd.out)
              (first
                | (go_at_call 33; (with_reducible refine (HC1.out _ HQd.out).mono ?_); rintro e w5 ⟨rfl, ha⟩; have HA1 := Lib.hid ha.rot.swap; clear ha)
                | (go_at_call 34; (with_reducible refine (HC2.out _ HA1.out).mono ?_); rintro e w6 ⟨rfl, ha⟩; have HA2 := Lib.hid ha; clear ha)
                | (go_at_call 24; (with_reducible refine (HC3.out _ HA2.out).mono ?_); rintro e w7 ⟨rfl, rfl⟩))
            clear HC1 HC2 HC3 HQd HA1
            have H5 : Hid (BPl w w6 p r (k + 1) (D.bwrite xi xd xb)) := Lib.hid ⟨(((HA2.out.rot.swap).snd.swap).assoc').drop2', (HFW.out.bwrite xi xd xb).mono (by omega), HCO.out.bwrite xi xd xb⟩
            clear HA2
            go_wp2
            go_roundw
            case rel => exact ⟨k + 1, _, HLT.out, H200.out, by go_num, H5⟩
            case measure => have := HLT.out; simp [intOf]; omega
        · as_aux_lemma =>
            have H5 : Hid (BPl w w3 p r (k + 1) D) := Lib.hid ⟨(HPO.out.assoc').drop2', HFW.out.mono (by omega), HCO.out⟩
            by_cases hb : xd = 0 ∨ D.has xi = false
            · obtain ⟨gn, gk0, vw0, hD⟩ := HPO.out.disk
              obtain ⟨gk, gs, ck, cs', vw, f, kb, sb, wb, hR⟩ := HPO.out.snd.ref
              have HDA := Lib.hid (blk_read_arg hD xi xd hb)
              have HRA := Lib.hid (rblk_read_arg hR xi xd hb)
              have S0 : Hid (SlC w3 (.slice none 0 0) []) := Lib.hid (.inl ⟨rfl, rfl⟩)
              clear hb hD hR HPO
              go_wp2_with fail
              refine HDA.out.mono ?_
              rintro e w' ⟨rfl, rfl⟩
              go_wp2_with fail
              refine HRA.out.mono ?_
              rintro e w' ⟨rfl, rfl⟩
              go_wp2_with fail
              refine (raw_bytes _ _ [] w3 S0.out S0.out).mono ?_
              rintro e w' ⟨rfl, rfl⟩
              go_wp2
              go_roundw
              case rel => exact ⟨k + 1, _, HLT.out, H200.out, by go_num, H5⟩
              case measure => have := HLT.out; simp [intOf]; omega
            · have hd0 : xd ≠ 0 := fun h => hb (.inl h)
              have hh : D.has xi = true := by
                cases h : D.has xi
                · exact (hb (.inr h)).elim
                · rfl
              obtain ⟨i, rfl⟩ : ∃ i : Nat, xi = (i : Int) := ⟨xi.toNat, by simp [DS.has] at hh; omega⟩
              have hi : i < D.n := by simp [DS.has] at hh; omega
              have HI := Lib.hid hi
              have HH := Lib.hid hh
              have HD0 := Lib.hid hd0
              clear hh hi hd0 hb H5
              cases hr : D.rd i xd with
              | none =>
                have HRD := Lib.hid hr
                clear hr
                go_wp2_with fail
                refine (own_bread_bad HPO.out i xd HH.out HD0.out (by simpa using HRD.out)).mono ?_
                rintro e w4 ⟨rfl, h4⟩
                have e1' := (opu_cells0 h4).1
                have e2' := (opu_cells0 h4).2.1
                have H4 := Lib.hid h4
                clear h4 HPO
                obtain ⟨gk, gs, ck, cs', vw, f, kb, sb, wb, hR⟩ := H4.out.snd.ref
                have hgo := rblk_read_go hR i xd HI.out HD0.out HXD.out
                rw [HRD.out] at hgo
                have HGO := Lib.hid hgo
                clear hgo hR
                go_wp2_with fail
                refine HGO.out.mono ?_
                rintro e w5 ⟨rfl, ho5⟩
                have h5 := H4.out.quiet ho5
                have H5 : Hid (BPl w w5 p r (k + 1) D) := Lib.hid ⟨(h5.assoc').drop2', HFW.out.mono (by omega), HCO.out⟩
                have S0 : Hid (SlC w5 (.slice none 0 0) []) := Lib.hid (.inl ⟨rfl, rfl⟩)
                clear h5 H4 HGO HRD e1' e2' ho5
                go_wp2_with fail
                refine (raw_bytes _ _ [] w5 S0.out S0.out).mono ?_
                rintro e w' ⟨rfl, rfl⟩
                go_wp2
                go_roundw
                case rel => exact ⟨k + 1, _, HLT.out, H200.out, by go_num, H5⟩
                case measure => have := HLT.out; simp [intOf]; omega
              | some xs =>
                have HRD := Lib.hid hr
                clear hr
                go_wp2_with fail
                refine (own_bread_ok HPO.out i xd xs HH.out HD0.out (by simpa using HRD.out)).mono ?_
                rintro e w4 ⟨ra, rc, rfl, h4⟩
                have e1' := (opu_cells1 h4).1
                have e2' := (opu_cells1 h4).2.1
                have H4 := Lib.hid h4
                clear h4 HPO
                obtain ⟨gk, gs, ck, cs', vw, f, kb, sb, wb, hR⟩ := H4.out.snd.snd.ref
                have hgo := rblk_read_go hR i xd HI.out HD0.out HXD.out
                rw [HRD.out] at hgo
                have HGO := Lib.hid hgo
                clear hgo hR
                go_wp2_with fail
                refine HGO.out.mono ?_
                rintro e w5 ⟨v5, rfl, hv5, ho5⟩
                obtain ⟨bo, bc, rfl⟩ := own_shape hv5
                have h5 := H4.out.quiet ho5
                have s1 : SlC w5 (.slice ra xs.length rc) xs := by
                  obtain ⟨F, h6, _⟩ := h5.fst
                  exact own_slc h6.1
                have s2 : SlC w5 (.slice bo xs.length bc) xs := own_slc hv5
                have S1 := Lib.hid s1
                have S2 := Lib.hid s2
                have H5 : Hid (BPl w w5 p r (k + 1) D) := Lib.hid ⟨(h5.snd.assoc').drop2', HFW.out.mono (by omega), HCO.out⟩
                clear h5 H4 HGO HRD e1' e2' ho5 s1 s2 hv5
                go_wp2_with fail
                refine (raw_bytes _ _ xs w5 S1.out S2.out).mono ?_
                rintro e w' ⟨rfl, rfl⟩
                go_wp2
                go_roundw
                case rel => exact ⟨k + 1, _, HLT.out, H200.out, by go_num, H5⟩
                case measure => have := HLT.out; simp [intOf]; omega
        · as_aux_lemma =>
            go_wp2_with fail
            refine (own_write HPO.out xi (.slice vo xb.length vc) xb (fun F B _ _ h0 _ => HSB.out.1.old HPO.out.only h0) (by have := HB1.out; omega) (by have := HB2.out; omega)).mono ?_
            rintro e w4 ⟨rfl, h4⟩
            have e1' := (opu_cells0 h4).1
            have e3' := (opu_cells0 h4).2.2.1
            have H4 := Lib.hid h4.swap; clear h4 HPO
            go_wp2_with fail
            refine (own_rwrite H4.out xi (.slice vo xb.length vc) xb (fun F B _ _ h0 _ => HSB.out.1.old H4.out.only h0) (by have := HB1.out; omega) (by have := HB2.out; omega)).mono ?_
            rintro e w5 ⟨rfl, h5⟩
            have H5 : Hid (BPl w w5 p r (k + 1) (D.write xi xb)) := Lib.hid ⟨(h5.swap.assoc').drop2', (HFW.out.write xi xb).mono (by omega), HCO.out.write xi xb⟩
            clear h5 H4 e1' e3'
            go_wp2
            go_roundw
            case rel => exact ⟨k + 1, _, HLT.out, H200.out, by go_num, H5⟩
            case measure => have := HLT.out; simp [intOf]; omega
        · as_aux_lemma =>
            by_cases hh : D.has xi = true
            · obtain ⟨i, rfl⟩ : ∃ i : Nat, xi = (i : Int) := ⟨xi.toNat, by simp [DS.has] at hh; omega⟩
              have hi : i < D.n := by simp [DS.has] at hh; omega
              have HI := Lib.hid hi
              clear hh hi
              obtain ⟨gk, gs, ck, cs', vw, f, kb, sb, wb, hR⟩ := HPO.out.snd.ref
              have hsl := sec_length hR.ok.N HI.out
              have HR := Lib.hid hR
              have HSL2 := Lib.hid hsl
              clear hR hsl
              go_wp2_with fail
              refine (ref_read HR.out i HI.out).mono ?_
              rintro e w4 ⟨v4, rfl, hv4, ho4⟩
              obtain ⟨bo, bc, rfl⟩ := own_shapeN hv4
              obtain ⟨ys, hys⟩ : ∃ ys, ys = sec D.N i := ⟨_, rfl⟩
              have hyl : ys.length = 64 := by rw [hys]; exact HSL2.out
              rw [← hys] at hv4
              have hv4' : w4.ownsRow w3.heap.size 5 1 (.slice bo 64 bc) ys.length (u8s ys) := by rw [hyl]; exact hv4
              have h4 := HPO.out.fresh ho4 (ownB_of hv4') (fun q hq => (hv4.lt q hq).1)
              have hjl : xd % 64 < ys.length := by omega
              obtain ⟨g', cp, hv, hcp, _, hfz, _⟩ := own_put h4 hjl 0
              have hbo : bo = some ⟨g', 0, none⟩ := by simp at hv; exact hv.1
              have hfz' := (own_put h4.drew hjl 0)
              obtain ⟨g2, cp2, hv2, _, _, hfz2, _⟩ := own_put h4.drew hjl 0
              have hg2 : g2 = g' := by rw [hbo] at hv2; simp at hv2; exact hv2.1.symm
              subst hg2
              subst hbo
              obtain ⟨ub, hub⟩ : ∃ ub, ub = ys.getD (xd % 64) 0 := ⟨_, rfl⟩
              have hcl : w4.cell? ⟨g2, xd % 64, none⟩ = some (.int .u8 (ub.toNat : Int)) := by
                have := hv4.cellAt (xd % 64) (by omega)
                rw [u8s_at hjl] at this
                rw [this, hub]
              have hput := fun c : UInt8 => (own_put h4 hjl c)
              have hput2 : ∀ c : UInt8, Own w (w4.setCell ⟨g2, xd % 64, none⟩ (.int .u8 c.toNat)) (Sep (OwnB (.slice (some ⟨g2, 0, none⟩) 64 bc) (ys.set (xd % 64) c)) (Sep (DiskR p D) (Sep (RefR r D) (Sep (Blk op (.cells #[.int .i64 xk, .int .i64 (i : Int), .int .u64 (xd : Int), .slice vo xb.length vc, .slice lo xl.length lc] 53)) Emp)))) := fun c => by
                obtain ⟨g3, c3, hv3, _, _, _, h⟩ := hput c
                have : g3 = g2 := by simp at hv3; exact hv3.1.symm
                subst this
                exact h
              obtain ⟨jx, hjx⟩ : ∃ jx : Nat, jx = xd % 64 := ⟨_, rfl⟩
              have hjt : ((xd : Int)).tmod 64 = (jx : Int) := by rw [hjx]; rfl
              have hj64 : (jx : Int) < 64 := by omega
              have hj0 : (0 : Int) ≤ (jx : Int) := by omega
              have e2' := (opu_cells1 h4).2.1
              have e1' := (opu_cells1 h4).1
              have e2'' := (opu_cells1 h4.drew).2.1
              rw [← hjx] at hcl hfz hfz2 hput2
              have HPUT := Lib.hid hput2
              have HYS : Hid (ys.length = 64) := Lib.hid hyl
              clear hv4 hv4' ho4 h4 hput hput2 hfz' hv hv2 hcp hjx hub hys hyl hjl HSL2 HR HPO
              go_upto_region 27 with fail
              go_still_tail 13, (by kernel_rfl)
              change wpList _ _ _ _ _ w4.drew
              go_upto_region 28 with fail
              obtain ⟨cc, hcc⟩ := bits_u8_any BinOp.xor (ub.toNat : Int) (IntKind.u64.wrap (1 + (IntKind.u64.wrap ((xd : Int) / 64)).tmod 255) % 256)
              rw [hcc]
              have h5 := (HPUT.out cc).drew
              generalize (w4.setCell ⟨g2, jx, none⟩ (.int .u8 (cc.toNat : Int))).drew = w5 at *
              obtain ⟨zs, hzs⟩ : ∃ zs, zs = ys.set jx cc := ⟨_, rfl⟩
              have hzl : zs.length = 64 := by rw [hzs, List.length_set]; exact HYS.out
              rw [← hzs] at h5
              have HZL := Lib.hid hzl
              have i1 := (opu_cells1 h5).1
              have H5a := Lib.hid h5.swap
              clear h5 hzs hzl HYS HPUT hcc hcl hfz hfz2 e1' e2' e2'' hjt hj64 hj0
              go_wp2_with fail
              refine (own_write H5a.out (i : Int) (.slice (some ⟨g2, 0, none⟩) 64 bc) zs (fun F B hJ hd _ _ => ownb_apart HZL.out hJ hd) (by have := HB1.out; omega) (by have := HB2.out; omega)).mono ?_
              rintro e w6 ⟨rfl, h6⟩
              have H6 := Lib.hid h6.rot.swap
              have i2 := (opu_cells1 H6.out).1
              clear h6 H5a
              go_wp2_with fail
              refine (own_rwrite H6.out (i : Int) (.slice (some ⟨g2, 0, none⟩) 64 bc) zs (fun F B hJ hd _ _ => ownb_apart2 HZL.out hJ hd) (by have := HB1.out; omega) (by have := HB2.out; omega)).mono ?_
              rintro e w7 ⟨rfl, h7⟩
              have H5 : Hid (BPl w w7 p r (k + 1) (D.write (i : Int) zs)) := Lib.hid ⟨(((h7.rot.swap).snd.swap).assoc').drop2', (HFW.out.write (i : Int) zs).mono (by omega), HCO.out.write (i : Int) zs⟩
              clear h7 H6 i1 i2
              go_wp2
              go_roundw
              case rel => exact ⟨k + 1, _, HLT.out, H200.out, by go_num, H5⟩
              case measure => have := HLT.out; simp [intOf]; omega
            · have hh' : D.has xi = false := by simpa using hh
              obtain ⟨gk, gs, ck, cs', vw, f, kb, sb, wb, hR⟩ := HPO.out.snd.ref
              have HRA := Lib.hid (ref_read_arg hR xi hh')
              have H5 : Hid (BPl w w3 p r (k + 1) D) := Lib.hid ⟨(HPO.out.assoc').drop2', HFW.out.mono (by omega), HCO.out⟩
              clear hh hh' hR HPO
              go_wp2_with fail
              refine HRA.out.mono ?_
              rintro e w' ⟨rfl, rfl⟩
              go_wp2
              go_roundw
              case rel => exact ⟨k + 1, _, HLT.out, H200.out, by go_num, H5⟩
              case measure => have := HLT.out; simp [intOf]; omega
        · as_aux_lemma =>
            have hll : xl.length * 8 ≤ 140737488355328 := by have := HLL.out; omega
            have e4b : (w3.alloc (.cells #[] 3)).cell? ⟨op, 4, none⟩ = some (.slice lo xl.length lc) := (opu_cells0 (HPO.out.quiet ((Only.refl _ w3).alloc (.cells #[] 3)))).2.2.2
            go_wp2_with (at_builtin; refine wp_freshI _ lo lc xl (HSL.out.keep HPO.out.only) HLN.out hll rfl (.tmp 60) (.tmp 62) rfl rfl rfl ?_; intro co cap w5 HF5)
            have hX := (fresh_own HPO.out HF5.out).swap
            have HX := Lib.hid hX
            clear hX HF5 hll HPO
            refine (own_crash HX.out co cap xl (fun F B hJ hd _ _ => IntR.apart hJ hd) HRL.out (by have := HB1.out; omega)).mono ?_
            rintro e w6 ⟨rfl, h6⟩
            have e4' := (opu_cells0 h6.drop2).2.2.2
            have H6 := Lib.hid h6.drop2.swap
            clear h6 HX
            go_wp2_with fail
            refine (own_rcrash H6.out HCO.out lo lc xl (fun F B _ _ h0 _ => HSL.out.old H6.out.only h0) (by have := HB1.out; omega)).mono ?_
            rintro e w7 ⟨rfl, h7⟩
            have H7 : Hid (BPl w w7 p r (k + 1) (D.crash xl)) := Lib.hid ⟨(h7.swap.assoc').drop2', (HFW.out.crash xl).mono (by omega), HCO.out.crash HOKD.out xl⟩
            clear h7 H6 e4'
            go_wp2
            go_roundw
            case rel => exact ⟨k + 1, _, HLT.out, H200.out, by go_num, H7⟩
            case measure => have := HLT.out; simp [intOf]; omega
    · have hor : ¬ (k : Int) < (os.length : Int) ∨ (k : Int) < (os.length : Int) ∧ ¬ (k : Int) < 60 := by omega
      have HP1 : Hid (Own w wr (Sep (DiskR p D) (Sep (RefR r D) Emp))) := Lib.hid HP.out.1
      have hsz : D.n = 32 := HP.out.2.1.sz
      clear HP hin hk hk2
      rcases hor with h | ⟨h, h'⟩
      all_goals
        as_aux_lemma =>
          go_wp2_with fail
          go_loopw [18] (fun i wy => ∃ j : Nat, j ≤ 32 ∧ i = .int .i64 j ∧ Hid (Own w wy (Sep (DiskR p D) (Sep (RefR r D) Emp)))) (fun i _ => 32 - (intOf i).toNat)
          case atStart => exact ⟨0, Nat.zero_le _, rfl, HP1⟩
          case round =>
            clear HP1
            obtain ⟨j, hj, rfl, HQ⟩ := hrel
            by_cases hlj : j < 32
            · have hljI : (j : Int) < 32 := by omega
              have hj0 : (0 : Int) ≤ (j : Int) := by omega
              have hjn : (j : Int) < (D.n : Int) := by omega
              have hjD : j < D.n := by omega
              have HLJ := Lib.hid hlj
              have HJD := Lib.hid hjD
              clear hj hlj hjD
              go_wp2_with fail
              refine (own_read HQ.out j HJD.out).mono ?_
              rintro e w4 ⟨ga, rfl, h4⟩
              obtain ⟨gk, gs2, ck, cs2, vw, f, kb, sb, wb, hR⟩ := h4.snd.snd.ref
              have r1' := hR.cell 1
              have r2' := hR.seenAt HJD.out
              have hsl := sec_length hR.ok.N HJD.out
              have s1 : SlC w4 (.slice (some ⟨ga, 0, none⟩) 64 64) (sec D.N j) := row_bytes' h4.fst.row hsl.symm
              have s2 : SlC w4 (sl64 (sb.getD j 0)) (sec D.N j) := (hR.hs j HJD.out).slc
              obtain ⟨sbj, hsbj⟩ : ∃ b, b = sb.getD j 0 := ⟨_, rfl⟩
              rw [← hsbj] at r2' s2
              unfold sl64 at r2' s2
              simp at r1'
              have S1 := Lib.hid s1
              have S2 := Lib.hid s2
              have H4 := Lib.hid h4.snd
              clear h4 hR s1 s2 hsbj hsl HQ
              go_wp2_with fail
              refine (raw_bytes _ _ (sec D.N j) w4 S1.out S2.out).mono ?_
              rintro e w' ⟨rfl, rfl⟩
              go_wp2
              go_roundw
              case rel => exact ⟨j + 1, HLJ.out, by go_num, H4⟩
              case measure => have := HLJ.out; simp [intOf]; omega
            · have hljI : ¬ (j : Int) < 32 := by omega
              have HQO := Lib.hid HQ.out.only
              clear HQ
              go_wp2_with fail
              refine (blk_read_nil 0 1 _).mono ?_
              rintro e w' ⟨rfl, rfl⟩
              go_wp2_with (go_at_call 33; refine (blk_write_nil 0 1 _ _).mono ?_; rintro e w' ⟨rfl, rfl⟩)
              go_ret
              exact ⟨rfl, HQO.out⟩

end Go.Proofs.Ytidkeglldmbfeaa
