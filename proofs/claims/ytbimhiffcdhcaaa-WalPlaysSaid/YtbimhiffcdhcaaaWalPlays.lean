/-
  The walk of the statement WalPlays.
-/
import Derived.Test.YtbimhiffcdhcaaaWalR9
import Derived.Test.YtbimhiffcdhcaaaWalR11
namespace Go.Proofs.Ytbimhiffcdhcaaa
open Go Go.RowKit Go.Lib
set_option linter.unusedVariables false
set_option linter.unusedSimpArgs false
set_option maxRecDepth 100000

set_option maxRecDepth 100000 in
set_option maxHeartbeats 4000000 in
theorem wplays_bad (base size : Int) (hsz : size ≤ 9223372036854775807) (least M head : Nat) (hb : OpenBad 40 base size least M head) (v : Value) (w : World) :
    Calls Try.prog 3 #[.int .i64 base, .int .i64 size, .int .u32 least, .int .u32 M, .int .u64 head, v] w fun e w' => e = .returned (.bool true) ∧ Quiet w w' := by
  have HB := Lib.hid hb
  clear hb
  go_enter Try.func3, Try.ntmps3
  go_wp2_with fail
  refine (wawake w).mono ?_
  rintro e w0 ⟨rfl, hq⟩
  have H0 := Lib.hid ((Own.start w).quiet hq); clear hq
  go_wp2_with fail
  refine (wcount_any base w0).mono ?_
  rintro e w' ⟨rfl, rfl⟩
  go_wp2_with fail
  refine (rcount_all base w0).mono ?_
  rintro e w' ⟨rfl, rfl⟩
  go_wp2_with fail
  refine (own_new H0.out 40 (by decide) (by decide)).mono ?_
  rintro e w1 ⟨p, rfl, h1⟩
  have H1 := Lib.hid h1; clear h1 H0
  go_wp2_with fail
  refine (own_rnew H1.out 40 (by decide) (by decide)).mono ?_
  rintro e w2 ⟨r, rfl, h2⟩
  have H2 := Lib.hid h2; clear h2 H1
  go_wp2_with fail
  refine (wopen_bad H2.out.swap base size hsz least M head HB.out).mono ?_
  rintro e w' ⟨rfl, rfl⟩
  go_wp2_with fail
  refine (ropen_bad H2.out base size hsz least M head HB.out (by decide)).mono ?_
  rintro e w' ⟨rfl, rfl⟩
  go_wp2_with fail
  refine (wsame_any (rs := []) ((H2.out.recs_nil 88).recs_nil 68) (by decide)).mono ?_
  rintro e w3 ⟨rfl, h3⟩
  have H3 := Lib.hid h3.only; clear h3 H2
  go_wp2_with fail
  refine (wappend_nil _ w3).mono ?_
  rintro e w' ⟨rfl, rfl⟩
  go_wp2_with fail
  refine (wtrim_nil 0 w3).mono ?_
  rintro e w' ⟨rfl, rfl⟩
  go_wp2_with fail
  refine (whead_nil w3).mono ?_
  rintro e w' ⟨rfl, rfl⟩
  go_wp2_with fail
  refine (wnext_nil w3).mono ?_
  rintro e w' ⟨rfl, rfl⟩
  go_wp2_with fail
  refine (wroom_nil w3).mono ?_
  rintro e w' ⟨rfl, rfl⟩
  go_wp2_with fail
  go_ret
  exact ⟨rfl, H3.out⟩

theorem u64_nat (z : Int) : ∃ x : Nat, IntKind.u64.wrap z = (x : Int) ∧ x < 18446744073709551616 := ⟨(IntKind.u64.wrap z).toNat, by rw [IntKind.wrap_u64]; omega, by rw [IntKind.wrap_u64]; omega⟩
theorem u32_nat (z : Int) : ∃ x : Nat, IntKind.u32.wrap z = (x : Int) ∧ x < 4294967296 := ⟨(IntKind.u32.wrap z).toNat, by rw [IntKind.wrap_u32]; omega, by rw [IntKind.wrap_u32]; omega⟩
abbrev PlR (q m p r base size M head nxt : Nat) (D : DS) (J : Res) : Res := Sep (WLogR q p base size M head nxt) (Sep (RLogR m r base size M head nxt) (Sep (DiskR p D) (Sep (RefR r D) J)))
abbrev OpB (op : Nat) (xk xi xd : Int) (vo : Option Addr) (bl vc : Nat) (lo : Option Addr) (ln lc : Nat) : Res := Blk op (.cells #[.int .i64 xk, .int .i64 xi, .int .u32 xd, .slice vo bl vc, .slice lo ln lc] 51 (0, 0))

set_option maxRecDepth 100000 in
set_option maxHeartbeats 16000000 in
theorem wplays_good (base size least M0 head0 : Nat) (hs4 : 4 ≤ size) (hl : base + size ≤ 40) (hl0 : 0 < least) (hlm : least ≤ M0) (hM : M0 < 4294967296) (hh0 : 0 < head0) (hh : head0 ≤ 4611686018427387904) (ao : Option Addr) (cc : Nat) (os : List OpW) (w : World) (ho : SlOpW w ao os) :
    Calls Try.prog 3 #[.int .i64 base, .int .i64 size, .int .u32 least, .int .u32 M0, .int .u64 head0, .slice ao os.length cc] w fun e w' => e = .returned (.bool true) ∧ Quiet w w' := by
  have HO := Lib.hid ho
  have HS4 := Lib.hid hs4
  have HL := Lib.hid hl
  have HL0 := Lib.hid hl0
  have HLM := Lib.hid hlm
  have HMM := Lib.hid hM
  have HH0 := Lib.hid hh0
  have HHH := Lib.hid hh
  have hL32 : least < 4294967296 := by omega
  have HL32 := Lib.hid hL32
  clear ho hs4 hl hl0 hlm hM hh0 hh hL32
  go_enter Try.func3, Try.ntmps3
  go_wp2_with fail
  refine (wawake w).mono ?_
  rintro e w0 ⟨rfl, hq⟩
  have H0 := Lib.hid ((Own.start w).quiet hq); clear hq
  go_wp2_with fail
  refine (wcount_any base w0).mono ?_
  rintro e w' ⟨rfl, rfl⟩
  go_wp2_with fail
  refine (rcount_all base w0).mono ?_
  rintro e w' ⟨rfl, rfl⟩
  go_wp2_with fail
  refine (own_new H0.out 40 (by decide) (by decide)).mono ?_
  rintro e w1 ⟨p, rfl, h1⟩
  have H1 := Lib.hid h1; clear h1 H0
  go_wp2_with fail
  refine (own_rnew H1.out 40 (by decide) (by decide)).mono ?_
  rintro e w2 ⟨r, rfl, h2⟩
  have HO2 := Lib.hid (own_open h2.swap base size least M0 head0 HS4.out (by have := HL.out; omega) HL.out HL0.out HLM.out HH0.out HHH.out)
  have hI0 : PlI (DS.new 40) base size M0 head0 (nextOf head0 ((DS.new 40).found base size least M0 head0)) 0 := PlI.start HS4.out HL.out HMM.out HHH.out
  have hfl : ((DS.new 40).found base size least M0 head0).length ≤ 4096 := by have := found_len (DS.new 40) base size least M0 head0; have := HL.out; omega
  obtain ⟨rs, hrs⟩ : ∃ rs, rs = (DS.new 40).found base size least M0 head0 := ⟨_, rfl⟩
  obtain ⟨nx, hnx⟩ : ∃ nx, nx = nextOf head0 rs := ⟨_, rfl⟩
  rw [← hrs, ← hnx] at HO2
  rw [← hrs] at hI0 hfl
  rw [← hnx] at hI0
  have HI0 := Lib.hid hI0
  have HFL := Lib.hid hfl
  have HRS := Lib.hid hrs
  have HNX := Lib.hid hnx
  clear h2 H1 hI0 hfl hrs hnx
  go_wp2_with fail
  refine HO2.out.mono ?_
  rintro e w3 ⟨q, v1, rfl, h3⟩
  have HO3 := Lib.hid (ropen_go (h3.ac (J := Sep (RefR r (DS.new 40)) (Sep (WLogR q p base size M0 head0 nx) (Sep (RecsR 68 v1 rs) (Sep (DiskR p (DS.new 40)) Emp)))) (by ac_rfl)) base size least M0 head0 HS4.out HL.out HL0.out HLM.out HMM.out HH0.out HHH.out)
  rw [← HRS.out, ← HNX.out] at HO3
  clear h3 HO2
  go_wp2_with fail
  refine HO3.out.mono ?_
  rintro e w4 ⟨m, v2, rfl, h4⟩
  have h4' : Own w w4 (Sep (RecsR 68 v1 rs) (Sep (RecsR 88 v2 rs) (PlR q m p r base size M0 head0 nx (DS.new 40) Emp))) := h4.ac (by unfold PlR; ac_rfl)
  have HSA := Lib.hid (wsame_any h4' HFL.out)
  clear h4 h4' HO3
  go_wp2_with fail
  refine HSA.out.mono ?_
  rintro e w5 ⟨rfl, h5⟩
  have H5 := Lib.hid h5.snd.snd
  clear h5 HSA
  go_wp2_with fail
  go_loopw [17, 20, 25] (fun lv mv i wr => ∃ (k q m M head nxt : Nat) (D : DS), k ≤ os.length ∧ k ≤ 80 ∧ lv = .pointer (some ⟨q, 0, none⟩) ∧ mv = .pointer (some ⟨m, 0, none⟩) ∧ i = .int .i64 k ∧ Hid (PlI D base size M head nxt k) ∧ Hid (Own w wr (PlR q m p r base size M head nxt D Emp))) (fun _ _ i _ => os.length - (intOf i).toNat)
  case atStart => exact ⟨0, q, m, M0, head0, nx, _, Nat.zero_le _, by omega, rfl, rfl, rfl, HI0, H5⟩
  case round =>
    clear H5 HI0
    obtain ⟨k, q, m, M, head, nxt, D, hk, hk2, rfl, rfl, rfl, HI, HP⟩ := hrel
    by_cases hin : k < os.length ∧ k < 80
    · obtain ⟨hlt, h80⟩ := hin
      have hltI : (k : Int) < (os.length : Int) := by omega
      have h80I : (k : Int) < 80 := by omega
      have hk0 : (0 : Int) ≤ (k : Int) := by omega
      obtain ⟨g, off, rfl, hx⟩ := HO.out k hlt
      obtain ⟨x, hxe⟩ : ∃ x, x = os.getD k default := ⟨_, rfl⟩
      rw [← hxe] at hx
      clear hxe
      obtain ⟨vb, hvb, hSb, hBl⟩ := hx.b
      obtain ⟨lo, lc, hvl, hSl, hLl, hLn⟩ := hx.l
      obtain ⟨vo, vc, rfl, hvc⟩ := hSb.2
      have hri := hx.ri
      have hrd := hx.rd
      have hrl := hx.rl
      have hon := HP.out.only
      have d0 : wr.cell? ⟨g, off + k * 5, none⟩ = some (.int .i64 x.K) := hon.cellq hx.k
      have d1 : wr.cell? ⟨g, off + k * 5 + 1, none⟩ = some (.int .i64 x.I) := hon.cellq hx.i
      have d2 : wr.cell? ⟨g, off + k * 5 + 2, none⟩ = some (.int .u32 x.D) := hon.cellq hx.d
      have d3 : wr.cell? ⟨g, off + k * 5 + 3, none⟩ = some (.slice vo x.B.length vc) := hon.cellq hvb
      have d4 : wr.cell? ⟨g, off + k * 5 + 4, none⟩ = some (.slice lo x.L.length lc) := hon.cellq hvl
      obtain ⟨xk, xi, xd, xb, xl⟩ := x
      simp only at d0 d1 d2 d3 d4 hSb hBl hSl hLl hLn hri hrd hrl hvc
      have HSB := Lib.hid hSb
      have HBL := Lib.hid hBl
      have HSL := Lib.hid hSl
      have HLL := Lib.hid hLl
      have HLN := Lib.hid hLn
      have HRI := Lib.hid hri
      have HRD := Lib.hid hrd
      have HRL := Lib.hid hrl
      have HLT := Lib.hid hlt
      have H80 := Lib.hid h80
      have HVC := Lib.hid hvc
      clear hx hvb hSb hvl hSl hon hBl hLl hLn hvc hri hrd hrl hk hk2 hlt h80
      obtain ⟨bl, hbl⟩ : ∃ bl, bl = xb.length := ⟨_, rfl⟩
      rw [← hbl] at d3 HBL HVC
      have HBN := Lib.hid hbl
      clear hbl
      obtain ⟨op, hop⟩ : ∃ op, op = wr.heap.size := ⟨_, rfl⟩
      have hpl := HP.out.alloc (.cells #[.int .i64 xk, .int .i64 xi, .int .u32 xd, .slice vo bl vc, .slice lo xl.length lc] 51 (0, 0))
      rw [← hop] at hpl
      obtain ⟨w3, hw3⟩ : ∃ w3, w3 = wr.alloc (.cells #[.int .i64 xk, .int .i64 xi, .int .u32 xd, .slice vo bl vc, .slice lo xl.length lc] 51) := ⟨_, rfl⟩
      have HPO : Hid (Own w w3 (Sep (OpB op xk xi xd vo bl vc lo xl.length lc) (PlR q m p r base size M head nxt D Emp))) := Lib.hid (by rw [hw3]; exact hpl)
      have e0 := blk_cell HPO.out.held 0 rfl
      have e1 := blk_cell HPO.out.held 1 rfl
      have e2 := blk_cell HPO.out.held 2 rfl
      have e3 := blk_cell HPO.out.held 3 rfl
      have e4 := blk_cell HPO.out.held 4 rfl
      have HOP := Lib.hid hop
      have HW3 := Lib.hid hw3
      clear hpl hop hw3 HP
      go_upto_region 16 with fail
      rw [← HW3.out, ← HOP.out]
      clear d0 d1 d2 d3 d4
      obtain ⟨hq7, hqe⟩ := modN_spec 7 (by decide) (by decide) xk
      have hqe2 : (wrap64 (xk.tmod 7 + 7)).tmod 7 = (modN 7 xk : Int) := hqe
      obtain ⟨qv, hqv⟩ : ∃ qv : Int, qv = (wrap64 (xk.tmod 7 + 7)).tmod 7 := ⟨_, rfl⟩
      have hkinds : qv = 0 ∨ qv = 1 ∨ qv = 2 ∨ (qv = 3 ∨ qv = 6) ∨ qv = 4 ∨ qv = 5 := by omega
      have HKD := Lib.hid hkinds
      have HQV := Lib.hid hqv
      clear hq7 hqe hqe2 hkinds hqv
      go_upto_block 2 with fail
      rw [← HQV.out]
      go_cut [17, 20, 25] (fun lv mv s wx => ∃ (q m M head nxt : Nat) (D : DS), lv = .pointer (some ⟨q, 0, none⟩) ∧ mv = .pointer (some ⟨m, 0, none⟩) ∧ s = .int .i64 k ∧ Hid (PlI D base size M head nxt (k + 1)) ∧ Hid (Own w wx (PlR q m p r base size M head nxt D Emp)))
      case first =>
        rcases HKD.out with rfl | rfl | rfl | hk36 | rfl | rfl
        · -- Append
          as_aux_lemma =>
            clear HQV HKD e0
            have hsl : SlC w3 (.slice vo bl vc) xb := by have := HSB.out.1; rw [← HBN.out] at this; exact this.keep HPO.out.only
            have hsln : SlN w (.slice vo bl vc) xb := by have := HSB.out; rw [← HBN.out] at this; exact this
            have HSN := Lib.hid hsln
            have hbl2 : xb.length + 2 ≤ 140737488355328 := by have := HBL.out; have := HBN.out; omega
            have HLE := Lib.hid (raw_lent _ xb w3 hsl hbl2)
            have HB2 := Lib.hid hbl2
            clear hsl hsln hbl2
            go_wp2_with fail
            refine HLE.out.mono ?_
            rintro e w4 ⟨gm, cm, rfl, hml, ho4⟩
            clear HLE
            have hcap : xb.length + 2 ≤ cm := lent_cap hml
            have hmo : OwnB (.slice (some ⟨gm, 0, none⟩) (xb ++ [71, 72]).length cm) (xb ++ [71, 72]) w4 (fun q => (Value.slice (some ⟨gm, 0, none⟩) (xb ++ [71, 72]).length cm).ownBlock = some q) := by
              refine ownB_mk (b := w3.heap.size) ?_
              rw [len2]
              exact hml
            have h4 := HPO.out.fresh ho4 hmo (fun q hq => by simp [Value.ownBlock] at hq; subst hq; exact (hml.lt gm rfl).1)
            have H4 : Hid (Own w w4 (Sep (WLogR q p base size M head nxt) (Sep (DiskR p D) (Sep (OwnB (.slice (some ⟨gm, 0, none⟩) (xb ++ [71, 72]).length cm) (xb ++ [71, 72])) (Sep (OpB op xk xi xd vo bl vc lo xl.length lc) (Sep (RLogR m r base size M head nxt) (Sep (RefR r D) Emp))))))) := Lib.hid (h4.ac (by unfold PlR; ac_rfl))
            clear hml ho4 hmo h4 HPO e1 e2 e3 e4
            obtain ⟨A, hA⟩ : ∃ A, A = apX D base size M head nxt xb := ⟨_, rfl⟩
            have hi := HI.out
            have HN4 : Hid (D.n ≤ 4096) := Lib.hid (by rw [hi.n]; decide)
            have HLI : Hid (base + size ≤ D.n) := Lib.hid (by rw [hi.n]; exact hi.lies)
            have HW9 : Hid (D.W.length ≤ 900000 ∧ D.wr ≤ 900000) := Lib.hid (by have := hi.w; have := hi.wr; have := H80.out; omega)
            have HNX9 : Hid (nxt ≤ 9223372036854770000 ∧ 0 < size ∧ head ≤ nxt ∧ M < 4294967296) := Lib.hid (by have := hi.num; have := H80.out; have := hi.s4; have := hi.hh; have := hi.m; omega)
            have hap := wplay_append H4.out (some ⟨gm, 0, none⟩) xb.length cm xb rfl (by omega) (fun w' B hJ _ => (lent_apart (F := fun _ => False) hJ (fun _ h => h.elim)).1) HNX9.out.2.2.1 HNX9.out.1 HNX9.out.2.2.2 HNX9.out.2.1 HLI.out HN4.out HW9.out.1 HW9.out.2
            rw [← hA] at hap
            have HAP := Lib.hid hap
            have HNI : Hid (PlI A.D base size M head A.nx (k + 1)) := Lib.hid (by rw [hA]; exact hi.append xb)
            have HA := Lib.hid hA
            clear hap hA hi hcap H4
            go_wp2_with fail
            refine HAP.out.mono ?_
            rintro e w5 ⟨rfl, h5⟩
            have h5' : Own w w5 (Sep (RLogR m r base size M head nxt) (Sep (RefR r D) (Sep (OpB op xk xi xd vo bl vc lo xl.length lc) (Sep (OwnB (.slice (some ⟨gm, 0, none⟩) (xb ++ [71, 72]).length cm) (xb ++ [71, 72])) (Sep (WLogR q p base size M head A.nx) (Sep (DiskR p A.D) Emp)))))) := h5.ac (by ac_rfl)
            have hrp := rplay_append h5' (.slice vo bl vc) xb HSN.out HNX9.out.2.2.1 HNX9.out.1 HNX9.out.2.2.2 HNX9.out.2.1 HLI.out HN4.out HW9.out.1 HW9.out.2
            rw [← HA.out] at hrp
            have HRP := Lib.hid hrp
            have e3' := blk_cell h5'.snd.snd.held 3 rfl
            clear h5 h5' hrp HAP
            go_wp2_with fail
            refine HRP.out.mono ?_
            rintro e w6 ⟨rfl, h6⟩
            clear HRP e3'
            have e3'' := blk_cell h6.snd.snd.held 3 rfl
            have hkp := raw_kept 0 gm cm (.slice vo bl vc) xb w6 (by
                obtain ⟨F, h7, _⟩ := h6.snd.snd.snd.fst
                have := h7.1
                rwa [len2] at this) (HSN.out.1.keep h6.only) HB2.out
            have HKP := Lib.hid hkp
            have H6 : Hid (Own w w6 (PlR q m p r base size M head A.nx A.D Emp)) := Lib.hid (by
              have h7 : Own w w6 (Sep (Sep (OpB op xk xi xd vo bl vc lo xl.length lc) (OwnB (.slice (some ⟨gm, 0, none⟩) (xb ++ [71, 72]).length cm) (xb ++ [71, 72]))) (PlR q m p r base size M head A.nx A.D Emp)) := h6.ac (by unfold PlR; ac_rfl)
              exact h7.snd)
            obtain ⟨ax, hax⟩ : ∃ z : Int, z = (A.x : Int) := ⟨_, rfl⟩
            obtain ⟨ae, hae⟩ : ∃ z : Int, z = (A.e : Int) := ⟨_, rfl⟩
            rw [← hax, ← hae]
            have hxx : (ax != ax) = false := by simp
            have hee : (ae != ae) = false := by simp
            clear h6 hkp hax hae
            go_wp2_with fail
            refine HKP.out.mono ?_
            rintro e w' ⟨rfl, rfl⟩
            clear HKP hxx hee
            go_wp2_with fail
            go_meet
            exact ⟨q, m, M, head, A.nx, A.D, rfl, rfl, rfl, HNI, H6⟩
        · -- Trim
          as_aux_lemma =>
            clear HQV HKD e0 e2 e3 e4
            obtain ⟨xu, hxu, hxu2⟩ := u64_nat xi
            obtain ⟨tn, htn, htn2⟩ := u64_nat ((head : Int) + (xu : Int))
            have hq0 : Own w w3 (Sep (RLogR m r base size M head nxt) (Sep (WLogR q p base size M head nxt) (Sep (DiskR p D) (Sep (RefR r D) (Sep (OpB op xk xi xd vo bl vc lo xl.length lc) Emp))))) := HPO.out.ac (by unfold PlR; ac_rfl)
            obtain ⟨_, _, _, _, m4, _⟩ := rlog_cells hq0.held
            have HQ0 := Lib.hid (fun nq => hq0.drewN nq)
            have HT2 := Lib.hid htn2
            have HI64 : Hid (head < 18446744073709551616 ∧ nxt < 18446744073709551616) := Lib.hid (by have := HI.out.num; have := HI.out.hh; have := H80.out; omega)
            clear hq0 htn2 hxu2 HPO
            go_upto_region 37 with fail
            go_quiet (fail)
            have H2 := Lib.hid (HQ0.out nq)
            clear HQ0 e1 m4 hxu htn
            have hw := wtrim_any (H2.out.ac (J := Sep (WLogR q p base size M head nxt) (Sep (RLogR m r base size M head nxt) (Sep (DiskR p D) (Sep (RefR r D) (Sep (OpB op xk xi xd vo bl vc lo xl.length lc) Emp))))) (by ac_rfl)) tn
            obtain ⟨te, hte⟩ : ∃ te : Int, te = (((if tn < head ∨ nxt < tn then 1 else 0 : Nat)) : Int) := ⟨_, rfl⟩
            obtain ⟨h2, hh2⟩ : ∃ h2 : Nat, h2 = (if tn < head ∨ nxt < tn then head else tn) := ⟨_, rfl⟩
            rw [← hte, ← hh2] at hw
            have HW := Lib.hid hw
            have HTE := Lib.hid hte
            have HH2 := Lib.hid hh2
            have HNI : Hid (PlI D base size M h2 nxt (k + 1)) := Lib.hid (by rw [hh2]; exact HI.out.trim tn)
            clear hw hte hh2 H2
            go_wp2_with fail
            refine HW.out.mono ?_
            rintro e w4 ⟨rfl, h4⟩
            have hr := rlog_trim (h4.ac (J := Sep (RLogR m r base size M head nxt) (Sep (WLogR q p base size M h2 nxt) (Sep (DiskR p D) (Sep (RefR r D) (Sep (OpB op xk xi xd vo bl vc lo xl.length lc) Emp))))) (by ac_rfl)) tn HI64.out.1 HI64.out.2 HT2.out
            rw [← HTE.out, ← HH2.out] at hr
            have HR := Lib.hid hr
            have htt : (te != te) = false := by simp
            clear hr h4 HW
            go_wp2_with fail
            refine HR.out.mono ?_
            rintro e w5 ⟨rfl, h5⟩
            have H5 : Hid (Own w w5 (PlR q m p r base size M h2 nxt D Emp)) := Lib.hid (by
              have h7 : Own w w5 (Sep (OpB op xk xi xd vo bl vc lo xl.length lc) (PlR q m p r base size M h2 nxt D Emp)) := h5.ac (by unfold PlR; ac_rfl)
              exact h7.snd)
            clear HR h5
            go_wp2_with fail
            go_meet
            exact ⟨q, m, M, h2, nxt, D, rfl, rfl, rfl, HNI, H5⟩
        · -- Sync
          as_aux_lemma =>
            clear HQV HKD e0 e1 e2 e3 e4
            have hs1 := own_sync (HPO.out.ac (J := Sep (DiskR p D) (Sep (RefR r D) (Sep (WLogR q p base size M head nxt) (Sep (RLogR m r base size M head nxt) (Sep (OpB op xk xi xd vo bl vc lo xl.length lc) Emp))))) (by unfold PlR; ac_rfl)) (by have := HI.out.w; have := H80.out; omega) (by have := HI.out.sy; have := H80.out; omega)
            obtain ⟨se, hse⟩ : ∃ se : Int, se = (syE D : Int) := ⟨_, rfl⟩
            rw [← hse] at hs1
            have HS1 := Lib.hid hs1
            have HSE := Lib.hid hse
            have HSY : Hid (D.sy ≤ 1000000 ∧ Coh D) := Lib.hid ⟨by have := HI.out.sy; have := H80.out; omega, HI.out.coh⟩
            have HNI : Hid (PlI D.sync base size M head nxt (k + 1)) := Lib.hid HI.out.sync
            clear hs1 hse HPO
            go_wp2_with fail
            refine HS1.out.mono ?_
            rintro e w4 ⟨rfl, h4⟩
            have hs2 := own_rsync (h4.ac (J := Sep (RefR r D) (Sep (DiskR p D.sync) (Sep (WLogR q p base size M head nxt) (Sep (RLogR m r base size M head nxt) (Sep (OpB op xk xi xd vo bl vc lo xl.length lc) Emp))))) (by ac_rfl)) HSY.out.2 HSY.out.1
            rw [← HSE.out] at hs2
            have HS2 := Lib.hid hs2
            have htt : (se != se) = false := by simp
            clear hs2 h4 HS1
            go_wp2_with fail
            refine HS2.out.mono ?_
            rintro e w5 ⟨rfl, h5⟩
            have H5 : Hid (Own w w5 (PlR q m p r base size M head nxt D.sync Emp)) := Lib.hid (by
              have h7 : Own w w5 (Sep (OpB op xk xi xd vo bl vc lo xl.length lc) (PlR q m p r base size M head nxt D.sync Emp)) := h5.ac (by unfold PlR; ac_rfl)
              exact h7.snd)
            clear HS2 h5
            go_wp2_with fail
            go_meet
            exact ⟨q, m, M, head, nxt, D.sync, rfl, rfl, rfl, HNI, H5⟩
        · -- Crash, and opening anew
          obtain ⟨xu, hxu, hxu2⟩ := u64_nat xi
          obtain ⟨tn, htn, htn2⟩ := u64_nat ((head : Int) + (xu : Int))
          obtain ⟨f2, hf2, hf22⟩ := u32_nat ((least : Int) + xd)
          obtain ⟨M2, hM2, hM22⟩ := u32_nat ((M : Int) + xd)
          have hq0 : Own w w3 (Sep (RLogR m r base size M head nxt) (Sep (WLogR q p base size M head nxt) (Sep (DiskR p D) (Sep (RefR r D) (Sep (OpB op xk xi xd vo bl vc lo xl.length lc) Emp))))) := HPO.out.ac (by unfold PlR; ac_rfl)
          obtain ⟨_, _, _, _, m4, _⟩ := rlog_cells hq0.held
          have HBO : Hid (tn < 18446744073709551616 ∧ f2 < 4294967296 ∧ head < 18446744073709551616) := Lib.hid ⟨htn2, hf22, by have := HI.out.num; have := HI.out.hh; have := H80.out; omega⟩
          have HM22 := Lib.hid hM22
          have HM2 := Lib.hid hM2
          have hll : xl.length * 8 ≤ 140737488355328 := by have := HLL.out; omega
          have HLL2 := Lib.hid hll
          clear hq0 hxu2 htn2 hf22 hM22 hM2 hll
          rcases hk36 with rfl | rfl
          all_goals as_aux_lemma =>
            have hk7 := HQV.out.symm
            clear HKD HQV
            go_upto_if 157 with (fail)
            go_cut [33, 34] (fun a b wx => ∃ an fn : Nat, a = .int .u64 an ∧ b = .int .u32 fn ∧ wx = w3 ∧ Hid (an < 18446744073709551616 ∧ fn < 4294967296))
            case first =>
              go_wp2_with fail
              go_meet
              first
                | exact ⟨head, least, rfl, rfl, rfl, Lib.hid ⟨HBO.out.2.2, HL32.out⟩⟩
                | exact ⟨tn, f2, rfl, rfl, rfl, Lib.hid ⟨HBO.out.1, HBO.out.2.1⟩⟩
            case rest =>
            obtain ⟨an, fn, rfl, rfl, hwe, HAF⟩ := hcut
            obtain rfl := hwe.symm
            clear hk7 hxu htn hf2 HBO m4 e0 e1 e2 e4
            have e4b : (w3.alloc (.cells #[] 3)).cell? ⟨op, 4, none⟩ = some (.slice lo xl.length lc) := blk_cell (HPO.out.quiet ((Only.refl _ w3).alloc (.cells #[] 3))).held 4 rfl
            have hokD : D.Ok := by
              obtain ⟨gn, gk, vw, hDA⟩ := (HPO.out.ac (J := Sep (DiskR p D) (Sep (RefR r D) (Sep (WLogR q p base size M head nxt) (Sep (RLogR m r base size M head nxt) (Sep (OpB op xk xi xd vo bl vc lo xl.length lc) Emp))))) (by unfold PlR; ac_rfl)).disk
              exact hDA.ok
            have HNI : Hid (PlI (D.crash xl) base size M head nxt (k + 1)) := Lib.hid (HI.out.crash hokD xl)
            have HEN : Hid ((D.crash xl).n = 40) := Lib.hid HNI.out.n
            have HBW : Hid (D.W.length ≤ 1000000 ∧ Coh D) := Lib.hid ⟨by have := HI.out.w; have := H80.out; omega, HI.out.coh⟩
            have hll := HLL2.out
            clear hokD
            go_wp2_with (at_builtin; refine wp_freshI _ lo lc xl (HSL.out.keep HPO.out.only) HLN.out hll rfl (.tmp 168) (.tmp 170) rfl rfl rfl ?_; intro co cap w5 HF5)
            have hX : Own w w5 (Sep (DiskR p D) (Sep (IntR co xl) (Sep (RefR r D) (Sep (WLogR q p base size M head nxt) (Sep (RLogR m r base size M head nxt) (Sep (OpB op xk xi xd vo bl vc lo xl.length lc) Emp)))))) := (fresh_own HPO.out HF5.out).ac (by unfold PlR; ac_rfl)
            have HX := Lib.hid hX
            clear hX HF5 hll HPO e4b
            go_wp2_with fail
            refine (own_crash HX.out co cap xl (fun F B hJ hd _ _ => IntR.apart hJ hd) HRL.out HBW.out.1).mono ?_
            rintro e w6 ⟨rfl, h6⟩
            have h6' : Own w w6 (Sep (RefR r D) (Sep (DiskR p (D.crash xl)) (Sep (WLogR q p base size M head nxt) (Sep (RLogR m r base size M head nxt) (Sep (OpB op xk xi xd vo bl vc lo xl.length lc) (Sep (IntR co xl) Emp)))))) := h6.ac (by ac_rfl)
            have e4c := blk_cell h6'.snd.snd.snd.snd.held 4 rfl
            have HCR := Lib.hid (own_rcrash h6' HBW.out.2 lo lc xl (fun F B _ _ h0 _ => HSL.out.old h6'.only h0) HBW.out.1)
            clear h6 h6' HX
            go_wp2_with fail
            refine HCR.out.mono ?_
            rintro e w7 ⟨rfl, h7⟩
            obtain ⟨E, hE⟩ : ∃ E, E = D.crash xl := ⟨_, rfl⟩
            rw [← hE] at h7
            rw [← hE] at HNI HEN
            have H7 : Hid (Own w w7 (Sep (DiskR p E) (Sep (RefR r E) (Sep (WLogR q p base size M head nxt) (Sep (RLogR m r base size M head nxt) (Sep (OpB op xk xi xd vo bl vc lo xl.length lc) (Sep (IntR co xl) Emp))))))) := Lib.hid (h7.ac (by ac_rfl))
            clear h7 hE HCR e4c
            have HCE : Hid (∀ (W : World) (J' : Res), Own w W (Sep (WLogR q p base size M head nxt) (Sep (RLogR m r base size M head nxt) (Sep (OpB op xk xi xd vo bl vc lo xl.length lc) J'))) → W.cell? ⟨m, 3, none⟩ = some (.int .u32 M) ∧ W.cell? ⟨op, 2, none⟩ = some (.int .u32 xd)) := Lib.hid fun W J' hW => by
              obtain ⟨_, _, _, m3, _, _⟩ := rlog_cells hW.snd.held
              exact ⟨m3, blk_cell hW.snd.snd.held 2 rfl⟩
            by_cases hbad : OpenBad 40 (base : Int) (size : Int) fn M2 an
            · as_aux_lemma =>
                have HC1 : Hid (∀ W, Own w W (Sep (DiskR p E) (Sep (RefR r E) (Sep (WLogR q p base size M head nxt) (Sep (RLogR m r base size M head nxt) (Sep (OpB op xk xi xd vo bl vc lo xl.length lc) (Sep (IntR co xl) Emp)))))) → Calls Try.prog 14 #[.pointer (some ⟨p, 0, none⟩), .int .i64 base, .int .i64 size, .int .u32 fn, .int .u32 M2, .int .u64 an] W fun e w' => e = .returned (.tuple #[.pointer none, .slice none 0 0, .int .i64 1]) ∧ Own w w' (Sep (DiskR p E) (Sep (RefR r E) (Sep (WLogR q p base size M head nxt) (Sep (RLogR m r base size M head nxt) (Sep (OpB op xk xi xd vo bl vc lo xl.length lc) (Sep (IntR co xl) Emp))))))) := Lib.hid fun W hW => by
                  refine (wopen_bad hW base size (by have := HL.out; omega) fn M2 an (by rw [HEN.out]; exact hbad)).mono ?_
                  rintro e w' ⟨rfl, rfl⟩
                  exact ⟨rfl, hW⟩
                have HC2 : Hid (∀ W, Own w W (Sep (DiskR p E) (Sep (RefR r E) (Sep (WLogR q p base size M head nxt) (Sep (RLogR m r base size M head nxt) (Sep (OpB op xk xi xd vo bl vc lo xl.length lc) (Sep (IntR co xl) Emp)))))) → Calls Try.prog 15 #[.pointer (some ⟨r, 0, none⟩), .int .i64 base, .int .i64 size, .int .u32 fn, .int .u32 M2, .int .u64 an] W fun e w' => e = .returned (.tuple #[.pointer none, .slice none 0 0, .int .i64 1]) ∧ Own w w' (Sep (DiskR p E) (Sep (RefR r E) (Sep (WLogR q p base size M head nxt) (Sep (RLogR m r base size M head nxt) (Sep (OpB op xk xi xd vo bl vc lo xl.length lc) (Sep (IntR co xl) Emp))))))) := Lib.hid fun W hW => by
                  refine (ropen_bad hW.snd base size (by have := HL.out; omega) fn M2 an (by rw [HEN.out]; exact hbad) (by rw [HEN.out]; decide)).mono ?_
                  rintro e w' ⟨rfl, rfl⟩
                  exact ⟨rfl, hW⟩
                clear hbad
                have HQd := Lib.hid H7.out.drew
                clear H7
                have hM2 := HM2.out
                go_upto_region 24 with fail
                go_region_held3 (fun w' => w'.cell? ⟨m, 3, none⟩ = some (.int .u32 M) ∧ w'.cell? ⟨op, 2, none⟩ = some (.int .u32 xd))
                  (first
                    | exact HCE.out _ _ HA1.out.snd.snd
                    | exact HCE.out _ _ HQd.out.snd.snd)
                  (first
                    | (go_at_call 14; (with_reducible refine (HC1.out _ HQd.out).mono ?_); rintro e w8 ⟨rfl, ha⟩; have HA1 := Lib.hid ha; clear ha))
                have HQe := Lib.hid HA1.out.drew
                clear HC1 HQd HA1
                go_upto_region 25 with fail
                go_region_held3 (fun w' => w'.cell? ⟨m, 3, none⟩ = some (.int .u32 M) ∧ w'.cell? ⟨op, 2, none⟩ = some (.int .u32 xd))
                  (first
                    | exact HCE.out _ _ HA2.out.snd.snd
                    | exact HCE.out _ _ HQe.out.snd.snd)
                  (first
                    | (go_at_call 15; (with_reducible refine (HC2.out _ HQe.out).mono ?_); rintro e w9 ⟨rfl, ha⟩; have HA2 := Lib.hid ha; clear ha))
                clear HC2 HQe hM2
                have HSA := Lib.hid (wsame_any (rs := []) ((HA2.out.recs_nil 88).recs_nil 68) (by decide))
                clear HA2
                go_wp2_with fail
                refine HSA.out.mono ?_
                rintro e wa ⟨rfl, h8⟩
                have H8 : Hid (Own w wa (PlR q m p r base size M head nxt E Emp)) := Lib.hid (by
                  have h9 : Own w wa (Sep (Sep (OpB op xk xi xd vo bl vc lo xl.length lc) (IntR co xl)) (PlR q m p r base size M head nxt E Emp)) := h8.snd.snd.ac (by unfold PlR; ac_rfl)
                  exact h9.snd)
                clear h8 HSA
                go_wp2_with fail
                go_meet
                exact ⟨q, m, M, head, nxt, E, rfl, rfl, rfl, HNI, H8⟩
            · as_aux_lemma =>
                have hgood : fn ≤ M2 ∧ 0 < fn ∧ 0 < an ∧ an ≤ 4611686018427387904 := by
                  unfold OpenBad at hbad
                  have := HL.out
                  have := HS4.out
                  simp only [not_or] at hbad
                  omega
                have HG := Lib.hid hgood
                obtain ⟨rs2, hrs2⟩ : ∃ rs, rs = E.found base size fn M2 an := ⟨_, rfl⟩
                obtain ⟨nx2, hnx2⟩ : ∃ nx, nx = nextOf an rs2 := ⟨_, rfl⟩
                have HN2 : Hid (PlI E base size M2 an nx2 (k + 1)) := Lib.hid (by rw [hnx2, hrs2]; exact HNI.out.open' HM22.out HG.out.2.2.2)
                have HFL2 : Hid (rs2.length ≤ 4096) := Lib.hid (by rw [hrs2]; have := found_len E base size fn M2 an; have := HL.out; omega)
                have HC1 : Hid (∀ W, Own w W (Sep (DiskR p E) (Sep (RefR r E) (Sep (WLogR q p base size M head nxt) (Sep (RLogR m r base size M head nxt) (Sep (OpB op xk xi xd vo bl vc lo xl.length lc) (Sep (IntR co xl) Emp)))))) → Calls Try.prog 14 #[.pointer (some ⟨p, 0, none⟩), .int .i64 base, .int .i64 size, .int .u32 fn, .int .u32 M2, .int .u64 an] W fun e w' => ∃ q2 v, e = .returned (.tuple #[.pointer (some ⟨q2, 0, none⟩), v, .int .i64 0]) ∧ Own w w' (Sep (RefR r E) (Sep (Sep (WLogR q2 p base size M2 an nx2) (Sep (RecsR 68 v rs2) (DiskR p E))) (Sep (WLogR q p base size M head nxt) (Sep (RLogR m r base size M head nxt) (Sep (OpB op xk xi xd vo bl vc lo xl.length lc) (Sep (IntR co xl) Emp))))))) := Lib.hid fun W hW => by
                  refine (own_open hW base size fn M2 an HS4.out (by have := HL.out; omega) (by rw [HEN.out]; exact HL.out) HG.out.2.1 HG.out.1 HG.out.2.2.1 HG.out.2.2.2).mono ?_
                  rintro e w' ⟨q2, v, rfl, h'⟩
                  rw [← hrs2, ← hnx2] at h'
                  exact ⟨q2, v, rfl, h'.ac (by ac_rfl)⟩
                have HC2 : Hid (∀ W q2 v1, Own w W (Sep (RefR r E) (Sep (Sep (WLogR q2 p base size M2 an nx2) (Sep (RecsR 68 v1 rs2) (DiskR p E))) (Sep (WLogR q p base size M head nxt) (Sep (RLogR m r base size M head nxt) (Sep (OpB op xk xi xd vo bl vc lo xl.length lc) (Sep (IntR co xl) Emp)))))) → Calls Try.prog 15 #[.pointer (some ⟨r, 0, none⟩), .int .i64 base, .int .i64 size, .int .u32 fn, .int .u32 M2, .int .u64 an] W fun e w' => ∃ m2 v2, e = .returned (.tuple #[.pointer (some ⟨m2, 0, none⟩), v2, .int .i64 0]) ∧ Own w w' (Sep (RecsR 68 v1 rs2) (Sep (RecsR 88 v2 rs2) (Sep (WLogR q p base size M head nxt) (Sep (RLogR m r base size M head nxt) (Sep (OpB op xk xi xd vo bl vc lo xl.length lc) (Sep (IntR co xl) (PlR q2 m2 p r base size M2 an nx2 E Emp)))))))) := Lib.hid fun W q2 v1 hW => by
                  refine (ropen_go hW base size fn M2 an HS4.out (by rw [HEN.out]; exact HL.out) HG.out.2.1 HG.out.1 HM22.out HG.out.2.2.1 HG.out.2.2.2).mono ?_
                  rintro e w' ⟨m2, v, rfl, h'⟩
                  rw [← hrs2, ← hnx2] at h'
                  exact ⟨m2, v, rfl, h'.ac (by unfold PlR; ac_rfl)⟩
                clear hbad hgood hrs2 hnx2
                have HQd := Lib.hid H7.out.drew
                clear H7
                have hM2 := HM2.out
                go_upto_region 24 with fail
                go_region_held3 (fun w' => w'.cell? ⟨m, 3, none⟩ = some (.int .u32 M) ∧ w'.cell? ⟨op, 2, none⟩ = some (.int .u32 xd))
                  (first
                    | exact HCE.out _ _ HA1.out.snd.snd
                    | exact HCE.out _ _ HQd.out.snd.snd)
                  (first
                    | (go_at_call 14; (with_reducible refine (HC1.out _ HQd.out).mono ?_); rintro e w8 ⟨q2, v1, rfl, ha⟩; have HA1 := Lib.hid ha; clear ha))
                have HQe := Lib.hid HA1.out.drew
                clear HC1 HQd HA1
                go_upto_region 25 with fail
                go_region_held3 (fun w' => w'.cell? ⟨m, 3, none⟩ = some (.int .u32 M) ∧ w'.cell? ⟨op, 2, none⟩ = some (.int .u32 xd))
                  (first
                    | exact HCE.out _ _ HA2.out.snd.snd
                    | exact HCE.out _ _ HQe.out.snd.snd)
                  (first
                    | (go_at_call 15; (with_reducible refine (HC2.out _ _ _ HQe.out).mono ?_); rintro e w9 ⟨m2, v2, rfl, ha⟩; have HA2 := Lib.hid ha; clear ha))
                clear HC2 HQe hM2
                have HSA := Lib.hid (wsame_any HA2.out HFL2.out)
                clear HA2
                go_wp2_with fail
                refine HSA.out.mono ?_
                rintro e wa ⟨rfl, h8⟩
                have H8 : Hid (Own w wa (PlR q2 m2 p r base size M2 an nx2 E Emp)) := Lib.hid h8.snd.snd.snd.snd.snd.snd
                clear h8 HSA
                go_wp2_with fail
                go_meet
                exact ⟨q2, m2, M2, an, nx2, E, rfl, rfl, rfl, HN2, H8⟩
        · -- Fuse
          as_aux_lemma =>
            clear HQV HKD e0 e2 e3 e4
            have hs1 := own_fuse (HPO.out.ac (J := Sep (DiskR p D) (Sep (RefR r D) (Sep (WLogR q p base size M head nxt) (Sep (RLogR m r base size M head nxt) (Sep (OpB op xk xi xd vo bl vc lo xl.length lc) Emp))))) (by unfold PlR; ac_rfl)) xi HRI.out
            have HS1 := Lib.hid hs1
            have HNI : Hid (PlI (D.fused xi) base size M head nxt (k + 1)) := Lib.hid (HI.out.fused xi)
            clear hs1 HPO
            go_wp2_with fail
            refine HS1.out.mono ?_
            rintro e w4 ⟨rfl, h4⟩
            have hs2 := own_rfuse (h4.ac (J := Sep (RefR r D) (Sep (DiskR p (D.fused xi)) (Sep (WLogR q p base size M head nxt) (Sep (RLogR m r base size M head nxt) (Sep (OpB op xk xi xd vo bl vc lo xl.length lc) Emp))))) (by ac_rfl)) xi HRI.out
            have HS2 := Lib.hid hs2
            have e1' := blk_cell (h4.ac (J := Sep (OpB op xk xi xd vo bl vc lo xl.length lc) (Sep (DiskR p (D.fused xi)) (Sep (WLogR q p base size M head nxt) (Sep (RLogR m r base size M head nxt) (Sep (RefR r D) Emp))))) (by ac_rfl)).held 1 rfl
            clear hs2 h4 HS1 e1
            go_wp2_with fail
            refine HS2.out.mono ?_
            rintro e w5 ⟨rfl, h5⟩
            have H5 : Hid (Own w w5 (PlR q m p r base size M head nxt (D.fused xi) Emp)) := Lib.hid (by
              have h7 : Own w w5 (Sep (OpB op xk xi xd vo bl vc lo xl.length lc) (PlR q m p r base size M head nxt (D.fused xi) Emp)) := h5.ac (by unfold PlR; ac_rfl)
              exact h7.snd)
            clear HS2 h5 e1'
            go_wp2_with fail
            go_meet
            exact ⟨q, m, M, head, nxt, D.fused xi, rfl, rfl, rfl, HNI, H5⟩
        · -- Write
          as_aux_lemma =>
            clear HQV HKD e0 e2 e4
            have hsln : SlC w (.slice vo bl vc) xb := by have := HSB.out.1; rw [← HBN.out] at this; exact this
            have hs1 := own_write (HPO.out.ac (J := Sep (DiskR p D) (Sep (RefR r D) (Sep (WLogR q p base size M head nxt) (Sep (RLogR m r base size M head nxt) (Sep (OpB op xk xi xd vo bl vc lo xl.length lc) Emp))))) (by unfold PlR; ac_rfl)) xi (.slice vo bl vc) xb (fun F B _ _ h0 _ => hsln.old HPO.out.only h0) (by have := HI.out.w; have := H80.out; omega) (by have := HI.out.wr; have := H80.out; omega)
            have HS1 := Lib.hid hs1
            have HSN := Lib.hid hsln
            have HWW : Hid (D.W.length ≤ 1000000 ∧ D.wr ≤ 1000000) := Lib.hid (by have := HI.out.w; have := HI.out.wr; have := H80.out; omega)
            have HNI : Hid (PlI (D.write xi xb) base size M head nxt (k + 1)) := Lib.hid (HI.out.write xi xb)
            clear hs1 HPO hsln
            go_wp2_with fail
            refine HS1.out.mono ?_
            rintro e w4 ⟨rfl, h4⟩
            have hs2 := own_rwrite (h4.ac (J := Sep (RefR r D) (Sep (DiskR p (D.write xi xb)) (Sep (WLogR q p base size M head nxt) (Sep (RLogR m r base size M head nxt) (Sep (OpB op xk xi xd vo bl vc lo xl.length lc) Emp))))) (by ac_rfl)) xi (.slice vo bl vc) xb (fun F B _ _ h0 _ => HSN.out.old h4.only h0) HWW.out.1 HWW.out.2
            have HS2 := Lib.hid hs2
            have hob := (h4.ac (J := Sep (OpB op xk xi xd vo bl vc lo xl.length lc) (Sep (DiskR p (D.write xi xb)) (Sep (WLogR q p base size M head nxt) (Sep (RLogR m r base size M head nxt) (Sep (RefR r D) Emp))))) (by ac_rfl)).held
            have e1' := blk_cell hob 1 rfl
            have e3' := blk_cell hob 3 rfl
            clear hs2 h4 HS1 e1 e3 hob
            go_wp2_with fail
            refine HS2.out.mono ?_
            rintro e w5 ⟨rfl, h5⟩
            have H5 : Hid (Own w w5 (PlR q m p r base size M head nxt (D.write xi xb) Emp)) := Lib.hid (by
              have h7 : Own w w5 (Sep (OpB op xk xi xd vo bl vc lo xl.length lc) (PlR q m p r base size M head nxt (D.write xi xb) Emp)) := h5.ac (by unfold PlR; ac_rfl)
              exact h7.snd)
            clear HS2 h5 e1' e3'
            go_wp2_with fail
            go_meet
            exact ⟨q, m, M, head, nxt, D.write xi xb, rfl, rfl, rfl, HNI, H5⟩
      case rest =>
        obtain ⟨q, m, M, head, nxt, D, rfl, rfl, rfl, HI2, HX⟩ := hcut
        clear HPO HKD HQV e0 e1 e2 e3 e4 HI
        as_aux_lemma =>
          have hi := HI2.out
          have hq0 : Own w wc (Sep (RLogR m r base size M head nxt) (Sep (WLogR q p base size M head nxt) (Sep (DiskR p D) (Sep (RefR r D) Emp)))) := HX.out.ac (by unfold PlR; ac_rfl)
          obtain ⟨_, _, _, _, m4, m5⟩ := rlog_cells hq0.held
          have hnn : nxt < 9223372036854775808 := by have := hi.num; have := H80.out; omega
          have hs4 : size ≤ 4096 := by have := hi.lies; omega
          have hhn := hi.hh
          obtain ⟨zh, hzh⟩ : ∃ z : Int, z = (head : Int) := ⟨_, rfl⟩
          obtain ⟨zn, hzn⟩ : ∃ z : Int, z = (nxt : Int) := ⟨_, rfl⟩
          obtain ⟨zr, hzr⟩ : ∃ z : Int, z = (size : Int) - ((nxt : Int) - (head : Int)) := ⟨_, rfl⟩
          rw [← hzh] at m4
          rw [← hzn] at m5
          have HC1 : Hid (∀ n, Calls Try.prog 19 #[.pointer (some ⟨q, 0, none⟩)] (wc.drewN n) fun e w' => e = .returned (.int .u64 zh) ∧ ∃ n', w' = (wc.drewN n).drewN n') := Lib.hid fun n => by
            refine (whead_any (HX.out.drewN n).held).mono ?_
            rintro e w' ⟨rfl, rfl⟩
            exact ⟨by rw [hzh], 0, rfl⟩
          have HC2 : Hid (∀ n, Calls Try.prog 20 #[.pointer (some ⟨q, 0, none⟩)] (wc.drewN n) fun e w' => e = .returned (.int .u64 zn) ∧ ∃ n', w' = (wc.drewN n).drewN n') := Lib.hid fun n => by
            refine (wnext_any (HX.out.drewN n).held).mono ?_
            rintro e w' ⟨rfl, rfl⟩
            exact ⟨by rw [hzn], 0, rfl⟩
          have HC3 : Hid (∀ n, Calls Try.prog 21 #[.pointer (some ⟨q, 0, none⟩)] (wc.drewN n) fun e w' => e = .returned (.int .i64 zr) ∧ ∃ n', w' = (wc.drewN n).drewN n') := Lib.hid fun n => by
            refine (wroom_any (HX.out.drewN n).held hhn hnn hs4).mono ?_
            rintro e w' ⟨rfl, n', rfl⟩
            exact ⟨by rw [hzr], n', rfl⟩
          have HC4 : Hid (∀ n, Calls Try.prog 34 #[.pointer (some ⟨m, 0, none⟩)] (wc.drewN n) fun e w' => e = .returned (.int .i64 zr) ∧ ∃ n', w' = (wc.drewN n).drewN n') := Lib.hid fun n => by
            refine (rlog_room_q (hq0.drewN n).held hhn hnn hs4).mono ?_
            rintro e w' ⟨rfl, n', rfl⟩
            exact ⟨by rw [hzr], n', rfl⟩
          have b1 : (zh != zh) = false := by simp
          have b2 : (zn != zn) = false := by simp
          have b3 : (zr != zr) = false := by simp
          clear hq0 hi hzh hzn hzr hnn hs4 hhn
          go_upto_region 49 with fail
          go_quiet ((first
            | (go_at_call 19; exact Calls.quiet_of (HC1.out _))
            | (go_at_call 20; exact Calls.quiet_of (HC2.out _))
            | (go_at_call 21; exact Calls.quiet_of (HC3.out _))
            | (go_at_call 34; exact Calls.quiet_of (HC4.out _))))
          have HN := Lib.hid (HX.out.drewN nq)
          clear HC1 HC2 HC3 HC4 b1 b2 b3 m4 m5 HX
          go_wp2_with fail
          go_roundw
          case rel => exact ⟨k + 1, q, m, M, head, nxt, D, HLT.out, H80.out, rfl, rfl, by go_num, HI2, HN⟩
          case measure => have := HLT.out; simp [intOf]; omega
    · have hor : ¬ (k : Int) < (os.length : Int) ∨ (k : Int) < (os.length : Int) ∧ ¬ (k : Int) < 80 := by omega
      have HP1 : Hid (Own w wr (Sep (DiskR p D) (Sep (RefR r D) (Sep (WLogR q p base size M head nxt) (Sep (RLogR m r base size M head nxt) Emp))))) := Lib.hid (HP.out.ac (by unfold PlR; ac_rfl))
      have HDN : Hid (D.n = 40) := Lib.hid HI.out.n
      clear HP hin hk hk2 HI
      rcases hor with h | ⟨h, h'⟩
      all_goals
        as_aux_lemma =>
          go_wp2_with fail
          go_loopw [41] (fun i wy => ∃ j : Nat, j ≤ 40 ∧ i = .int .i64 j ∧ Hid (Own w wy (Sep (DiskR p D) (Sep (RefR r D) (Sep (WLogR q p base size M head nxt) (Sep (RLogR m r base size M head nxt) Emp)))))) (fun i _ => 40 - (intOf i).toNat)
          case atStart => exact ⟨0, Nat.zero_le _, rfl, HP1⟩
          case round =>
            clear HP1
            obtain ⟨j, hj, rfl, HQ⟩ := hrel
            by_cases hlj : j < 40
            · have hljI : (j : Int) < 40 := by omega
              have hj0 : (0 : Int) ≤ (j : Int) := by omega
              have HLJ : Hid (j < D.n) := Lib.hid (by rw [HDN.out]; exact hlj)
              have HJ40 := Lib.hid hlj
              clear hj hlj
              go_wp2_with fail
              refine (own_read HQ.out j HLJ.out).mono ?_
              rintro e w4 ⟨ga, rfl, h4⟩
              obtain ⟨gk, gs2, ck, cs2, vw, f, kb, sb, wb, hR⟩ := h4.snd.snd.ref
              have r1' := hR.cell 1
              have r2' := hR.seenAt HLJ.out
              have hsl := sec_length hR.ok.N HLJ.out
              have s1 : SlC w4 (.slice (some ⟨ga, 0, none⟩) 64 64) (sec D.N j) := row_bytes' h4.fst.row hsl.symm
              have s2 : SlC w4 (sl64 (sb.getD j 0)) (sec D.N j) := (hR.hs j HLJ.out).slc
              obtain ⟨sbj, hsbj⟩ : ∃ b, b = sb.getD j 0 := ⟨_, rfl⟩
              obtain ⟨dn, hdn⟩ : ∃ n, n = D.n := ⟨_, rfl⟩
              rw [← hsbj] at r2' s2
              rw [← hdn] at r1'
              have hd40 : dn = 40 := by rw [hdn]; exact HDN.out
              subst hd40
              unfold sl64 at r2' s2
              simp at r1'
              have S1 := Lib.hid s1
              have S2 := Lib.hid s2
              have H4 := Lib.hid h4.snd
              clear h4 hR s1 s2 hsbj hsl HQ hdn
              go_wp2_with fail
              refine (raw_bytes _ _ (sec D.N j) w4 S1.out S2.out).mono ?_
              rintro e w' ⟨rfl, rfl⟩
              go_wp2
              go_roundw
              case rel => exact ⟨j + 1, HJ40.out, by go_num, H4⟩
              case measure => have := HJ40.out; simp [intOf]; omega
            · have hljI : ¬ (j : Int) < 40 := by omega
              have HQO := Lib.hid HQ.out.only
              clear HQ hj hlj
              go_wp2
              go_ret
              exact ⟨rfl, HQO.out⟩

end Go.Proofs.Ytbimhiffcdhcaaa
