/-
  Package wal: Append whether or not the power is there; lists of slices of bytes of one's own.
-/
import Derived.Test.YtbimhiffcdhcaaaWalJ6
namespace Go.Proofs.Ytbimhiffcdhcaaa
open Go Go.RowKit Go.Lib
set_option linter.unusedVariables false
set_option linter.unusedSimpArgs false
set_option maxRecDepth 100000

set_option maxRecDepth 100000 in
set_option maxHeartbeats 8000000 in
theorem wlog_append_all {w0 w : World} {q p base size M head nxt : Nat} {D : DS} {J : Res} [Stab J] (h : Own w0 w (Sep (WLogR q p base size M head nxt) (Sep (DiskR p D) J))) (vo : Option Addr) (n vc : Nat) (xs : List UInt8) (hnx : n = xs.length) (hvc : n ≤ vc)
    (hv : ∀ (w' : World) (B : Nat → Prop), J w' B → Only (fun _ => False) w0 w' → SlC w' (.slice vo n vc) xs) (hx : n ≤ 32768) (hh : head ≤ nxt) (hn : nxt ≤ 9223372036854770000) (hM : M < 4294967296) (h0 : 0 < size) (hlies : base + size ≤ D.n) (h4 : D.n ≤ 4096)
    (hf : nxt + cntN n - head ≤ size) (hW : D.W.length ≤ 900000) (hwr : D.wr ≤ 900000) :
    Calls Try.prog 17 #[.pointer (some ⟨q, 0, none⟩), .slice vo n vc] w fun e w' => e = .returned (.tuple #[.int .u64 (if (D.app base size M nxt xs (cntN n)).down then 0 else nxt : Nat), .int .i64 (appE D base size M nxt xs)]) ∧
      Own w0 w' (Sep (WLogR q p base size M head (if (D.app base size M nxt xs (cntN n)).down then nxt else nxt + cntN n)) (Sep (DiskR p (D.app base size M nxt xs (cntN n))) J)) := by
  have HCN := Lib.hid (fun w => wcount_any (n : Int) w)
  rw [cnt_nat hx] at HCN
  have hm := cntN_max hx
  have hpos := cntN_pos n
  have HAPP : Hid (appE D base size M nxt xs = bwR (D.app base size M nxt xs (cntN n)).down) := Lib.hid (by rw [hnx]; rfl)
  obtain ⟨c, hc⟩ : ∃ c, c = cntN n := ⟨_, rfl⟩
  rw [← hc] at hf hm hpos HAPP HCN ⊢
  obtain ⟨z, hz⟩ : ∃ z : Int, z = (size : Int) - ((nxt : Int) - (head : Int)) := ⟨_, rfl⟩
  have HR := Lib.hid (wroom_any h.held hh (by omega) (Nat.le_trans (Nat.le_trans (Nat.le_add_left _ _) hlies) h4))
  rw [← hz] at HR
  have h1 : ¬ (c : Int) = 0 := by omega
  have h2 : ¬ z < (c : Int) := by omega
  have h1B : ((c : Int) == 0) = false := by simpa using h1
  have h2B : decide (z < (c : Int)) = false := decide_eq_false h2
  have hbs : base + size ≤ 4096 := Nat.le_trans hlies h4
  have HC := Lib.hid hc
  have HM := Lib.hid hM
  have HL := Lib.hid hlies
  have H4 := Lib.hid h4
  have HW := Lib.hid hW
  have HWR := Lib.hid hwr
  have HV := Lib.hid hv
  have HNX := Lib.hid hnx
  have HVC := Lib.hid hvc
  have HX := Lib.hid hx
  have HF := Lib.hid hf
  have HH := Lib.hid hh
  have HN := Lib.hid hn
  have H0 := Lib.hid h0
  have HBS := Lib.hid hbs
  have H : Hid (Own w0 w (Sep (DiskR p (D.app base size M nxt xs 0)) (Sep (WLogR q p base size M head nxt) J))) := Lib.hid h.swap
  clear h hv hc hx hM hlies h4 hW hwr hnx hvc hz hf hh hbs
  obtain ⟨E, hE⟩ : ∃ E, E = D.app base size M nxt xs c := ⟨_, rfl⟩
  obtain ⟨ee, hee⟩ : ∃ ee, ee = appE D base size M nxt xs := ⟨_, rfl⟩
  rw [← hE, ← hee] at HAPP ⊢
  have HE := Lib.hid hE
  obtain ⟨ra, hra⟩ : ∃ ra : Nat, ra = (if E.down then 0 else nxt) := ⟨_, rfl⟩
  obtain ⟨rn, hrn⟩ : ∃ rn : Nat, rn = (if E.down then nxt else nxt + c) := ⟨_, rfl⟩
  rw [← hra, ← hrn]
  have HRA := Lib.hid hra
  have HRN := Lib.hid hrn
  clear hE hee hra hrn
  go_enter Try.func17, Try.ntmps17
  go_wp2_with fail
  refine (HCN.out _).mono ?_
  rintro e w' ⟨rfl, rfl⟩
  go_wp2_with fail
  refine HR.out.mono ?_
  rintro e w' ⟨rfl, nq, rfl⟩
  have H2 := Lib.hid (H.out.drewN nq)
  clear H HR
  go_wp2_with fail
  clear h2 h2B h1 h1B
  go_loopw [23] (fun i wr => ∃ k : Nat, k ≤ c ∧ i = .int .i64 k ∧ (k = 0 ∨ (D.app base size M nxt xs k).down = false) ∧ Hid (Own w0 wr (Sep (DiskR p (D.app base size M nxt xs k)) (Sep (WLogR q p base size M head nxt) J)))) (fun i _ => c - (intOf i).toNat)
  case atStart => exact ⟨0, Nat.zero_le _, rfl, .inl rfl, H2⟩
  case round =>
    clear H2
    obtain ⟨k, hk, rfl, hdk, HQ⟩ := hrel
    have HDK := Lib.hid hdk
    clear hdk
    by_cases hlt : k < c
    · have hltI : (k : Int) < (c : Int) := by omega
      have hk0 : (0 : Int) ≤ (k : Int) := by omega
      have HLT := Lib.hid hlt
      have hsn64 : nxt + k < 18446744073709551616 := by omega
      have hslr : SlC wr (.slice vo n vc) xs := by
        obtain ⟨F, hJ, _, ho⟩ := HQ.out.snd.snd
        exact HV.out wr F hJ ho
      have HPC := Lib.hid (wpiece_any HQ.out.snd.held vo n vc xs HNX.out hslr HVC.out HX.out c k HC.out hlt hsn64)
      obtain ⟨sn, hsn⟩ : ∃ sn, sn = nxt + k := ⟨_, rfl⟩
      obtain ⟨fl, hfl⟩ : ∃ fl, fl = wFlag c k := ⟨_, rfl⟩
      rw [← hsn, ← hfl] at HPC
      rw [← hsn] at hsn64
      have hf256 : fl < 256 := by rw [hfl]; unfold wFlag; split <;> split <;> omega
      have HSN := Lib.hid hsn
      have HFL := Lib.hid hfl
      have HF256 := Lib.hid hf256
      have HS64 := Lib.hid hsn64
      clear hlt hk hslr hsn hfl hf256 hsn64
      go_wp2_with fail
      refine HPC.out.mono ?_
      rintro e w1 ⟨dv, rfl, hsl, ho1⟩
      unfold pcV
      obtain ⟨dvo, dvc, hdv⟩ := hsl.shape
      obtain ⟨dl, hdl⟩ : ∃ dl, dl = (pieceN xs k).length := ⟨_, rfl⟩
      rw [← hdl] at hdv
      subst hdv
      clear hdl
      obtain ⟨b, hb⟩ : ∃ b, b = w1.heap.size := ⟨_, rfl⟩
      have hq1 := (HQ.out.quiet ho1).lend (.cells #[.int .u64 sn, .int .u32 M, .int .u8 fl, .slice dvo dl dvc] 90 (0, 0))
      rw [← hb] at hq1
      have HB := Lib.hid hb
      have HQ1 := Lib.hid hq1
      have HO1 := Lib.hid ((Only.refl (fun _ => False) w1).alloc (.cells #[.int .u64 sn, .int .u32 M, .int .u8 fl, .slice dvo dl dvc] 90 (0, 0)))
      have HSL := Lib.hid hsl
      clear hsl ho1 HPC HQ hb hq1
      go_upto_region 12 with fail
      have HDL : Hid (SlC w1 (.slice dvo dl dvc) (pieceN xs k)) := HSL
      obtain ⟨W1, hW1⟩ : ∃ W1, W1 = w1.alloc (Obj.cells #[.int .u64 sn, .int .u32 M, .int .u8 fl, .slice dvo dl dvc] 90) := ⟨_, rfl⟩
      have hb1 : b < W1.heap.size := by rw [hW1, HB.out]; simp
      rw [← hW1] at HQ1 HO1
      rw [← HB.out, ← hW1]
      have HQd : Hid (Own w0 W1.drew (Sep (DiskR p (D.app base size M nxt xs k)) (Sep (Blk b (.cells #[.int .u64 sn, .int .u32 M, .int .u8 fl, .slice dvo dl dvc] 90 (0, 0))) (Sep (WLogR q p base size M head nxt) J))) ∧ Only (fun _ => False) w1 W1.drew) := Lib.hid ⟨HQ1.out.drew, HO1.out.drew⟩
      obtain ⟨rg, hrg⟩ : ∃ rg, rg = ringS base size sn := ⟨_, rfl⟩
      have hrl : rg < base + size := by rw [hrg]; exact ring_lt h0 (Nat.le_refl _)
      have hfew := app_few D base size M nxt xs k
      have HB1 : Hid ((D.app base size M nxt xs k).W.length ≤ 1000000) := Lib.hid (by have := HW.out; have := HLT.out; omega)
      have HB2 : Hid ((D.app base size M nxt xs k).wr ≤ 1000000) := Lib.hid (by have := HWR.out; have := HLT.out; omega)
      obtain ⟨bs, hbs⟩ : ∃ bs, bs = pcB sn (wPc M xs k) := ⟨_, rfl⟩
      have HBS2 := Lib.hid hbs
      have HC1 : Hid (∀ (W : World), (Own w0 W (Sep (DiskR p (D.app base size M nxt xs k)) (Sep (Blk b (.cells #[.int .u64 sn, .int .u32 M, .int .u8 fl, .slice dvo dl dvc] 90 (0, 0))) (Sep (WLogR q p base size M head nxt) J))) ∧ Only (fun _ => False) w1 W) →
          Calls Try.prog 44 #[.pointer (some ⟨q, 0, none⟩), .int .u64 sn] W fun e w' => e = .returned (.int .i64 rg) ∧ (Own w0 w' (Sep (DiskR p (D.app base size M nxt xs k)) (Sep (Blk b (.cells #[.int .u64 sn, .int .u32 M, .int .u8 fl, .slice dvo dl dvc] 90 (0, 0))) (Sep (WLogR q p base size M head nxt) J))) ∧ Only (fun _ => False) w1 w')) := Lib.hid (by
        rintro W ⟨hW, hO⟩
        refine (wsector_any hW.snd.snd.held sn HS64.out h0 HBS.out).mono ?_
        rintro e w' ⟨rfl, n, rfl⟩
        exact ⟨by rw [hrg], hW.drewN n, hO.drewN n⟩)
      have HC2 : Hid (∀ (W : World), (Own w0 W (Sep (DiskR p (D.app base size M nxt xs k)) (Sep (Blk b (.cells #[.int .u64 sn, .int .u32 M, .int .u8 fl, .slice dvo dl dvc] 90 (0, 0))) (Sep (WLogR q p base size M head nxt) J))) ∧ Only (fun _ => False) w1 W) →
          Calls Try.prog 45 #[.agg #[.int .u64 sn, .int .u32 M, .int .u8 fl, .slice dvo dl dvc]] W fun e w' => ∃ sv, e = .returned sv ∧ Own w0 w' (Sep (DiskR p (D.app base size M nxt xs k)) (Sep (OwnB sv bs) (Sep (Blk b (.cells #[.int .u64 sn, .int .u32 M, .int .u8 fl, .slice dvo dl dvc] 90 (0, 0))) (Sep (WLogR q p base size M head nxt) J))))) := Lib.hid (by
        rintro W ⟨hW, hO⟩
        refine (wbytes_any sn M fl (.slice dvo dl dvc) (pieceN xs k) HS64.out HM.out HF256.out (pieceN_length xs k) W (HDL.out.keep hO)).mono ?_
        rintro e w' ⟨r, rfl, hr, hon⟩
        refine ⟨r, rfl, ?_⟩
        have hwp : (⟨M, fl, pieceN xs k⟩ : Pc) = wPc M xs k := by rw [wPc, HFL.out, HC.out, HNX.out]
        rw [hwp, ← hbs] at hr
        have hOB : OwnB r bs w' (fun k => r.ownBlock = some k) := ⟨own_base hr (Nat.zero_le _), fun _ => Iff.rfl⟩
        exact (hW.fresh hon hOB (fun b hb => (hr.lt b hb).1)).swap)
      have HC3 : Hid (∀ (W : World) (sv : Value), Own w0 W (Sep (DiskR p (D.app base size M nxt xs k)) (Sep (OwnB sv bs) (Sep (Blk b (.cells #[.int .u64 sn, .int .u32 M, .int .u8 fl, .slice dvo dl dvc] 90 (0, 0))) (Sep (WLogR q p base size M head nxt) J)))) →
          Calls Try.prog 30 #[.pointer (some ⟨p, 0, none⟩), .int .i64 rg, sv] W fun e w' => e = .returned (.int .i64 ((D.app base size M nxt xs k).wrE rg bs)) ∧ Own w0 w' (Sep (DiskR p ((D.app base size M nxt xs k).write rg bs)) (Sep (OwnB sv bs) (Sep (Blk b (.cells #[.int .u64 sn, .int .u32 M, .int .u8 fl, .slice dvo dl dvc] 90 (0, 0))) (Sep (WLogR q p base size M head nxt) J))))) := Lib.hid (fun W sv hW =>
        own_write hW (rg : Int) sv bs (fun F B hJ hd' _ _ => OwnB.apart hJ hd') HB1.out HB2.out)
      have HSIX : Hid (∀ (W : World), Own w0 W (Sep (Blk b (.cells #[.int .u64 sn, .int .u32 M, .int .u8 fl, .slice dvo dl dvc] 90 (0, 0))) (Sep (WLogR q p base size M head nxt) J)) → W.cell? ⟨q, 0, none⟩ = some (.pointer (some ⟨p, 0, none⟩)) ∧ W.cell? ⟨b, 0, none⟩ = some (.int .u64 sn) ∧ W.cell? ⟨b, 1, none⟩ = some (.int .u32 M) ∧ W.cell? ⟨b, 2, none⟩ = some (.int .u8 fl) ∧ W.cell? ⟨b, 3, none⟩ = some (.slice dvo dl dvc)) := Lib.hid (fun W hW => by
        obtain ⟨a0, _⟩ := wlog_cells hW.snd.held
        exact ⟨a0, blk_cell hW.held 0 rfl, blk_cell hW.held 1 rfl, blk_cell hW.held 2 rfl, blk_cell hW.held 3 rfl⟩)
      have HRG := Lib.hid hrg
      have HRL := Lib.hid hrl
      clear HQ1 HO1 hW1 hrg hrl hfew hbs hb1
      go_region_held3 (fun w' => w'.cell? ⟨q, 0, none⟩ = some (.pointer (some ⟨p, 0, none⟩)) ∧ w'.cell? ⟨b, 0, none⟩ = some (.int .u64 sn) ∧ w'.cell? ⟨b, 1, none⟩ = some (.int .u32 M) ∧ w'.cell? ⟨b, 2, none⟩ = some (.int .u8 fl) ∧ w'.cell? ⟨b, 3, none⟩ = some (.slice dvo dl dvc))
        (first
          | exact HSIX.out _ HA3.out.snd.snd
          | exact HSIX.out _ HA2.out.snd.snd
          | exact HSIX.out _ HA1.out.1.snd
          | exact HSIX.out _ HQd.out.1.snd)
        (first
          | (go_at_call 44; (with_reducible refine (HC1.out _ HQd.out).mono ?_); rintro e w5 ⟨rfl, ha⟩; have HA1 := Lib.hid ha; clear ha)
          | (go_at_call 45; (with_reducible refine (HC2.out _ HA1.out).mono ?_); rintro e w6 ⟨sv, rfl, ha⟩; have HA2 := Lib.hid ha; clear ha)
          | (go_at_call 30; (with_reducible refine (HC3.out _ _ HA2.out).mono ?_); rintro e w7 ⟨rfl, ha⟩; have HA3 := Lib.hid ha; clear ha))
      clear HC1 HC2 HC3 HSIX HQd HA1 HA2
      have hl64 : (pcB sn (wPc M xs k)).length ≤ 64 := by rw [pcB_length]; have := pieceN_length xs k; show 14 + (pieceN xs k).length ≤ 64; omega
      have hnext : D.app base size M nxt xs (k + 1) = (D.app base size M nxt xs k).write (rg : Int) bs := by
        rw [HRG.out, HBS2.out, HSN.out]
        rfl
      have hwh := write_here (D := D.app base size M nxt xs k) (i := (rg : Int)) (b := bs) ⟨by omega, by have := (app_few D base size M nxt xs k).1; have := HL.out; have := HRL.out; omega⟩ (by rw [HBS2.out]; exact hl64)
      rw [← hnext] at hwh
      have H3 : Hid (Own w0 w7 (Sep (DiskR p (D.app base size M nxt xs (k + 1))) (Sep (WLogR q p base size M head nxt) J))) := Lib.hid (by rw [hnext]; exact HA3.out.drop2.drop2)
      obtain ⟨er, her⟩ : ∃ er, er = (D.app base size M nxt xs k).wrE (rg : Int) bs := ⟨_, rfl⟩
      rw [← her] at hwh ⊢
      clear HA3 her hnext hl64
      by_cases hlast : (D.app base size M nxt xs k).lastB = true
      · obtain ⟨rfl, hdn⟩ := hwh.1 hlast
        have HDN := Lib.hid hdn
        clear hwh hlast hdn
        go_wp2_with fail
        go_roundw
        case rel => exact ⟨k + 1, HLT.out, by go_num, .inr HDN.out, H3⟩
        case measure => have := HLT.out; simp [intOf]; omega
      · obtain ⟨rfl, hdn⟩ := hwh.2 (by simpa using hlast)
        have hEk : E = D.app base size M nxt xs (k + 1) := by
          have := app_down hdn (c - (k + 1))
          rw [HE.out, ← this]
          congr 1
          have := HLT.out
          omega
        rw [← hEk] at H3 hdn
        have HDN := Lib.hid hdn
        clear hwh hlast hdn hEk
        go_wp2_with fail
        go_ret2
        have x1 := HRA.out
        have x2 := HRN.out
        have x3 := HAPP.out
        rw [HDN.out] at x1 x2 x3
        simp only [if_true] at x1 x2
        refine ⟨?_, ?_⟩
        · rw [x1, x3]; rfl
        · rw [x2]
          exact H3.out.swap
    · have hkc : k = c := by omega
      subst hkc
      have hltI : ¬ (k : Int) < (k : Int) := by omega
      have hq := HQ.out.snd.held
      have b5 := (wlog_cells hq).2.2.2.2.2
      have f5 : wr.frozen? ⟨q, 5, none⟩ = false := blk_free hq 5
      have e1 : IntKind.u64.wrap (k : Int) = (k : Int) := by rw [IntKind.wrap_u64]; omega
      have e2 : IntKind.u64.wrap ((nxt : Int) + (k : Int)) = (nxt : Int) + (k : Int) := by rw [IntKind.wrap_u64]; omega
      have HST := Lib.hid (HQ.out.swap.store 5 (.int .u64 ((nxt : Int) + (k : Int))))
      have hdn := HDK.out.resolve_left (by omega)
      rw [← HE.out] at hdn
      have HDN := Lib.hid hdn
      clear hq HQ hdn
      go_wp2_with fail
      go_ret2
      have x1 := HRA.out
      have x2 := HRN.out
      have x3 := HAPP.out
      rw [HDN.out] at x1 x2 x3
      simp only [Bool.false_eq_true, if_false] at x1 x2
      refine ⟨?_, ?_⟩
      · rw [x1, x3]; rfl
      · rw [x2]
        have h9 : Own w0 _ (Sep (WLogR q p base size M head (nxt + k)) (Sep (DiskR p (D.app base size M nxt xs k)) J)) := HST.out
        rw [← HE.out] at h9
        exact h9


theorem app_gone {D : DS} (h : D.down = true) (base size M nxt : Nat) (xs : List UInt8) (k : Nat) : D.app base size M nxt xs k = D := by
  have := app_down (D := D) (base := base) (size := size) (M := M) (nxt := nxt) (xs := xs) (k := 0) h k
  rwa [Nat.zero_add] at this

/-- A log on a disk, whatever happens to the power: what was synced, what was appended since. -/
structure LogW (D : DS) (size head nxt least M : Nat) (A : List (Nat × List UInt8)) (B : List (List UInt8)) (c : Nat) : Prop where
  wal : WalOk D 0 size head least M A B
  nx : nxt = head + pcnt A + pcnt (B.map (Prod.mk M))
  fit : nxt ≤ head + size
  w : D.W.length ≤ c
  wr : D.wr ≤ c
  sy : D.sy ≤ c
theorem LogW.more {D : DS} {size head nxt least M c c' : Nat} {A : List (Nat × List UInt8)} {B : List (List UInt8)} (h : LogW D size head nxt least M A B c) (hc : c ≤ c') : LogW D size head nxt least M A B c' := ⟨h.wal, h.nx, h.fit, by have := h.w; omega, by have := h.wr; omega, by have := h.sy; omega⟩
theorem last_sy (D : DS) : D.last.sy = D.sy := by
  unfold DS.last
  split
  · rfl
  · split
    · rfl
    · split <;> rfl
theorem write_sy (D : DS) (i : Int) (b : List UInt8) : (D.write i b).sy = D.sy := by
  unfold DS.write DS.lay
  split
  · rfl
  · split
    · exact last_sy D
    · exact last_sy D
theorem app_sy (D : DS) (base size M nxt : Nat) (xs : List UInt8) (k : Nat) : (D.app base size M nxt xs k).sy = D.sy := by
  induction k with
  | zero => rfl
  | succ k ih => exact (write_sy _ _ _).trans ih

theorem own_append_wal {w0 w : World} {q p size head nxt least M c : Nat} {D : DS} {A : List (Nat × List UInt8)} {B : List (List UInt8)} {J : Res} [Stab J] (h : Own w0 w (Sep (WLogR q p 0 size M head nxt) (Sep (DiskR p D) J))) (hL : LogW D size head nxt least M A B c) (hc : c ≤ 800000) (hs : size ≤ 655) (hnum : head ≤ 4611686018427387904)
    (vo : Option Addr) (n vc : Nat) (xs : List UInt8) (hnx : n = xs.length) (hvc : n ≤ vc) (hv : ∀ (w' : World) (B : Nat → Prop), J w' B → Only (fun _ => False) w0 w' → SlC w' (.slice vo n vc) xs) (hx : n ≤ 32768) :
    Calls Try.prog 17 #[.pointer (some ⟨q, 0, none⟩), .slice vo n vc] w fun e w' =>
      (e = .returned (.tuple #[.int .u64 nxt, .int .i64 0]) ∧ (D.app 0 size M nxt xs (cntN n)).down = false ∧ LogW (D.app 0 size M nxt xs (cntN n)) size head (nxt + cntN n) least M A (B ++ [xs]) (c + size) ∧ Own w0 w' (Sep (WLogR q p 0 size M head (nxt + cntN n)) (Sep (DiskR p (D.app 0 size M nxt xs (cntN n))) J))) ∨
      (e = .returned (.tuple #[.int .u64 0, .int .i64 4]) ∧ (D.app 0 size M nxt xs (cntN n)).down = true ∧ LogW (D.app 0 size M nxt xs (cntN n)) size head nxt least M A B (c + size) ∧ Own w0 w' (Sep (WLogR q p 0 size M head nxt) (Sep (DiskR p (D.app 0 size M nxt xs (cntN n))) J))) ∨
      (e = .returned (.tuple #[.int .u64 0, .int .i64 3]) ∧ Own w0 w' (Sep (WLogR q p 0 size M head nxt) (Sep (DiskR p D) J))) := by
  obtain ⟨hW, hnxt, hfitn, hw, hwr, hsy⟩ := hL
  have h4 : D.n ≤ 4096 := hW.ok.n
  by_cases hfit : nxt + cntN n ≤ head + size
  · refine (wlog_append_all h vo n vc xs hnx hvc hv hx (by omega) (by omega) hW.m hW.pos hW.lies h4 (by omega) (by omega) (by omega)).mono ?_
    rintro e w' ⟨rfl, h'⟩
    have hf := app_few D 0 size M nxt xs (cntN n)
    have hsy' := app_sy D 0 size M nxt xs (cntN n)
    have hcs : cntN n ≤ size := by omega
    have hE : appE D 0 size M nxt xs = bwR (D.app 0 size M nxt xs (cntN n)).down := by unfold appE; rw [← hnx]
    cases hd : (D.app 0 size M nxt xs (cntN n)).down with
    | false =>
      simp only [hd, Bool.false_eq_true, if_false] at h'
      refine .inl ⟨by simp only [hE, hd, Bool.false_eq_true, if_false]; rfl, rfl, ⟨?_, ?_, hfit, by omega, by omega, by omega⟩, h'⟩
      · have hdD : D.down = false := by
          cases hdd : D.down with
          | false => rfl
          | true => rw [app_gone hdd, hdd] at hd; cases hd
        have := hW.append xs (by omega) hdD nxt hnxt (by rw [← hnx]; exact hfit)
        rw [← hnx, hd] at this
        simpa using this
      · rw [List.map_append, pcnt_append, List.map_singleton, pcnt_one, ← hnx, hnxt]; omega
    | true =>
      simp only [hd, if_true] at h'
      refine .inr (.inl ⟨by simp only [hE, hd, if_true]; rfl, rfl, ⟨?_, hnxt, hfitn, by omega, by omega, by omega⟩, h'⟩)
      cases hdD : D.down with
      | false =>
        have := hW.append xs (by omega) hdD nxt hnxt (by rw [← hnx]; exact hfit)
        rw [← hnx, hd] at this
        simpa using this
      | true => rw [app_gone hdD]; exact hW
  · refine (wlog_append_full h vo n vc hx (by omega) (by omega) (by omega) (by omega)).mono ?_
    rintro e w' ⟨rfl, h'⟩
    exact .inr (.inr ⟨rfl, h'⟩)

/-- Slices of bytes, each of one's own, that read as these. -/
def DatL (vs : List Value) (A : List (List UInt8)) : Res := fun w F => vs.length = A.length ∧ (∀ k, F k → k < w.heap.size) ∧
  ∀ j, j < A.length → SlC w (vs.getD j (.slice none 0 0)) (A.getD j []) ∧ ∀ a m c, vs.getD j (.slice none 0 0) = .slice (some a) m c → A.getD j [] ≠ [] → F a.block
instance {vs : List Value} {A : List (List UInt8)} : Stab (DatL vs A) where
  lt := fun h k hk => h.2.1 k hk
  keep := by
    rintro w w' F ⟨h1, h4, h5⟩ hk
    refine ⟨h1, fun k hF => ?_, fun j hj => ⟨(h5 j hj).1.at' fun a m c e hne => hk _ ((h5 j hj).2 a m c e hne), (h5 j hj).2⟩⟩
    have := hk k hF
    have hlt := h4 k hF
    rw [Array.getElem?_eq_getElem hlt] at this
    exact lt_of_some this
theorem Own.datl_nil {w0 w : World} {I : Res} (h : Own w0 w I) : Own w0 w (Sep (DatL [] []) I) := by
  obtain ⟨F, h1, h2, h3⟩ := h
  exact ⟨F, ⟨fun _ => False, F, ⟨rfl, fun k h => h.elim, fun j hj => by simp at hj⟩, h1, fun _ h => h.elim, fun k => by simp⟩, h2, h3⟩
theorem DatL.push {vs : List Value} {A : List (List UInt8)} {v : Value} {xs : List UInt8} {w : World} {F : Nat → Prop} (h : Sep (OwnB v xs) (DatL vs A) w F) : DatL (vs ++ [v]) (A ++ [xs]) w F := by
  obtain ⟨X, Y, hA, ⟨h1, h2, h3⟩, hd, hF⟩ := h
  obtain ⟨k1, k2, k3⟩ := hA.lie
  refine ⟨by simp [h1], fun k hk => ((hF k).1 hk).elim (k3 k) (h2 k), fun j hj => ?_⟩
  simp at hj
  by_cases e : j = A.length
  · subst e
    have e1 : (vs ++ [v]).getD A.length (.slice none 0 0) = v := by rw [← h1]; simp [List.getD_eq_getElem?_getD]
    have e2 : (A ++ [xs]).getD A.length [] = xs := by simp [List.getD_eq_getElem?_getD]
    rw [e1, e2]
    exact ⟨k1, fun b m c e hne => (hF _).2 (.inl (k2 b m c e hne))⟩
  · have hl : j < A.length := by omega
    have e1 : (vs ++ [v]).getD j (.slice none 0 0) = vs.getD j (.slice none 0 0) := by
      rw [List.getD_eq_getElem?_getD, List.getD_eq_getElem?_getD, List.getElem?_append_left (by omega)]
    have e2 : (A ++ [xs]).getD j [] = A.getD j [] := by
      rw [List.getD_eq_getElem?_getD, List.getD_eq_getElem?_getD, List.getElem?_append_left hl]
    rw [e1, e2]
    exact ⟨(h3 j hl).1, fun b m c e hne => (hF _).2 (.inr ((h3 j hl).2 b m c e hne))⟩
theorem DatL.take {vs : List Value} {A : List (List UInt8)} {w : World} {F : Nat → Prop} (h : DatL vs A w F) (m : Nat) : DatL (vs.take m) (A.take m) w F := by
  obtain ⟨h1, h2, h3⟩ := h
  refine ⟨by simp [h1], h2, fun j hj => ?_⟩
  simp at hj
  have e1 : (vs.take m).getD j (.slice none 0 0) = vs.getD j (.slice none 0 0) := by rw [List.getD_eq_getElem?_getD, List.getD_eq_getElem?_getD, List.getElem?_take, if_pos (by omega)]
  have e2 : (A.take m).getD j [] = A.getD j [] := by rw [List.getD_eq_getElem?_getD, List.getD_eq_getElem?_getD, List.getElem?_take, if_pos (by omega)]
  rw [e1, e2]
  exact h3 j (by omega)
/-- A slice of one's own, cut short. -/
theorem rowV_take {w : World} {e : TypeId} {size : Nat} {ao : Option Addr} {n cap : Nat} {xs : List Value} (h : w.ownsRow 0 e size (.slice ao n cap) n xs) {m : Nat} (hm : m ≤ n) : w.ownsRow 0 e size (.slice ao m cap) m (xs.take (m * size)) := by
  have hms : m * size ≤ n * size := Nat.mul_le_mul_right size hm
  refine ⟨by rw [List.length_take, h.1]; omega, ?_⟩
  rcases h.2 with ⟨e1, hn0⟩ | ⟨g, cp, cur, e1, hb, hg, hn, h1, h2, h3⟩
  · simp at e1
    exact .inl ⟨by rw [e1.1, e1.2.2, show m = 0 by omega], by omega⟩
  · simp at e1
    obtain ⟨rfl, rfl⟩ := e1
    refine .inr ⟨g, cap, cur, rfl, hb, hg, by omega, h1, h2, ?_⟩
    rw [← h3, List.take_take, Nat.min_eq_left hms]

end Go.Proofs.Ytbimhiffcdhcaaa
