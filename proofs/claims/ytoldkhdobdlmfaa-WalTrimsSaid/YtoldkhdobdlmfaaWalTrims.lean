/-
  WalTrims: mounts that choose their next piece for the head, and themselves for the least mount.
-/
import Derived.Test.YtoldkhdobdlmfaaWalPreK
namespace Go.Proofs.Ytoldkhdobdlmfaa
open Go Go.RowKit Go.Lib
set_option linter.unusedVariables false
set_option linter.unusedSimpArgs false
set_option maxRecDepth 100000

theorem UpW.sync {D : DS} (h : UpW D) : UpW D.sync := by
  have e : D.sync = { D with K := lays D.K D.W, W := [], sy := D.sy + 1 } := by unfold DS.sync; rw [if_neg (by rw [h.d]; simp)]
  have coh' : Coh D.sync := by rw [e]; exact h.coh
  have ok' : D.sync.Ok := by
    rw [e]
    exact ⟨h.ok.n, h.ok.N, by have := lays_length (n := D.n) D.W D.K h.ok.K h.ok.W; exact this, fun x hx => by simp at hx, h.ok.fuse⟩
  exact ⟨ok', coh', by rw [e]; exact h.d, by rw [e]; exact h.f⟩
theorem UpW.crash {D : DS} (h : UpW D) (keep : List Int) {base size head least M : Nat} {A : List (Nat × List UInt8)} {B : List (List UInt8)} (hw : WalOk (D.crash keep) base size head least M A B) : UpW (D.crash keep) := ⟨hw.ok, hw.coh, rfl, by show (-1 : Int) < 0; decide⟩
/-- What is known at a round's head. -/
structure TrI (D : DS) (M nxt head least : Nat) (A : List (Nat × List UInt8)) (B : List (List UInt8)) (L : List (List UInt8)) (k : Nat) : Prop where
  log : LogW D 16 head nxt least M A B (200 * k)
  l : L = A.map Prod.snd ++ B
  m : M ≤ k + 1
  le1 : 1 ≤ least
  leM : least ≤ M
  hd : head ≤ 1 + 16 * k
  up : UpW D
theorem TrI.len {D : DS} {M nxt head least k : Nat} {A : List (Nat × List UInt8)} {B L : List (List UInt8)} (h : TrI D M nxt head least A B L k) : L.length = A.length + B.length ∧ L.length ≤ 16 := by
  have h1 := h.log.nx
  have h2 := h.log.fit
  have h3 := pcnt_len A
  have h4 := pcnt_len (B.map (Prod.mk M))
  rw [List.length_map] at h4
  rw [h.l]
  simp
  omega

set_option maxRecDepth 100000 in
set_option maxHeartbeats 16000000 in
theorem trims_walk (ao : Option Addr) (cc : Nat) (os : List OpW) (w : World) (ho : SlOpW w ao os) :
    Calls Try.prog 9 #[.slice ao os.length cc] w fun e w' => e = .returned (.bool true) ∧ Quiet w w' := by
  have HO := Lib.hid ho
  clear ho
  go_enter Try.func9, Try.ntmps9
  go_wp2_with fail
  refine (wawake w).mono ?_
  rintro e w0 ⟨rfl, hq⟩
  have H0 := Lib.hid ((Own.start w).quiet hq); clear hq
  go_wp2_with fail
  refine (own_new H0.out 16 (by decide) (by decide)).mono ?_
  rintro e w1 ⟨p, rfl, h1⟩
  have hW0 : WalOk (DS.new 16) 0 16 1 1 1 [] [] := WalOk.start (by decide) (by decide) (by decide) (by decide) (by decide) (by decide)
  have hI0 : TrI (DS.new 16) 1 1 1 1 [] [] [] 0 := ⟨⟨hW0, by simp [pcnt], by decide, by simp [DS.new], by simp [DS.new], by simp [DS.new]⟩, rfl, by decide, by decide, by decide, by decide, UpW.new (by decide)⟩
  have hf0 : (DS.new 16).found 0 16 1 1 1 = [] := (LogOk.new (n := 16) (base := 0) (size := 16) (head := 1) (M := 1) (by decide) (by decide) (by decide) (by decide) (by decide) (by decide)).found (by decide) (by decide)
  have HO1 := Lib.hid (own_open h1 0 16 1 1 1 (by decide) (by decide) (by decide) (by decide) (by decide) (by decide) (by decide))
  rw [hf0] at HO1
  have HI0 := Lib.hid hI0
  clear h1 H0 hf0 hW0 hI0
  go_wp2_with fail
  refine HO1.out.mono ?_
  rintro e w2 ⟨q, v, rfl, h2⟩
  obtain ⟨ro, rc, rfl⟩ := RecsR.shape h2.snd
  have H2 : Hid (Own w w2 (PrR q p 1 1 16 1 (DS.new 16) none 0 0 [] [])) := Lib.hid ((h2.swap.snd.datl_nil.row_nil 48 1).ac (by unfold PrR; ac_rfl))
  clear h2 HO1
  go_wp2_with fail
  go_loopw [5, 6, 7, 8, 11, 12, 13] (fun mv ev hv lv av sv i wr => ∃ (k q M nxt hd le : Nat) (D : DS) (A : List (Nat × List UInt8)) (B L : List (List UInt8)) (xo : Option Addr) (xc : Nat) (vs : List Value), k ≤ os.length ∧ k ≤ 60 ∧ lv = .pointer (some ⟨q, 0, none⟩) ∧ av = .slice xo L.length xc ∧ sv = .int .i64 A.length ∧ mv = .int .u32 M ∧ ev = .int .u32 le ∧ hv = .int .u64 hd ∧ i = .int .i64 k ∧ Hid (TrI D M nxt hd le A B L k) ∧ Hid (Own w wr (PrR q p M nxt 16 hd D xo L.length xc vs L))) (fun _ _ _ _ _ _ i _ => os.length - (intOf i).toNat)
  case atStart => exact ⟨0, q, 1, 1, 1, 1, _, [], [], [], none, 0, [], Nat.zero_le _, by omega, rfl, rfl, rfl, rfl, rfl, rfl, rfl, HI0, H2⟩
  case round =>
    clear H2 HI0
    obtain ⟨k, q, M, nxt, hd, le, D, A, B, L, xo, xc, vs, hk, hk2, rfl, rfl, rfl, rfl, rfl, rfl, rfl, HI, HP⟩ := hrel
    obtain ⟨sf, hsf⟩ : ∃ sf, sf = A.length := ⟨_, rfl⟩
    obtain ⟨n, hn⟩ : ∃ n, n = L.length := ⟨_, rfl⟩
    rw [← hn] at HP ⊢
    rw [← hsf]
    have HSF := Lib.hid hsf
    have HN := Lib.hid hn
    have hn64 : n ≤ 16 := by rw [hn]; exact HI.out.len.2
    have hle1 : 1 ≤ le := HI.out.le1
    have hleM : le ≤ M := HI.out.leM
    have hhd1 : 1 ≤ hd := HI.out.log.wal.h0
    have hhdk : hd ≤ 1 + 16 * k := HI.out.hd
    have hhd2 : hd ≤ 961 := by omega
    have hnx2 : nxt ≤ 977 := by have := HI.out.log.fit; omega
    clear hhdk
    have hsn : sf ≤ n := by rw [hn, hsf]; have := HI.out.len.1; omega
    have hM61 : M ≤ 61 := by have := HI.out.m; omega
    have hM1 : 1 ≤ M := Nat.le_trans HI.out.le1 HI.out.leM
    clear hsf hn
    by_cases hin : k < os.length ∧ k < 60
    · obtain ⟨hlt, h60⟩ := hin
      have hltI : (k : Int) < (os.length : Int) := by omega
      have h60I : (k : Int) < 60 := by omega
      have hk0 : (0 : Int) ≤ (k : Int) := by omega
      obtain ⟨g, off, rfl, hx⟩ := HO.out k hlt
      obtain ⟨x, hxe⟩ : ∃ x, x = os.getD k default := ⟨_, rfl⟩
      rw [← hxe] at hx
      clear hxe
      obtain ⟨vb, hvb, hSb, hBl⟩ := hx.b
      obtain ⟨lo, lc, hvl, hSl, hLl, hLn⟩ := hx.l
      obtain ⟨vo, vc, rfl, hvc⟩ := hSb.2
      have hri := hx.ri
      have hrl := hx.rl
      have hon := HP.out.only
      have d0 : wr.cell? ⟨g, off + k * 5, none⟩ = some (.int .i64 x.K) := hon.cellq hx.k
      have d1 : wr.cell? ⟨g, off + k * 5 + 1, none⟩ = some (.int .i64 x.I) := hon.cellq hx.i
      have d2 : wr.cell? ⟨g, off + k * 5 + 2, none⟩ = some (.int .u32 x.D) := hon.cellq hx.d
      have d3 : wr.cell? ⟨g, off + k * 5 + 3, none⟩ = some (.slice vo x.B.length vc) := hon.cellq hvb
      have d4 : wr.cell? ⟨g, off + k * 5 + 4, none⟩ = some (.slice lo x.L.length lc) := hon.cellq hvl
      obtain ⟨xk, xi, xd, xb, xl⟩ := x
      simp only at d0 d1 d2 d3 d4 hSb hBl hSl hLl hLn hri hrl hvc
      have HSB := Lib.hid hSb
      have HBL := Lib.hid hBl
      have HSL := Lib.hid hSl
      have HLL := Lib.hid hLl
      have HLN := Lib.hid hLn
      have HRI := Lib.hid hri
      have HRL := Lib.hid hrl
      have HLT := Lib.hid hlt
      have H60 := Lib.hid h60
      have HVC := Lib.hid hvc
      clear hx hvb hSb hvl hSl hon hBl hLl hLn hvc hri hrl hk hk2 hlt h60
      obtain ⟨bl, hbl⟩ : ∃ bl, bl = xb.length := ⟨_, rfl⟩
      rw [← hbl] at d3 HBL HVC
      have HBN := Lib.hid hbl
      clear hbl
      obtain ⟨op, hop⟩ : ∃ op, op = wr.heap.size := ⟨_, rfl⟩
      have hpl := HP.out.alloc (.cells #[.int .i64 xk, .int .i64 xi, .int .u32 xd, .slice vo bl vc, .slice lo xl.length lc] 51 (0, 0))
      rw [← hop] at hpl
      obtain ⟨w3, hw3⟩ : ∃ w3, w3 = wr.alloc (.cells #[.int .i64 xk, .int .i64 xi, .int .u32 xd, .slice vo bl vc, .slice lo xl.length lc] 51) := ⟨_, rfl⟩
      have HPO : Hid (Own w w3 (Sep (Blk op (.cells #[.int .i64 xk, .int .i64 xi, .int .u32 xd, .slice vo bl vc, .slice lo xl.length lc] 51 (0, 0))) (PrR q p M nxt 16 hd D xo n xc vs L))) := Lib.hid (by rw [hw3]; exact hpl)
      have e0 := blk_cell HPO.out.held 0 rfl
      have e1 := blk_cell HPO.out.held 1 rfl
      have e3 := blk_cell HPO.out.held 3 rfl
      have e4 := blk_cell HPO.out.held 4 rfl
      have HOP := Lib.hid hop
      have HW3 := Lib.hid hw3
      clear hpl hop hw3 HP
      go_upto_region 16 with fail
      rw [← HW3.out, ← HOP.out]
      obtain ⟨hq5, hqe⟩ := modN_spec 6 (by decide) (by decide) xk
      have hqe2 : (wrap64 (xk.tmod 6 + 6)).tmod 6 = (modN 6 xk : Int) := hqe
      obtain ⟨qv, hqv⟩ : ∃ qv : Int, qv = (wrap64 (xk.tmod 6 + 6)).tmod 6 := ⟨_, rfl⟩
      have hkinds : (qv = 0 ∨ qv = 1) ∨ qv = 2 ∨ qv = 3 ∨ (qv = 4 ∨ qv = 5) := by omega
      have HKD := Lib.hid hkinds
      clear d0 d1 d2 d3 d4 hq5 hqe hqe2 hkinds
      go_upto_region 30 with fail
      rw [← hqv]
      clear hqv e0
      rcases HKD.out with hk01 | rfl | rfl | hk45
      · -- Append
        as_aux_lemma =>
          rcases hk01 with rfl | rfl
          all_goals as_aux_lemma =>
            by_cases h300 : 200 < bl
            · have h3I : (200 : Int) < (bl : Int) := by omega
              have HNI : Hid (TrI D M nxt hd le A B L (k + 1)) := Lib.hid ⟨HI.out.log.more (by omega), HI.out.l, by have := HI.out.m; omega, HI.out.le1, HI.out.leM, by have := HI.out.hd; omega, HI.out.up⟩
              have HPN : Hid (Own w w3 (PrR q p M nxt 16 hd D xo L.length xc vs L)) := Lib.hid (by have h5 := HPO.out.snd; rw [HN.out] at h5; exact h5)
              clear HPO HI h300
              go_wp2_with fail
              go_roundw
              case rel => exact ⟨k + 1, q, M, nxt, hd, le, D, A, B, L, xo, xc, vs, HLT.out, H60.out, rfl, by rw [HN.out], by rw [HSF.out], rfl, rfl, rfl, by go_num, HNI, HPN⟩
              case measure => have := HLT.out; simp [intOf]; omega
            · have h3I : ¬ (200 : Int) < (bl : Int) := by omega
              have hq2 : Own w w3 (Sep (WLogR q p 0 16 M hd nxt) (Sep (DiskR p D) (Sep (Blk op (.cells #[.int .i64 xk, .int .i64 xi, .int .u32 xd, .slice vo bl vc, .slice lo xl.length lc] 51 (0, 0))) (Sep (RowV 48 1 (.slice xo n xc) n vs) (Sep (DatL vs L) Emp))))) := HPO.out.ac (by unfold PrR; ac_rfl)
              have hsl : SlC w (.slice vo bl vc) xb := by have := HSB.out.1; rw [← HBN.out] at this; exact this
              have HAP := Lib.hid (own_append_wal hq2 HI.out.log (by have := H60.out; omega) (by decide) (by omega) vo bl vc xb HBN.out HVC.out (hv_arg hsl) (by omega))
              have HS2 := Lib.hid hsl
              have hb300 : bl ≤ 200 := by omega
              have HB3 := Lib.hid hb300
              clear hq2 hsl HPO h300 hb300
              go_wp2_with fail
              refine HAP.out.mono ?_
              clear HAP
              intro e w4 hres
              rcases hres with ⟨rfl, hdn, hL', h4⟩ | ⟨rfl, hdn, hL', h4⟩ | ⟨rfl, h4⟩
              · obtain ⟨D2, hD2⟩ : ∃ x, x = D.app 0 16 M nxt xb (cntN bl) := ⟨_, rfl⟩
                rw [← hD2] at hL' h4
                have UPX : UpW D2 := by rw [hD2]; exact (HI.out.up.app HI.out.log.wal.pos HI.out.log.wal.lies _).1
                have HNI : Hid (TrI D2 M (nxt + cntN bl) hd le A (B ++ [xb]) (L ++ [xb]) (k + 1)) := Lib.hid ⟨hL'.more (by omega), by rw [HI.out.l, List.append_assoc], by have := HI.out.m; omega, HI.out.le1, HI.out.leM, by have := HI.out.hd; omega, UPX⟩
                have HRC := Lib.hid (raw_copy (.slice vo bl vc) xb w4 (HS2.out.keep h4.only) (by have := HB3.out; have := HBN.out; omega))
                have e3' := blk_cell h4.snd.snd.held 3 rfl
                have H4 := Lib.hid h4
                clear hdn hL' hD2 h4 HI e1 e3 e4 UPX
                go_wp2_with fail
                refine HRC.out.mono ?_
                rintro e w5 ⟨cv, rfl, hcw, hco⟩
                obtain ⟨cvo, cvc, hcv⟩ := own_shapeN hcw
                rw [← HBN.out] at hcv
                subst hcv
                have hOB : OwnB (.slice cvo bl cvc) xb w5 (fun k => (Value.slice cvo bl cvc).ownBlock = some k) := ⟨own_base hcw (Nat.zero_le _), fun _ => Iff.rfl⟩
                have h5 := H4.out.fresh hco hOB (fun b hb => (hcw.lt b hb).1)
                have h5q : Own w w5 (Sep (RowV 48 1 (.slice xo n xc) n vs) (Sep (Sep (OwnB (.slice cvo bl cvc) xb) (DatL vs L)) (Sep (WLogR q p 0 16 M hd (nxt + cntN bl)) (Sep (DiskR p D2) (Sep (Blk op (.cells #[.int .i64 xk, .int .i64 xi, .int .u32 xd, .slice vo bl vc, .slice lo xl.length lc] 51 (0, 0))) Emp))))) := h5.ac (by ac_rfl)
                obtain ⟨i0, hi0, hz0, hz1, hz2⟩ := info_parts Try.infoSlB
                have HRW := Lib.hid (h5q.owns.alloc (.cells #[.slice cvo bl cvc] 48))
                have HA0 := Lib.hid ((h5q.alloc (.cells #[.slice cvo bl cvc] 48)).snd)
                clear h5 h5q hOB hcw hco HRC H4 e3'
                go_wp2_with (first | (at_builtin; refine wpList_append_lies _ rfl (.tmp 142) (.tmp 146) 62 rfl 0 48 i0 _ 1 24 Try.underlying62 hi0 hz0 hz1 hz2 rfl (by decide) (.slice xo n xc) n vs rfl HRW.out ⟨w5.heap.size, 0, none⟩ 1 1 [.slice cvo bl cvc] rfl rfl (World.news_of_block (heap_alloc_new w5 _)) (by intro u hu; rw [List.mem_singleton.1 hu]; rfl) Nat.zero_lt_one (by unfold maxLen; omega) (by omega) (Nat.zero_le _) (w5.heap.size + 1) (by simp) ?_))
                intro g7 yc2 w7 hown hgrow hat hlt7
                have h8 := HA0.out.appended hown hgrow (hat.imp (fun h => h) (fun h => by simp; omega))
                have h9 : Own w w7 (Sep (Blk op (.cells #[.int .i64 xk, .int .i64 xi, .int .u32 xd, .slice vo bl vc, .slice lo xl.length lc] 51 (0, 0))) (Sep (Sep (OwnB (.slice cvo bl cvc) xb) (DatL vs L)) (Sep (WLogR q p 0 16 M hd (nxt + cntN bl)) (Sep (DiskR p D2) (Sep (RowV 48 1 (.slice (some ⟨g7, 0, none⟩) (n + 1) yc2) (n + 1) (vs ++ [.slice cvo bl cvc])) Emp))))) := h8.ac (by ac_rfl)
                have HPN : Hid (Own w w7 (PrR q p M (nxt + cntN bl) 16 hd D2 (some ⟨g7, 0, none⟩) (L ++ [xb]).length yc2 (vs ++ [.slice cvo bl cvc]) (L ++ [xb]))) := Lib.hid (by
                  have h10 := h9.snd.imp fun F hF => hF.imp (fun A hA => DatL.push hA) (fun _ h => h)
                  have h11 := h10.ac (J := PrR q p M (nxt + cntN bl) 16 hd D2 (some ⟨g7, 0, none⟩) (n + 1) yc2 (vs ++ [.slice cvo bl cvc]) (L ++ [xb])) (by unfold PrR; ac_rfl)
                  rw [HN.out] at h11
                  rw [List.length_append]
                  exact h11)
                clear hown hgrow hat hlt7 h8 h9 HA0 HRW hi0 hz0 hz1 hz2
                go_wp2_with fail
                go_roundw
                case rel => exact ⟨k + 1, q, M, nxt + cntN bl, hd, le, D2, A, B ++ [xb], L ++ [xb], some ⟨g7, 0, none⟩, yc2, vs ++ [.slice cvo bl cvc], HLT.out, H60.out, rfl, by rw [List.length_append, HN.out]; rfl, by rw [HSF.out], rfl, rfl, rfl, by go_num, HNI, HPN⟩
                case measure => have := HLT.out; simp [intOf]; omega
              · have := (HI.out.up.app (M := M) (nxt := nxt) (xs := xb) HI.out.log.wal.pos HI.out.log.wal.lies (cntN bl)).1.d
                rw [hdn] at this
                cases this
              · have HNI : Hid (TrI D M nxt hd le A B L (k + 1)) := Lib.hid ⟨HI.out.log.more (by omega), HI.out.l, by have := HI.out.m; omega, HI.out.le1, HI.out.leM, by have := HI.out.hd; omega, HI.out.up⟩
                have HPN : Hid (Own w w4 (PrR q p M nxt 16 hd D xo L.length xc vs L)) := Lib.hid (by
                  have h5 := (h4.ac (J := Sep (Blk op (.cells #[.int .i64 xk, .int .i64 xi, .int .u32 xd, .slice vo bl vc, .slice lo xl.length lc] 51 (0, 0))) (PrR q p M nxt 16 hd D xo n xc vs L)) (by unfold PrR; ac_rfl)).snd
                  rw [HN.out] at h5
                  exact h5)
                clear h4 HI e1 e3 e4
                go_wp2_with fail
                go_roundw
                case rel => exact ⟨k + 1, q, M, nxt, hd, le, D, A, B, L, xo, xc, vs, HLT.out, H60.out, rfl, by rw [HN.out], by rw [HSF.out], rfl, rfl, rfl, by go_num, HNI, HPN⟩
                case measure => have := HLT.out; simp [intOf]; omega
      · -- Sync
        as_aux_lemma =>
          have hsy := own_sync (HPO.out.ac (J := Sep (DiskR p D) (Sep (WLogR q p 0 16 M hd nxt) (Sep (RowV 48 1 (.slice xo n xc) n vs) (Sep (DatL vs L) (Sep (Blk op (.cells #[.int .i64 xk, .int .i64 xi, .int .u32 xd, .slice vo bl vc, .slice lo xl.length lc] 51 (0, 0))) Emp))))) (by unfold PrR; ac_rfl)) (by have := HI.out.log.w; have := H60.out; omega) (by have := HI.out.log.sy; have := H60.out; omega)
          have HSY := Lib.hid hsy
          obtain ⟨f1, f2, f3⟩ := sync_few D
          have HSFW : Hid (D.sync.W.length ≤ D.W.length ∧ D.sync.wr = D.wr ∧ D.sync.sy ≤ D.sy + 1) := Lib.hid ⟨f1, f2, f3⟩
          clear hsy HPO f1 f2 f3 e1 e3 e4
          have hdd : D.down = false := HI.out.up.d
          have e2 : syE D = 0 := by simp [syE, hdd]
          rw [e2] at HSY
          have HNI : Hid (TrI D.sync M nxt hd le (A ++ B.map (Prod.mk M)) [] L (k + 1)) := Lib.hid (by
            have hl := HI.out.log
            have hf := HSFW.out
            refine ⟨⟨hl.wal.sync hdd, ?_, hl.fit, by have := hl.w; omega, by have := hl.wr; omega, by have := hl.sy; omega⟩, ?_, by have := HI.out.m; omega, HI.out.le1, HI.out.leM, by have := HI.out.hd; omega, HI.out.up.sync⟩
            · rw [hl.nx, pcnt_append]; simp [pcnt]; omega
            · rw [HI.out.l]; simp [Function.comp_def])
          have HSN : Hid (L.length = (A ++ B.map (Prod.mk M)).length) := Lib.hid (by have := HI.out.len.1; simp; omega)
          clear e2 hdd HI HSFW
          go_wp2_with fail
          refine HSY.out.mono ?_
          rintro e w4 ⟨rfl, h4⟩
          have HPN : Hid (Own w w4 (PrR q p M nxt 16 hd D.sync xo L.length xc vs L)) := Lib.hid (by
            have h5 := (h4.ac (J := Sep (Blk op (.cells #[.int .i64 xk, .int .i64 xi, .int .u32 xd, .slice vo bl vc, .slice lo xl.length lc] 51 (0, 0))) (PrR q p M nxt 16 hd D.sync xo n xc vs L)) (by unfold PrR; ac_rfl)).snd
            rw [HN.out] at h5
            exact h5)
          clear h4 HSY
          go_wp2_with fail
          go_roundw
          case rel => exact ⟨k + 1, q, M, nxt, hd, le, D.sync, A ++ B.map (Prod.mk M), [], L, xo, xc, vs, HLT.out, H60.out, rfl, by rw [HN.out], by rw [← HSN.out, HN.out], rfl, rfl, rfl, by go_num, HNI, HPN⟩
          case measure => have := HLT.out; simp [intOf]; omega
      · -- Sync, and a new head
        as_aux_lemma =>
          have hsy := own_sync (HPO.out.ac (J := Sep (DiskR p D) (Sep (WLogR q p 0 16 M hd nxt) (Sep (RowV 48 1 (.slice xo n xc) n vs) (Sep (DatL vs L) (Sep (Blk op (.cells #[.int .i64 xk, .int .i64 xi, .int .u32 xd, .slice vo bl vc, .slice lo xl.length lc] 51 (0, 0))) Emp))))) (by unfold PrR; ac_rfl)) (by have := HI.out.log.w; have := H60.out; omega) (by have := HI.out.log.sy; have := H60.out; omega)
          have HSY := Lib.hid hsy
          have hdd : D.down = false := HI.out.up.d
          have e2 : syE D = 0 := by simp [syE, hdd]
          rw [e2] at HSY
          have HNI : Hid (TrI D.sync M nxt nxt M [] [] [] (k + 1)) := Lib.hid (by
            have hl := HI.out.log
            have hf := sync_few D
            have hnn : nxt = hd + pcnt (A ++ B.map (Prod.mk M)) := by rw [hl.nx, pcnt_append]; omega
            have hw := hl.wal.trim hdd (by rw [← hnn]; omega)
            rw [← hnn] at hw
            exact ⟨⟨hw, by simp [pcnt], by omega, by have := hl.w; omega, by have := hl.wr; omega, by have := hl.sy; omega⟩, rfl, by have := HI.out.m; omega, hM1, Nat.le_refl _, by have := hl.fit; have := HI.out.hd; omega, HI.out.up.sync⟩)
          have HHN : Hid (hd ≤ nxt) := Lib.hid (by have := HI.out.log.nx; omega)
          clear hsy HPO e1 e3 e4 e2 hdd HI
          go_wp2_with fail
          refine HSY.out.mono ?_
          rintro e w4 ⟨rfl, h4⟩
          have h5 : Own w w4 (Sep (WLogR q p 0 16 M hd nxt) (Sep (DiskR p D.sync) (Sep (RowV 48 1 (.slice xo n xc) n vs) (Sep (DatL vs L) (Sep (Blk op (.cells #[.int .i64 xk, .int .i64 xi, .int .u32 xd, .slice vo bl vc, .slice lo xl.length lc] 51 (0, 0))) Emp))))) := h4.ac (by ac_rfl)
          have HNE := Lib.hid (wnext_any h5.held)
          have htr := wtrim_any h5 nxt
          rw [if_neg (by have := HHN.out; omega), if_neg (by have := HHN.out; omega)] at htr
          have HTR := Lib.hid htr
          clear h4 h5 HSY htr
          go_wp2_with fail
          refine HNE.out.mono ?_
          rintro e w' ⟨rfl, rfl⟩
          go_wp2_with fail
          refine HTR.out.mono ?_
          rintro e w5 ⟨rfl, h6⟩
          have HRO : Hid (Calls Try.prog 22 #[.pointer (some ⟨q, 0, none⟩)] w5 fun e w' => e = .returned (.int .i64 16) ∧ Own w w' (Sep (WLogR q p 0 16 M nxt nxt) (Sep (DiskR p D.sync) (Sep (RowV 48 1 (.slice xo n xc) n vs) (Sep (DatL vs L) (Sep (Blk op (.cells #[.int .i64 xk, .int .i64 xi, .int .u32 xd, .slice vo bl vc, .slice lo xl.length lc] 51 (0, 0))) Emp)))))) := Lib.hid (own_room h6 (Nat.le_refl _) (by omega) (by decide) 16 (by omega))
          clear h6 HTR HNE
          go_wp2_with fail
          refine HRO.out.mono ?_
          rintro e w6 ⟨rfl, h7⟩
          have HPN : Hid (Own w w6 (PrR q p M nxt 16 nxt D.sync none 0 0 [] [])) := Lib.hid (((((h7.ac (J := Sep (Sep (RowV 48 1 (.slice xo n xc) n vs) (Sep (DatL vs L) (Blk op (.cells #[.int .i64 xk, .int .i64 xi, .int .u32 xd, .slice vo bl vc, .slice lo xl.length lc] 51 (0, 0))))) (Sep (WLogR q p 0 16 M nxt nxt) (Sep (DiskR p D.sync) Emp))) (by ac_rfl)).snd).datl_nil).row_nil 48 1).ac (by unfold PrR; ac_rfl))
          clear h7 HRO
          go_wp2_with fail
          go_roundw
          case rel => exact ⟨k + 1, q, M, nxt, nxt, M, D.sync, [], [], [], none, 0, [], HLT.out, H60.out, rfl, rfl, rfl, rfl, rfl, rfl, by go_num, HNI, HPN⟩
          case measure => have := HLT.out; simp [intOf]; omega
      · -- Crash
        as_aux_lemma =>
          have hll : xl.length * 8 ≤ 140737488355328 := by have := HLL.out; omega
          have e4b : (w3.alloc (.cells #[] 3)).cell? ⟨op, 4, none⟩ = some (.slice lo xl.length lc) := blk_cell (HPO.out.quiet ((Only.refl _ w3).alloc (.cells #[] 3))).held 4 rfl
          have hcr := HI.out.log.wal.crash xl (mount := M + 1) (by omega) (by omega)
          obtain ⟨B1, B2, hB, hfound, hW'⟩ := hcr
          obtain ⟨A', hA'⟩ : ∃ A', A' = A ++ B1.map (Prod.mk M) := ⟨_, rfl⟩
          rw [← hA'] at hfound hW'
          obtain ⟨rs, hrs⟩ : ∃ rs, rs = recsAt hd A' := ⟨_, rfl⟩
          rw [← hrs] at hfound
          obtain ⟨m, hm⟩ : ∃ m, m = rs.length := ⟨_, rfl⟩
          have hmA : m = A'.length := by rw [hm, hrs, recsAt_length]
          have hml : m = A.length + B1.length := by rw [hmA, hA']; simp
          have hll2 := HI.out.len.1
          have hBl : B.length = B1.length + B2.length := by rw [hB]; simp
          have hmn : m ≤ n := by rw [HN.out]; omega
          have hsm : sf ≤ m := by rw [HSF.out]; omega
          have hLt : L.take m = A'.map Prod.snd := by
            rw [HI.out.l, hB, hml, hA', List.map_append, ← List.append_assoc, List.take_append_of_le_length (by simp), List.take_of_length_le (by simp)]
            simp [Function.comp_def]
          have HLD : Hid (∀ j, j < m → (rs.getD j (0, 0, [])).2.2 = L.getD j []) := Lib.hid fun j hj => by
            rw [hrs, recsAt_dat A' hd j (by omega), ← hLt, List.getD_eq_getElem?_getD, List.getElem?_take, if_pos hj, ← List.getD_eq_getElem?_getD]
          obtain ⟨f1, f2, f3⟩ := crash_few D xl
          obtain ⟨M2, hM2⟩ : ∃ M2, M2 = M + 1 := ⟨_, rfl⟩
          rw [← hM2] at hW' hfound
          have hnp : nextOf hd rs = hd + pcnt A' := by rw [hrs, nextOf_recsAt]
          have hpb : pcnt (B1.map (Prod.mk M)) ≤ pcnt (B.map (Prod.mk M)) := by rw [hB, List.map_append, pcnt_append]; omega
          have HNI : Hid (TrI (D.crash xl) M2 (nextOf hd rs) hd le A' [] (L.take m) (k + 1)) := Lib.hid (by
            have hl := HI.out.log
            refine ⟨⟨hW', by rw [hnp]; simp [pcnt], by rw [hnp, hA', pcnt_append]; have := hl.nx; have := hl.fit; omega, by rw [f1]; simp, by rw [f2]; have := hl.wr; omega, by rw [f3]; have := hl.sy; omega⟩, by rw [hLt]; simp, by have := HI.out.m; omega, hle1, by omega, by have := HI.out.hd; omega, HI.out.up.crash xl hW'⟩)
          have hdn64 : 16 ≤ (D.crash xl).n := by have := hW'.lies; simpa using this
          have HDN := Lib.hid hdn64
          have HFD := Lib.hid hfound
          have HMM := Lib.hid hm
          have HMA := Lib.hid hmA
          have HBW : Hid (D.W.length ≤ 1000000) := Lib.hid (by have := HI.out.log.w; have := H60.out; omega)
          have HLN2 : Hid (m ≤ L.length) := Lib.hid (by have := HN.out; omega)
          have HCO : Hid (Coh D) := Lib.hid HI.out.log.wal.coh
          clear hB hfound hW' hA' hrs hm hmA hml hll2 hBl hLt f1 f2 f3 hnp hpb hdn64 HI
          rcases hk45 with rfl | rfl
          all_goals as_aux_lemma =>
            go_wp2_with (at_builtin; refine wp_freshI _ lo lc xl (HSL.out.keep HPO.out.only) HLN.out hll rfl (.tmp 67) (.tmp 69) rfl rfl rfl ?_; intro co cap w5 HF5)
            have hX : Own w w5 (Sep (DiskR p D) (Sep (IntR co xl) (Sep (WLogR q p 0 16 M hd nxt) (Sep (RowV 48 1 (.slice xo n xc) n vs) (Sep (DatL vs L) (Sep (Blk op (.cells #[.int .i64 xk, .int .i64 xi, .int .u32 xd, .slice vo bl vc, .slice lo xl.length lc] 51 (0, 0))) Emp)))))) := (fresh_own HPO.out HF5.out).ac (by unfold PrR; ac_rfl)
            have HX := Lib.hid hX
            clear hX HF5 hll HPO e4b
            go_wp2_with fail
            refine (own_crash HX.out co cap xl (fun F B hJ hd _ _ => IntR.apart hJ hd) HRL.out HBW.out).mono ?_
            rintro e w6 ⟨rfl, h6⟩
            have hw32 : IntKind.u32.wrap ((M : Int) + 1) = (M2 : Int) := by rw [IntKind.wrap_u32]; omega
            have HOP2 := Lib.hid (own_open h6 0 16 le M2 hd (by decide) (by decide) (by have := HDN.out; omega) (by omega) (by omega) (by omega) (by omega))
            rw [HFD.out] at HOP2
            clear h6 HX
            go_wp2_with fail
            rw [show (M : Int) + 1 = (M2 : Int) by omega]
            refine HOP2.out.mono ?_
            rintro e w7 ⟨q2, v2, rfl, h7⟩
            obtain ⟨po, pc, hv2⟩ := RecsR.shape h7.snd
            rw [← HMM.out] at hv2
            subst hv2
            have H7 : Hid (Own w w7 (Sep (RecsR 68 (.slice po m pc) rs) (Sep (RowV 48 1 (.slice xo n xc) n vs) (Sep (DatL vs L) (Sep (WLogR q2 p 0 16 M2 hd (nextOf hd rs)) (Sep (DiskR p (D.crash xl)) (Sep (IntR co xl) (Sep (WLogR q p 0 16 M hd nxt) (Sep (Blk op (.cells #[.int .i64 xk, .int .i64 xi, .int .u32 xd, .slice vo bl vc, .slice lo xl.length lc] 51 (0, 0))) Emp))))))))) := Lib.hid (h7.ac (by ac_rfl))
            clear h7 HOP2 hw32 e1 e3 e4
            have i1 : ¬ (m : Int) < (sf : Int) := by omega
            have i2 : ¬ (n : Int) < (m : Int) := by omega
            go_wp2_with fail
            clear i1 i2
            go_loopw [20] (fun i wr => ∃ j : Nat, j ≤ m ∧ i = .int .i64 j ∧ Hid (Own w wr (Sep (RecsR 68 (.slice po m pc) rs) (Sep (RowV 48 1 (.slice xo n xc) n vs) (Sep (DatL vs L) (Sep (WLogR q2 p 0 16 M2 hd (nextOf hd rs)) (Sep (DiskR p (D.crash xl)) (Sep (IntR co xl) (Sep (WLogR q p 0 16 M hd nxt) (Sep (Blk op (.cells #[.int .i64 xk, .int .i64 xi, .int .u32 xd, .slice vo bl vc, .slice lo xl.length lc] 51 (0, 0))) Emp)))))))))) (fun i _ => m - (intOf i).toNat)
            case atStart => exact ⟨0, Nat.zero_le _, rfl, H7⟩
            case round =>
              clear H7
              obtain ⟨j, hj, rfl, HQ⟩ := hrel
              by_cases hlt : j < m
              · have hltI : (j : Int) < (m : Int) := by omega
                have hj0 : (0 : Int) ≤ (j : Int) := by omega
                have hjn : (j : Int) < (n : Int) := by omega
                obtain ⟨g1, a1, rfl, d0, d1, d2, s1⟩ := rec_cells HMM.out HQ.out (k := j) (by have := HMM.out; omega)
                obtain ⟨u, hu, s2⟩ := DatL.sl HQ.out.snd.snd (j := j) (by have := HLN2.out; omega)
                obtain ⟨g2, rfl, x2, _⟩ := rowV_cell HQ.out.snd.owns hu
                rw [HLD.out j hlt] at s1
                have HCB := Lib.hid (quiet_bytes a1 u _ wr s1 s2)
                have HLTJ := Lib.hid hlt
                have HQD := Lib.hid (fun nq => HQ.out.drewN nq)
                clear s1 s2 hu hlt hj HQ
                go_wp2_with fail
                go_quiet ((go_at_call 37; exact Calls.quiet_of (HCB.out _)))
                have HQN := Lib.hid (HQD.out nq)
                clear d0 d1 d2 x2 HQD HCB
                go_wp2_with fail
                go_roundw
                case rel => exact ⟨j + 1, HLTJ.out, by go_num, HQN⟩
                case measure => have := HLTJ.out; simp [intOf]; omega
              · have hltI : ¬ (j : Int) < (m : Int) := by omega
                have hmI : (m : Int) ≤ (xc : Int) := by
                  rcases HQ.out.snd.owns.2 with ⟨e9, _⟩ | ⟨g9, cp9, cur9, e9, _, _, h9, _⟩
                  · simp at e9; omega
                  · simp at e9; omega
                have hm0 : (0 : Int) ≤ (m : Int) := by omega
                have htl : (L.take m).length = m := by have := HLN2.out; simp; omega
                have HTL := Lib.hid htl
                have HPN : Hid (Own w wr (PrR q2 p M2 (nextOf hd rs) 16 hd (D.crash xl) xo m xc (vs.take m) (L.take m))) := Lib.hid (by
                  have h9 : Own w wr (Sep (Sep (RecsR 68 (.slice po m pc) rs) (Sep (IntR co xl) (Sep (WLogR q p 0 16 M hd nxt) (Blk op (.cells #[.int .i64 xk, .int .i64 xi, .int .u32 xd, .slice vo bl vc, .slice lo xl.length lc] 51 (0, 0)))))) (Sep (Sep (RowV 48 1 (.slice xo n xc) n vs) (DatL vs L)) (Sep (WLogR q2 p 0 16 M2 hd (nextOf hd rs)) (Sep (DiskR p (D.crash xl)) Emp)))) := HQ.out.ac (by ac_rfl)
                  have h10 : Own w wr (Sep (Sep (RowV 48 1 (.slice xo m xc) m (vs.take m)) (DatL (vs.take m) (L.take m))) (Sep (WLogR q2 p 0 16 M2 hd (nextOf hd rs)) (Sep (DiskR p (D.crash xl)) Emp))) := h9.snd.imp fun F hF => hF.imp (fun A hA => hA.imp (fun A2 hA2 => ⟨by have := rowV_take hA2.1 (m := m) (by omega); rwa [Nat.mul_one] at this, fun k9 => (hA2.2 k9).trans (by cases xo <;> rfl)⟩) (fun _ h => DatL.take h m)) (fun _ h => h)
                  exact h10.ac (by unfold PrR; ac_rfl))
                clear HQ hlt hj
                rcases xo with _ | xa
                all_goals as_aux_lemma =>
                  go_wp2_with fail
                  go_roundw
                  case rel => exact ⟨k + 1, q2, M2, nextOf hd rs, hd, le, D.crash xl, A', [], L.take m, _, xc, vs.take m, HLT.out, H60.out, rfl, by rw [HTL.out], by rw [HMA.out], by rw [hM2]; rfl, rfl, rfl, by go_num, HNI, by rw [HTL.out]; exact HPN⟩
                  case measure => have := HLT.out; simp [intOf]; omega
    · have hcases : (¬ (k : Int) < (os.length : Int)) ∨ ((k : Int) < (os.length : Int) ∧ ¬ (k : Int) < 60) := by omega
      have HF := Lib.hid HP.out.only
      clear HP HI hk hk2 hin
      rcases hcases with h1 | ⟨h1, h2⟩
      all_goals
        go_wp2_with fail
        go_ret
        exact ⟨rfl, HF.out⟩

end Go.Proofs.Ytoldkhdobdlmfaa
