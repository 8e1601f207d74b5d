/-
  The document's own rows: take. (Written by wip/tools/genrowr8.py.)
-/
import Derived.Test.YtgkcflindenboaaDoorRowR7
namespace Go.Proofs.YtgkcflindenboaaDoor
open Go Go.RowKit
set_option linter.unusedVariables false
set_option linter.unusedSimpArgs false
set_option maxRecDepth 100000

theorem Own.emp' {w0 w : World} {I : Res} (h : Own w0 w I) : Own w0 w (Sep I Emp) := by
  obtain ⟨F, h1, h2, h3⟩ := h
  exact ⟨F, ⟨F, fun _ => False, h1, fun _ h => h, fun _ _ h => h, fun k => by simp⟩, h2, h3⟩
theorem Own.rac {w W : World} {I I' : Res} {R : Res} (h : Own w W (Sep I R)) (e : I = I') : Own w W (Sep I' R) := e ▸ h
abbrev VRow (lo : Option Addr) (k lc : Nat) (vs : List Vv) : Res := RowV 42 3 (.slice lo k lc) k (vcells vs)
abbrev IRow (jo : Option Addr) (k tc : Nat) (ats : List Nat) : Res := RowV 3 1 (.slice jo k tc) k (icells ats)
/-- Where the cut around one value's bytes stands. -/
def OneCutR (w : World) (K : Int) (bs : List UInt8) (a vb pi : Nat) (bv : Value) (J : Res) (wx : World) : Prop :=
  ∃ (v : Vv) (a' : Nat) (bad' : Bool), OneV K bs a v a' bad' ∧ Own w wx (Sep (Sep (Blk vb (.cells #[.int .i64 v.K, .int .u64 v.N, .string v.S] 42 (0, 0))) J) (RInR pi bv bs a' bad'))
theorem Own.b3 {w W : World} {vb : Nat} {a0 a1 a2 : Value} {t : TypeId} {J R : Res} [Stab J] [Stab R] (h : Own w W (Sep (Sep (Blk vb (.cells #[a0, a1, a2] t (0, 0))) J) R)) (u : Value) :
    Own w (W.setCell ⟨vb, 0, none⟩ u) (Sep (Sep (Blk vb (.cells #[u, a1, a2] t (0, 0))) J) R) ∧ Own w (W.setCell ⟨vb, 1, none⟩ u) (Sep (Sep (Blk vb (.cells #[a0, u, a2] t (0, 0))) J) R) ∧ Own w (W.setCell ⟨vb, 2, none⟩ u) (Sep (Sep (Blk vb (.cells #[a0, a1, u] t (0, 0))) J) R) := by
  have h0 := (h.assoc.bset 0 u).assoc'
  have h1 := (h.assoc.bset 1 u).assoc'
  have h2 := (h.assoc.bset 2 u).assoc'
  exact ⟨by simpa using h0, by simpa using h1, by simpa using h2⟩

theorem take_cells {w W : World} {g o vb pi a2 : Nat} {c : Cv} {v : Vv} {bv : Value} {bs : List UInt8} {bad : Bool} {I : Res} [Stab I] (hc : CvAt W g o c) (h : Own w W (Sep (Sep (Blk vb (.cells #[.int .i64 v.K, .int .u64 v.N, .string v.S] 42 (0, 0))) I) (RInR pi bv bs a2 bad))) :
    W.cell? ⟨pi, 2, none⟩ = some (.bool bad) ∧ W.cell? ⟨g, o, none⟩ = some (.string c.nm) ∧ W.cell? ⟨g, o + 1, none⟩ = some (.int .i64 c.K) ∧ W.cell? ⟨g, o + 2, none⟩ = some (.int .i64 c.M) ∧ W.cell? ⟨g, o + 3, none⟩ = some (.bool c.nu) ∧ W.cell? ⟨g, o + 4, none⟩ = some (.int .i64 c.dK) ∧ W.cell? ⟨g, o + 5, none⟩ = some (.int .u64 c.dN) ∧ W.cell? ⟨g, o + 6, none⟩ = some (.string c.dS) ∧
      W.cell? ⟨vb, 0, none⟩ = some (.int .i64 v.K) ∧ W.cell? ⟨vb, 1, none⟩ = some (.int .u64 v.N) ∧ W.cell? ⟨vb, 2, none⟩ = some (.string v.S) := by
  obtain ⟨x0, x1, x2, _, _, _⟩ := blk_cells3 h.assoc.held
  exact ⟨h.rin.cell2, hc.c0, hc.c1, hc.c2, hc.c3, hc.c4, hc.c5, hc.c6, x0, x1, x2⟩

set_option maxHeartbeats 16000000 in
theorem rtake8 (co : Option Addr) (n cc : Nat) (cs : List Cv) (s : ByteArray) (w : World) (hc : SlCs w co cs) (hn : n = cs.length) (hcs : ∀ c ∈ cs, c.E = 0) (h24 : cs.length ≤ 24) (hs : s.size ≤ 140737488351232) :
    Calls Tryd.prog 38 #[.slice co n cc, .string s] w fun e w' => RTakePost cs s.toList w e w' := by
  have HC := Lib.hid hc
  have HN := Lib.hid hn
  have HCS := Lib.hid hcs
  have hn24 : n ≤ 24 := by omega
  have hcv := Lib.run_convert_string_bytes (P := Tryd.prog) w 9 49 5 s (u := .string) Tryd.underlying9 Tryd.underlying49 Tryd.underlying5
  have h0 := Own.rin_start w s hs
  obtain ⟨bs, hbs⟩ : ∃ bs, bs = s.toList := ⟨_, rfl⟩
  have hsz := Lib.bytesWorld_size w 5 s
  obtain ⟨W1, hW1⟩ : ∃ W1, W1 = Lib.bytesWorld w 5 s := ⟨_, rfl⟩
  obtain ⟨z, hz⟩ : ∃ z, z = s.size := ⟨_, rfl⟩
  rw [← hbs, ← hW1, ← hz] at h0
  rw [← hW1, ← hz] at hcv
  rw [← hW1] at hsz
  rw [← hbs]
  have HZ : Hid (bs.length = z) := Lib.hid (by rw [hbs, hz, ba_size])
  have H0 : Hid (Own w (W1.alloc (.cells #[.slice (some ⟨w.heap.size, 0, none⟩) z (grownCap w z 0 5), .int .i64 0, .bool false] 80)) (Sep Emp (RInR (w.heap.size + 1) (.slice (some ⟨w.heap.size, 0, none⟩) z (grownCap w z 0 5)) bs 0 false))) := Lib.hid (by
    obtain ⟨F, k1, k2, k3⟩ := h0
    exact ⟨F, ⟨fun _ => False, F, fun _ h => h, k1, fun _ h => h.elim, fun k => by simp⟩, k2, k3⟩)
  rw [← hsz] at H0
  have HSZ := Lib.hid hsz
  clear hc hn hcs h24 hs h0 hbs hW1 hz hsz
  go_enter Tryd.func38, Tryd.ntmps38
  go_upto_region 2 with fail
  clear hcv
  generalize World.alloc W1 _ = w0 at *
  obtain ⟨pi, hpi⟩ : ∃ pi, W1.heap.size = pi := ⟨_, rfl⟩
  rw [hpi] at H0
  (try rw [hpi])
  generalize (.slice (some ⟨w.heap.size, 0, none⟩) z (grownCap w z 0 5) : Value) = bv at *
  go_wp2_with fail
  (try rw [hpi])
  clear hpi HSZ
  refine (in_num pi 1 bv bs 0 false w0 H0.out.rin (by decide)).mono ?_
  rintro e w1 ⟨x, a1, bad1, rfl, hst, hg, hb⟩
  have H1 := Lib.hid (H0.out.instep hst)
  have HG := Lib.hid hg
  have HX : Hid (x < 256) := Lib.hid (by
    cases bad1 with
    | true => rw [(hb rfl).2]; decide
    | false =>
      rw [(hg rfl).2.2.2]
      have := numB_lt 1 ((bs.drop 0).take 1) (by simp; have := (hg rfl).2.1; omega)
      omega)
  have HB0 : Hid (bad1 = true → x = 0) := Lib.hid (fun e => (hb e).2)
  have HNO : Hid (∀ (q : Prop), (x < 1 ∨ n < x) → (∀ b r, bs = b :: r → 1 ≤ b.toNat → b.toNat ≤ cs.length → q)) := Lib.hid (fun q hx b r e h1 h2 => by
    exfalso
    subst e
    cases bad1 with
    | true =>
      rcases (hb rfl).1 with h | h
      · cases h
      · simp at h
    | false =>
      have h3 := (hg rfl).2.2.2
      simp [numB] at h3
      have := HN.out
      omega)
  have hx2 : x < 256 := HX.out
  have hw : IntKind.i64.wrap (x : Int) = (x : Int) := IntWalk.i64_in _ (by omega)
  clear hst hg hb H0
  by_cases hx0 : x < 1
  · have hxI : (x : Int) < 1 := by omega
    have HE := Lib.hid (fun b r e h1 h2 => HNO.out (takeL (cs.take b.toNat) r = none) (.inl hx0) b r e h1 h2)
    clear hx0
    go_wp2_with fail
    refine bodyPost_ret (v := .tuple #[.slice none 0 0, .slice none 0 0, .bool false]) (by simp [results, Tryd.results38, go_sem]) rfl ?_
    exact rtake_none HE.out H1.out.only
  have hxI : ¬ (x : Int) < 1 := by omega
  by_cases hxn : n < x
  · have hxJ : (n : Int) < (x : Int) := by omega
    have HE := Lib.hid (fun b r e h1 h2 => HNO.out (takeL (cs.take b.toNat) r = none) (.inr hxn) b r e h1 h2)
    clear hx0 hxn
    go_wp2_with fail
    refine bodyPost_ret (v := .tuple #[.slice none 0 0, .slice none 0 0, .bool false]) (by simp [results, Tryd.results38, go_sem]) rfl ?_
    exact rtake_none HE.out H1.out.only
  have hxJ : ¬ (n : Int) < (x : Int) := by omega
  obtain rfl : bad1 = false := by
    cases bad1 with
    | false => rfl
    | true => exact absurd (HB0.out rfl) (by omega)
  obtain ⟨_, hg1, rfl, hg2⟩ := HG.out rfl
  obtain ⟨b, r, hbr⟩ : ∃ b r, bs = b :: r := by
    cases bs with
    | nil => simp at hg1
    | cons b r => exact ⟨b, r, rfl⟩
  have hbx : b.toNat = x := by rw [hg2, hbr]; simp [numB]
  have HBR : Hid (bs = b :: r ∧ b.toNat = x ∧ 1 ≤ x ∧ x ≤ cs.length) := Lib.hid ⟨hbr, hbx, by omega, by have := HN.out; omega⟩
  have HRL : Hid (bs.length = 1 + r.length ∧ bs.drop 1 = r) := Lib.hid ⟨by rw [hbr]; simp; omega, by rw [hbr]; rfl⟩
  have HCT : Hid (SlCs w co (cs.take x) ∧ (cs.take x).length = x ∧ ∀ c ∈ cs.take x, c.E = 0) := Lib.hid ⟨HC.out.take x, by rw [List.length_take]; have := HBR.out; omega, fun c hc => HCS.out c (List.mem_of_mem_take hc)⟩
  have HNONE : Hid (takeL (cs.take x) r = none → ∀ b r, bs = b :: r → 1 ≤ b.toNat → b.toNat ≤ cs.length → takeL (cs.take b.toNat) r = none) := Lib.hid (fun h b2 r2 e _ _ => by
    have e2 := HBR.out.1
    rw [e] at e2
    simp only [List.cons.injEq] at e2
    obtain ⟨rfl, rfl⟩ := e2
    rw [HBR.out.2.1]
    exact h)
  have HYES : Hid (∀ vs ats, TakeS (cs.take x) r vs ats x [] → ∃ b r, bs = b :: r ∧ 1 ≤ b.toNat ∧ b.toNat ≤ cs.length ∧ TakeS (cs.take b.toNat) r vs ats b.toNat []) := Lib.hid (fun vs ats h => ⟨b, r, HBR.out.1, by rw [HBR.out.2.1]; exact HBR.out.2.2.1, by rw [HBR.out.2.1]; exact HBR.out.2.2.2, by rw [HBR.out.2.1]; exact h⟩)
  obtain ⟨ct, hct⟩ : ∃ ct, cs.take x = ct := ⟨_, rfl⟩
  rw [hct] at HCT HNONE HYES
  have HQ0 : Hid (Own w w1 (Sep (Sep (VRow none 0 0 []) (IRow none 0 0 [])) (RInR pi bv bs 1 false))) := Lib.hid (by
    have h1 := (H1.out.row_nil 3 1).row_nil 42 3
    exact h1.ac (by
      have e : Sep Emp (RInR pi bv bs 1 false) = Sep (RInR pi bv bs 1 false) Emp := by ac_rfl
      rw [e]
      have e2 : Sep (RInR pi bv bs 1 false) Emp = RInR pi bv bs 1 false := by funext w F; apply propext; constructor
                                                                              · rintro ⟨A, B, h1, h2, _, h4⟩
                                                                                have : F = A := funext fun k => propext ⟨fun h => ((h4 k).1 h).resolve_right (h2 k), fun h => (h4 k).2 (.inl h)⟩
                                                                                rw [this]; exact h1
                                                                              · intro h
                                                                                exact ⟨F, fun _ => False, h, fun _ h => h, fun _ _ h => h, fun k => by simp⟩
      rw [e2]
      show Sep (VRow none 0 0 []) (Sep (IRow none 0 0 []) (RInR pi bv bs 1 false)) = _
      ac_rfl))
  have hd1 : decide (n < x) = false := by simpa using hxn
  have hd2 : decide ((x : Int) < 1) = false := by simpa using hxI
  have hx24 : x ≤ 24 := by omega
  clear hct hg1 hg2 hbr hbx hx0 hxn H1 HG HB0 HNO HCS HX HBR hx2
  go_wp2_with fail
  go_loopw [9, 10, 11, 12] (fun lv tv i _ wr => ∃ (k : Nat) (lo jo : Option Addr) (lc tc : Nat) (vs : List Vv) (ats : List Nat) (a : Nat), k ≤ x ∧ i = .int .i64 (k : Int) ∧ lv = .slice lo k lc ∧ tv = .slice jo k tc ∧ Hid (TakeS ct r vs ats k (bs.drop a)) ∧ Hid (a ≤ bs.length) ∧ Hid (Own w wr (Sep (Sep (VRow lo k lc vs) (IRow jo k tc ats)) (RInR pi bv bs a false)))) (fun _ _ i _ _ => x - (intOf i).toNat)
  case atStart => exact ⟨0, none, none, 0, 0, [], [], 1, Nat.zero_le _, rfl, rfl, rfl, Lib.hid (by rw [HRL.out.2]; exact TakeS.start _ _), Lib.hid (by rw [HRL.out.1]; omega), HQ0⟩
  case round =>
    clear HQ0
    obtain ⟨k, lo, jo, lc, tc, vs, ats, a, hk, rfl, rfl, rfl, HI, HA, HO⟩ := hrel
    by_cases hlt : k < x
    · have HKL : Hid (k < ct.length) := Lib.hid (by rw [HCT.out.2.1]; exact hlt)
      obtain ⟨g, off, rfl, hca0⟩ := HCT.out.1 k HKL.out
      obtain ⟨c, hce⟩ : ∃ c, ct.getD k default = c := ⟨_, rfl⟩
      rw [hce] at hca0
      have HCA := Lib.hid hca0
      have HCE := Lib.hid hce
      have HCZ : Hid (1 ≤ c.K ∧ c.K ≤ 5) := Lib.hid (by
        have := col_zero (HCT.out.2.2 c (by rw [← hce]; have := HKL.out; simp [this]))
        exact ⟨this.1, this.2.1⟩)
      have hltI : (k : Int) < (x : Int) := by omega
      have hk0 : (0 : Int) ≤ (k : Int) := by omega
      have hknI : (k : Int) < (n : Int) := by omega
      have hi1 := HO.out.rin.cell1
      clear hce hca0
      -- the place where the value begins
      obtain ⟨i0, hi, hz0, hz1, hz2⟩ := info_parts Tryd.infoIntR
      have HIR := Lib.hid (HO.out.ac (by ac_rfl : _ = Sep (IRow jo k tc ats) (Sep (VRow lo k lc vs) (RInR pi bv bs a false))))
      have HRW := Lib.hid (HIR.out.owns.alloc (.cells #[.int .i64 (a : Int)] 3))
      have HAL := Lib.hid ((HIR.out.alloc (.cells #[.int .i64 (a : Int)] 3)).snd)
      have HIC := Lib.hid (icells_snoc ats a)
      have HIN : Hid ((icells ats).length = k) := Lib.hid (by rw [icells_len, HI.out.len])
      have hk24 : k ≤ 24 := by omega
      go_upto_region 11 with (first | (at_builtin; refine wpList_append_lies _ rfl (.tmp 33) (.tmp 38) 24 rfl 0 3 i0 (.int .i64 0) 1 8 Tryd.underlying24 hi hz0 hz1 hz2 rfl (by decide) (.slice jo k tc) k (icells ats) rfl HRW.out ⟨wr.heap.size, 0, none⟩ 1 1 [.int .i64 (a : Int)] rfl rfl (World.news_of_block (heap_alloc_new wr _)) ?_ Nat.zero_lt_one ?_ ?_ (Nat.zero_le _) (wr.heap.size + 1) ?_ ?_))
      · exact icells_one [a]
      · unfold maxLen; omega
      · omega
      · simp
      intro g2 tc2 w2 hown hgrow hat hlt5
      have h5 := HAL.out.appended hown hgrow (hat.imp (fun h => h) (fun h => by simp; omega))
      rw [← HIC.out] at h5
      have h6 : Own w w2 (Sep (IRow (some ⟨g2, 0, none⟩) (k + 1) tc2 (ats ++ [a])) (Sep (VRow lo k lc vs) (RInR pi bv bs a false))) := h5
      have H2 := Lib.hid (h6.alloc (.cells #[.int .i64 0, .int .u64 0, .string ⟨#[]⟩] 42))
      clear hown hgrow hat hlt5 h5 h6 HAL HRW HIR HIC hi hz0 hz1 hz2 hi1 HO HIN
      go_upto_region 12 with fail
      have H3 : Hid (Own w (w2.alloc (.cells #[.int .i64 0, .int .u64 0, .string ⟨#[]⟩] 42)) (Sep (Sep (Blk w2.heap.size (.cells #[.int .i64 0, .int .u64 0, .string ⟨#[]⟩] 42 (0, 0))) (Sep (VRow lo k lc vs) (IRow (some ⟨g2, 0, none⟩) (k + 1) tc2 (ats ++ [a])))) (RInR pi bv bs a false))) := Lib.hid (H2.out.ac (by ac_rfl))
      generalize w2.alloc (.cells #[.int .i64 0, .int .u64 0, .string ⟨#[]⟩] 42) = w3 at *
      generalize w2.heap.size = vb at *
      clear H2
      go_wp2_with fail
      refine (in_flag pi bv bs a false w3 H3.out.rin).mono ?_
      rintro e w4 ⟨fl, a1, bad1, rfl, hst, hg, hb⟩
      have H4 := Lib.hid (H3.out.instep hst)
      have HG := Lib.hid hg
      have HB := Lib.hid hb
      clear hst hg hb H3
      go_upto_if 43 with fail
      go_cut [] (fun wx => OneCutR w c.K bs a vb pi bv (Sep (VRow lo k lc vs) (IRow (some ⟨g2, 0, none⟩) (k + 1) tc2 (ats ++ [a]))) wx)
      case first =>
        cases fl with
        | true =>
          have HM : Hid (OneCutR w c.K bs a vb pi bv (Sep (VRow lo k lc vs) (IRow (some ⟨g2, 0, none⟩) (k + 1) tc2 (ats ++ [a]))) w4) := Lib.hid ⟨⟨0, 0, ⟨#[]⟩⟩, a1, bad1, OneV.null c.K (fun e => ⟨(HG.out e).2.1, (HG.out e).2.2.1, by simpa using (HG.out e).2.2.2⟩) (fun e => by have := (HB.out e).2; cases this), H4.out⟩
          clear HG HB H4
          go_wp2_with fail
          go_meet
          exact HM.out
        | false =>
          have HF : Hid (OneF bs a a1 bad1) := Lib.hid ⟨fun e => ⟨(HG.out e).2.1, (HG.out e).2.2.1, by simpa using (HG.out e).2.2.2⟩, fun e => (HB.out e).1.resolve_left (by decide)⟩
          have y1 := (HCA.out.keep H4.out.only).c1
          obtain ⟨x0, x1, x2, e0, e1, e2⟩ := blk_cells3 H4.out.assoc.held
          have H5 := Lib.hid (H4.out.b3 (.int .i64 c.K)).1
          clear HG HB
          go_upto_region 14 with fail
          generalize w4.setCell _ _ = w5 at *
          clear y1 x0 x1 x2 e0 e1 e2 H4
          obtain ⟨x0, x1, x2, e0, e1, e2⟩ := blk_cells3 H5.out.assoc.held
          obtain ⟨K, hK⟩ : ∃ K, c.K = K := ⟨_, rfl⟩
          rw [hK] at x0 H5 ⊢
          have hk5 : K = 1 ∨ K = 2 ∨ K = 3 ∨ K = 4 ∨ K = 5 := by have := HCZ.out; omega
          have HKK := Lib.hid hK
          clear hK
          rcases hk5 with rfl | rfl | rfl | rfl | rfl
          · go_wp2_with fail
            refine (in_num pi 8 bv bs a1 bad1 w5 H5.out.rin (by decide)).mono ?_
            rintro e w6 ⟨q, a2, bad2, rfl, hst, hg, hb⟩
            have H6 := Lib.hid (H5.out.instep hst)
            have HV : Hid (OneV 1 bs a ⟨1, (q : Int), ⟨#[]⟩⟩ a2 bad2) := Lib.hid (HF.out.num (.inl rfl) hg hb)
            clear hst hg hb H5 x0 x1 x2 e0 e1 e2
            obtain ⟨x0, x1, x2, e0, e1, e2⟩ := blk_cells3 H6.out.assoc.held
            have H7 := Lib.hid (H6.out.b3 (.int .u64 (q : Int))).2.1
            go_wp2_with fail
            go_meet
            rw [HKK.out]
            exact ⟨_, a2, bad2, HV.out, H7.out⟩
          · go_wp2_with fail
            refine (in_num pi 8 bv bs a1 bad1 w5 H5.out.rin (by decide)).mono ?_
            rintro e w6 ⟨q, a2, bad2, rfl, hst, hg, hb⟩
            have H6 := Lib.hid (H5.out.instep hst)
            have HV : Hid (OneV 2 bs a ⟨2, (q : Int), ⟨#[]⟩⟩ a2 bad2) := Lib.hid (HF.out.num (.inr rfl) hg hb)
            clear hst hg hb H5 x0 x1 x2 e0 e1 e2
            obtain ⟨x0, x1, x2, e0, e1, e2⟩ := blk_cells3 H6.out.assoc.held
            have H7 := Lib.hid (H6.out.b3 (.int .u64 (q : Int))).2.1
            go_wp2_with fail
            go_meet
            rw [HKK.out]
            exact ⟨_, a2, bad2, HV.out, H7.out⟩
          · go_wp2_with fail
            refine (in_num pi 1 bv bs a1 bad1 w5 H5.out.rin (by decide)).mono ?_
            rintro e w6 ⟨q, a2, bad2, rfl, hst, hg, hb⟩
            have H6 := Lib.hid (H5.out.instep hst)
            have HV : Hid (OneV 3 bs a ⟨3, (q : Int), ⟨#[]⟩⟩ a2 bad2) := Lib.hid (HF.out.bool hg hb)
            clear hst hg hb H5 x0 x1 x2 e0 e1 e2
            obtain ⟨x0, x1, x2, e0, e1, e2⟩ := blk_cells3 H6.out.assoc.held
            have H7 := Lib.hid (H6.out.b3 (.int .u64 (q : Int))).2.1
            go_wp2_with fail
            go_meet
            rw [HKK.out]
            exact ⟨_, a2, bad2, HV.out, H7.out⟩
          · go_wp2_with fail
            refine (in_text pi bv bs a1 bad1 w5 H5.out.rin).mono ?_
            rintro e w6 ⟨q, a2, bad2, rfl, hst, hg, hb⟩
            have H6 := Lib.hid (H5.out.instep hst)
            have HV : Hid (OneV 4 bs a ⟨4, 0, ⟨q.toArray⟩⟩ a2 bad2) := Lib.hid (HF.out.text (by omega) (by omega) hg hb)
            clear hst hg hb H5 x0 x1 x2 e0 e1 e2
            obtain ⟨x0, x1, x2, e0, e1, e2⟩ := blk_cells3 H6.out.assoc.held
            have H7 := Lib.hid (H6.out.b3 (.string ⟨q.toArray⟩)).2.2
            go_wp2_with fail
            go_meet
            rw [HKK.out]
            exact ⟨_, a2, bad2, HV.out, H7.out⟩
          · go_wp2_with fail
            refine (in_text pi bv bs a1 bad1 w5 H5.out.rin).mono ?_
            rintro e w6 ⟨q, a2, bad2, rfl, hst, hg, hb⟩
            have H6 := Lib.hid (H5.out.instep hst)
            have HV : Hid (OneV 5 bs a ⟨5, 0, ⟨q.toArray⟩⟩ a2 bad2) := Lib.hid (HF.out.text (by omega) (by omega) hg hb)
            clear hst hg hb H5 x0 x1 x2 e0 e1 e2
            obtain ⟨x0, x1, x2, e0, e1, e2⟩ := blk_cells3 H6.out.assoc.held
            have H7 := Lib.hid (H6.out.b3 (.string ⟨q.toArray⟩)).2.2
            go_wp2_with fail
            go_meet
            rw [HKK.out]
            exact ⟨_, a2, bad2, HV.out, H7.out⟩
      case rest =>
        obtain ⟨v, a2, bad2, hV, ho⟩ := hcut
        obtain ⟨w7, hw7⟩ : ∃ W, W = wc := ⟨wc, rfl⟩
        subst hw7
        have HV := Lib.hid hV
        have H7 := Lib.hid ho
        clear hV ho H4 HG HB
        have HSF := Lib.hid (fun W (I : Res) (_ : Stab I) (h : Own w W (Sep (Sep (Blk vb (.cells #[.int .i64 v.K, .int .u64 v.N, .string v.S] 42 (0, 0))) I) (RInR pi bv bs a2 false))) => take_cells (HCA.out.keep h.only) h)
        cases bad2 with
        | true =>
          have HE := Lib.hid (HNONE.out (HI.out.fell HKL.out (by rw [HCE.out]; exact HV.out.n rfl)))
          go_upto_region 21 with fail
          have H7d := Lib.hid H7.out.drew
          clear HSF
          refine wp_region_held_drew (S := (fun w' => w'.cell? ⟨pi, 2, none⟩ = some (.bool true))) (by kernel_rfl) ?_ (fun hHeld => ?_)
          · exact H7d.out.rin.cell2
          refine wpAnyH_take (i := 0) (oi := ?_) (v := ?_) ?_ (by kernel_rfl) (by kernel_rfl) (by kernel_rfl) ?_ (Or.inl ⟨?_, ?_⟩) (by assumption) ?_
          rotate_left 2
          · (simp only [List.getElem?_toArray, List.getElem?_cons_zero]; rfl)
          · exact fun _ _ _ h => h
          · rfl
          · (intro w hSw; (try dsimp only at hSw); go_simp <;> with_reducible rfl)
          (try simp only [Act.put, List.setIfInBounds_toArray, List.set_cons_zero, List.set_cons_succ])
          refine wpAnyH_take (i := 1) (oi := ?_) (v := ?_) ?_ (by kernel_rfl) (by kernel_rfl) (by kernel_rfl) ?_ (Or.inl ⟨?_, ?_⟩) (by assumption) ?_
          rotate_left 2
          · (simp only [List.getElem?_toArray, List.getElem?_cons_succ, List.getElem?_cons_zero]; rfl)
          · exact fun _ _ _ h => h
          · rfl
          · (intro w hSw; (try dsimp only at hSw); go_simp <;> with_reducible rfl)
          (try simp only [Act.put, List.setIfInBounds_toArray, List.set_cons_zero, List.set_cons_succ])
          refine wpAnyH_take (i := 2) (oi := ?_) (v := ?_) ?_ (by kernel_rfl) (by kernel_rfl) (by kernel_rfl) ?_ (Or.inl ⟨?_, ?_⟩) (by assumption) ?_
          rotate_left 2
          · (simp only [List.getElem?_toArray, List.getElem?_cons_succ, List.getElem?_cons_zero]; rfl)
          · exact fun _ _ _ h => h
          · rfl
          · (intro w hSw; (try dsimp only at hSw); go_simp <;> with_reducible rfl)
          (try simp only [Act.put, List.setIfInBounds_toArray, List.set_cons_zero, List.set_cons_succ])
          refine wpAnyH_take (i := 3) (oi := ?_) (v := ?_) ?_ (by kernel_rfl) (by kernel_rfl) (by kernel_rfl) ?_ (Or.inl ⟨?_, ?_⟩) (by assumption) ?_
          rotate_left 2
          · (simp only [List.getElem?_toArray, List.getElem?_cons_succ, List.getElem?_cons_zero]; rfl)
          · exact fun _ _ _ h => h
          · rfl
          · (intro w hSw; (try dsimp only at hSw); go_simp <;> with_reducible rfl)
          (try simp only [Act.put, List.setIfInBounds_toArray, List.set_cons_zero, List.set_cons_succ])
          refine wpAnyH_take (i := 4) (oi := ?_) (v := ?_) ?_ (by kernel_rfl) (by kernel_rfl) (by kernel_rfl) ?_ (Or.inl ⟨?_, ?_⟩) (by assumption) ?_
          rotate_left 2
          · (simp only [List.getElem?_toArray, List.getElem?_cons_succ, List.getElem?_cons_zero]; rfl)
          · exact fun _ _ _ h => h
          · rfl
          · (intro w hSw; (try dsimp only at hSw); go_simp <;> with_reducible rfl)
          (try simp only [Act.put, List.setIfInBounds_toArray, List.set_cons_zero, List.set_cons_succ])
          refine wpAnyH_take (i := 5) (oi := ?_) (v := undef) ?_ (by kernel_rfl) (by kernel_rfl) (by kernel_rfl) ?_ (Or.inr ⟨?_, rfl⟩) (by assumption) ?_
          rotate_left 1
          · (simp only [List.getElem?_toArray, List.getElem?_cons_succ, List.getElem?_cons_zero]; rfl)
          · exact fun _ _ _ h => h
          · rfl
          (try simp only [Act.put, List.setIfInBounds_toArray, List.set_cons_zero, List.set_cons_succ])
          refine wpAnyH_take (i := 6) (oi := ?_) (v := undef) ?_ (by kernel_rfl) (by kernel_rfl) (by kernel_rfl) ?_ (Or.inr ⟨?_, rfl⟩) (by assumption) ?_
          rotate_left 1
          · (simp only [List.getElem?_toArray, List.getElem?_cons_succ, List.getElem?_cons_zero]; rfl)
          · exact fun _ _ _ h => h
          · rfl
          (try simp only [Act.put, List.setIfInBounds_toArray, List.set_cons_zero, List.set_cons_succ])
          refine wpAnyH_take (i := 7) (oi := ?_) (v := undef) ?_ (by kernel_rfl) (by kernel_rfl) (by kernel_rfl) ?_ (Or.inr ⟨?_, rfl⟩) (by assumption) ?_
          rotate_left 1
          · (simp only [List.getElem?_toArray, List.getElem?_cons_succ, List.getElem?_cons_zero]; rfl)
          · exact fun _ _ _ h => h
          · rfl
          (try simp only [Act.put, List.setIfInBounds_toArray, List.set_cons_zero, List.set_cons_succ])
          refine wpAnyH_take (i := 8) (oi := ?_) (v := undef) ?_ (by kernel_rfl) (by kernel_rfl) (by kernel_rfl) ?_ (Or.inr ⟨?_, rfl⟩) (by assumption) ?_
          rotate_left 1
          · (simp only [List.getElem?_toArray, List.getElem?_cons_succ, List.getElem?_cons_zero]; rfl)
          · exact fun _ _ _ h => h
          · rfl
          (try simp only [Act.put, List.setIfInBounds_toArray, List.set_cons_zero, List.set_cons_succ])
          refine wpAnyH_take (i := 9) (oi := ?_) (v := undef) ?_ (by kernel_rfl) (by kernel_rfl) (by kernel_rfl) ?_ (Or.inr ⟨?_, rfl⟩) (by assumption) ?_
          rotate_left 1
          · (simp only [List.getElem?_toArray, List.getElem?_cons_succ, List.getElem?_cons_zero]; rfl)
          · exact fun _ _ _ h => h
          · rfl
          (try simp only [Act.put, List.setIfInBounds_toArray, List.set_cons_zero, List.set_cons_succ])
          refine wpAnyH_take (i := 10) (oi := ?_) (v := undef) ?_ (by kernel_rfl) (by kernel_rfl) (by kernel_rfl) ?_ (Or.inr ⟨?_, rfl⟩) (by assumption) ?_
          rotate_left 1
          · (simp only [List.getElem?_toArray, List.getElem?_cons_succ, List.getElem?_cons_zero]; rfl)
          · exact fun _ _ _ h => h
          · rfl
          (try simp only [Act.put, List.setIfInBounds_toArray, List.set_cons_zero, List.set_cons_succ])
          refine wpAnyH_take (i := 11) (oi := ?_) (v := undef) ?_ (by kernel_rfl) (by kernel_rfl) (by kernel_rfl) ?_ (Or.inr ⟨?_, rfl⟩) (by assumption) ?_
          rotate_left 1
          · (simp only [List.getElem?_toArray, List.getElem?_cons_succ, List.getElem?_cons_zero]; rfl)
          · exact fun _ _ _ h => h
          · rfl
          (try simp only [Act.put, List.setIfInBounds_toArray, List.set_cons_zero, List.set_cons_succ])
          refine wpAnyH_take (i := 12) (oi := ?_) (v := ?_) ?_ (by kernel_rfl) (by kernel_rfl) (by kernel_rfl) ?_ (Or.inl ⟨?_, ?_⟩) (by assumption) ?_
          rotate_left 2
          · (simp only [List.getElem?_toArray, List.getElem?_cons_succ, List.getElem?_cons_zero]; rfl)
          · exact fun _ _ _ h => h
          · rfl
          · (intro w hSw; (try dsimp only at hSw); go_simp <;> with_reducible rfl)
          (try simp only [Act.put, List.setIfInBounds_toArray, List.set_cons_zero, List.set_cons_succ])
          refine wpAnyH_done (by kernel_rfl) ?_ _
          go_wp2_with fail
          refine bodyPost_ret (v := .tuple #[.slice none 0 0, .slice none 0 0, .bool false]) (by simp [results, Tryd.results38, go_sem]) rfl ?_
          exact rtake_none HE.out H7d.out.only
        | false =>
          obtain ⟨er, her⟩ : ∃ er, c.fit v.vl = er := ⟨_, rfl⟩
          have HER := Lib.hid her
          have HFU := Lib.hid (fun W => (rfits_any (nm := c.nm) (cK := c.K) (cM := c.M) (nu := c.nu) (dK := c.dK) (dN := c.dN) (dS := c.dS) (K := v.K) (s := v.S) HV.out.u W))
          simp only [show fitsE c.K c.M c.nu (vl v.K v.N v.S) = c.fit v.vl from rfl, her] at HFU
          clear her
          go_upto_region 21 with fail
          have H7d := Lib.hid H7.out.drew
          clear H7
          refine wp_region_held_drew (S := (fun w' => w'.cell? ⟨pi, 2, none⟩ = some (.bool false) ∧ w'.cell? ⟨g, off + k * 7, none⟩ = some (.string c.nm) ∧ w'.cell? ⟨g, off + k * 7 + 1, none⟩ = some (.int .i64 c.K) ∧ w'.cell? ⟨g, off + k * 7 + 2, none⟩ = some (.int .i64 c.M) ∧ w'.cell? ⟨g, off + k * 7 + 3, none⟩ = some (.bool c.nu) ∧ w'.cell? ⟨g, off + k * 7 + 4, none⟩ = some (.int .i64 c.dK) ∧ w'.cell? ⟨g, off + k * 7 + 5, none⟩ = some (.int .u64 c.dN) ∧ w'.cell? ⟨g, off + k * 7 + 6, none⟩ = some (.string c.dS) ∧ w'.cell? ⟨vb, 0, none⟩ = some (.int .i64 v.K) ∧ w'.cell? ⟨vb, 1, none⟩ = some (.int .u64 v.N) ∧ w'.cell? ⟨vb, 2, none⟩ = some (.string v.S))) (by kernel_rfl) ?_ (fun hHeld => ?_)
          · exact HSF.out _ _ inferInstance H7d.out
          refine wpAnyH_take (i := 0) (oi := ?_) (v := ?_) ?_ (by kernel_rfl) (by kernel_rfl) (by kernel_rfl) ?_ (Or.inl ⟨?_, ?_⟩) (by assumption) ?_
          rotate_left 2
          · (simp only [List.getElem?_toArray, List.getElem?_cons_zero]; rfl)
          · exact fun _ _ _ h => h
          · rfl
          · (intro w hSw; (try dsimp only at hSw); go_simp <;> with_reducible rfl)
          (try simp only [Act.put, List.setIfInBounds_toArray, List.set_cons_zero, List.set_cons_succ])
          refine wpAnyH_take (i := 1) (oi := ?_) (v := ?_) ?_ (by kernel_rfl) (by kernel_rfl) (by kernel_rfl) ?_ (Or.inl ⟨?_, ?_⟩) (by assumption) ?_
          rotate_left 2
          · (simp only [List.getElem?_toArray, List.getElem?_cons_succ, List.getElem?_cons_zero]; rfl)
          · exact fun _ _ _ h => h
          · rfl
          · (intro w hSw; (try dsimp only at hSw); go_simp <;> with_reducible rfl)
          (try simp only [Act.put, List.setIfInBounds_toArray, List.set_cons_zero, List.set_cons_succ])
          refine wpAnyH_take (i := 2) (oi := ?_) (v := ?_) ?_ (by kernel_rfl) (by kernel_rfl) (by kernel_rfl) ?_ (Or.inl ⟨?_, ?_⟩) (by assumption) ?_
          rotate_left 2
          · (simp only [List.getElem?_toArray, List.getElem?_cons_succ, List.getElem?_cons_zero]; rfl)
          · exact fun _ _ _ h => h
          · rfl
          · (intro w hSw; (try dsimp only at hSw); go_simp <;> with_reducible rfl)
          (try simp only [Act.put, List.setIfInBounds_toArray, List.set_cons_zero, List.set_cons_succ])
          refine wpAnyH_take (i := 3) (oi := ?_) (v := ?_) ?_ (by kernel_rfl) (by kernel_rfl) (by kernel_rfl) ?_ (Or.inl ⟨?_, ?_⟩) (by assumption) ?_
          rotate_left 2
          · (simp only [List.getElem?_toArray, List.getElem?_cons_succ, List.getElem?_cons_zero]; rfl)
          · exact fun _ _ _ h => h
          · rfl
          · (intro w hSw; (try dsimp only at hSw); go_simp <;> with_reducible rfl)
          (try simp only [Act.put, List.setIfInBounds_toArray, List.set_cons_zero, List.set_cons_succ])
          refine wpAnyH_take (i := 4) (oi := ?_) (v := ?_) ?_ (by kernel_rfl) (by kernel_rfl) (by kernel_rfl) ?_ (Or.inl ⟨?_, ?_⟩) (by assumption) ?_
          rotate_left 2
          · (simp only [List.getElem?_toArray, List.getElem?_cons_succ, List.getElem?_cons_zero]; rfl)
          · exact fun _ _ _ h => h
          · rfl
          · (intro w hSw; (try dsimp only at hSw); go_simp <;> with_reducible rfl)
          (try simp only [Act.put, List.setIfInBounds_toArray, List.set_cons_zero, List.set_cons_succ])
          refine wpAnyH_take (i := 5) (oi := ?_) (v := ?_) ?_ (by kernel_rfl) (by kernel_rfl) (by kernel_rfl) ?_ (Or.inl ⟨?_, ?_⟩) (by assumption) ?_
          rotate_left 2
          · (simp only [List.getElem?_toArray, List.getElem?_cons_succ, List.getElem?_cons_zero]; rfl)
          · exact fun _ _ _ h => h
          · rfl
          · (intro w hSw; (try dsimp only at hSw); go_simp <;> with_reducible rfl)
          (try simp only [Act.put, List.setIfInBounds_toArray, List.set_cons_zero, List.set_cons_succ])
          refine wpAnyH_take (i := 6) (oi := ?_) (v := ?_) ?_ (by kernel_rfl) (by kernel_rfl) (by kernel_rfl) ?_ (Or.inl ⟨?_, ?_⟩) (by assumption) ?_
          rotate_left 2
          · (simp only [List.getElem?_toArray, List.getElem?_cons_succ, List.getElem?_cons_zero]; rfl)
          · exact fun _ _ _ h => h
          · rfl
          · (intro w hSw; (try dsimp only at hSw); go_simp <;> with_reducible rfl)
          (try simp only [Act.put, List.setIfInBounds_toArray, List.set_cons_zero, List.set_cons_succ])
          refine wpAnyH_take (i := 7) (oi := ?_) (v := ?_) ?_ (by kernel_rfl) (by kernel_rfl) (by kernel_rfl) ?_ (Or.inl ⟨?_, ?_⟩) (by assumption) ?_
          rotate_left 2
          · (simp only [List.getElem?_toArray, List.getElem?_cons_succ, List.getElem?_cons_zero]; rfl)
          · exact fun _ _ _ h => h
          · rfl
          · (intro w hSw; (try dsimp only at hSw); go_simp <;> with_reducible rfl)
          (try simp only [Act.put, List.setIfInBounds_toArray, List.set_cons_zero, List.set_cons_succ])
          refine wpAnyH_take (i := 8) (oi := ?_) (v := ?_) ?_ (by kernel_rfl) (by kernel_rfl) (by kernel_rfl) ?_ (Or.inl ⟨?_, ?_⟩) (by assumption) ?_
          rotate_left 2
          · (simp only [List.getElem?_toArray, List.getElem?_cons_succ, List.getElem?_cons_zero]; rfl)
          · exact fun _ _ _ h => h
          · rfl
          · (intro w hSw; (try dsimp only at hSw); go_simp <;> with_reducible rfl)
          (try simp only [Act.put, List.setIfInBounds_toArray, List.set_cons_zero, List.set_cons_succ])
          refine wpAnyH_take (i := 9) (oi := ?_) (v := ?_) ?_ (by kernel_rfl) (by kernel_rfl) (by kernel_rfl) ?_ (Or.inl ⟨?_, ?_⟩) (by assumption) ?_
          rotate_left 2
          · (simp only [List.getElem?_toArray, List.getElem?_cons_succ, List.getElem?_cons_zero]; rfl)
          · exact fun _ _ _ h => h
          · rfl
          · (intro w hSw; (try dsimp only at hSw); go_simp <;> with_reducible rfl)
          (try simp only [Act.put, List.setIfInBounds_toArray, List.set_cons_zero, List.set_cons_succ])
          refine wpAnyH_ready (rs := [10]) (by kernel_rfl) (by simp) (AllReadyH.cons (o := ?o10_1) ?h10_1 (fun K hK => ?s10_1) AllReadyH.nil)
          case h10_1 => (simp only [List.getElem?_toArray, List.getElem?_cons_succ, List.getElem?_cons_zero]; rfl)
          case' s10_1 =>
            (go_simp; refine (HFU.out _).mono ?_; rintro e w8 ⟨rfl, hb8⟩; have H8 := Lib.hid (H7d.out.quiet (below_quiet hb8)); clear hb8 H7d HFU)
            refine hK.out _ _ ?_ (fun hHeld => ?_)
          · exact HSF.out _ _ inferInstance H8.out
          clear hK K
          (try simp only [Act.put, List.setIfInBounds_toArray, List.set_cons_zero, List.set_cons_succ])
          refine wpAnyH_take (i := 11) (oi := ?_) (v := ?_) ?_ (by kernel_rfl) (by kernel_rfl) (by kernel_rfl) ?_ (Or.inl ⟨?_, ?_⟩) (by assumption) ?_
          rotate_left 2
          · (simp only [List.getElem?_toArray, List.getElem?_cons_succ, List.getElem?_cons_zero]; rfl)
          · exact fun _ _ _ h => h
          · rfl
          · (intro w hSw; (try dsimp only at hSw); go_simp <;> with_reducible rfl)
          (try simp only [Act.put, List.setIfInBounds_toArray, List.set_cons_zero, List.set_cons_succ])
          refine wpAnyH_take (i := 12) (oi := ?_) (v := ?_) ?_ (by kernel_rfl) (by kernel_rfl) (by kernel_rfl) ?_ (Or.inl ⟨?_, ?_⟩) (by assumption) ?_
          rotate_left 2
          · (simp only [List.getElem?_toArray, List.getElem?_cons_succ, List.getElem?_cons_zero]; rfl)
          · exact fun _ _ _ h => h
          · rfl
          · (intro w hSw; (try dsimp only at hSw); go_simp <;> with_reducible rfl)
          (try simp only [Act.put, List.setIfInBounds_toArray, List.set_cons_zero, List.set_cons_succ])
          refine wpAnyH_done (by kernel_rfl) ?_ _
          by_cases h0 : er = 0
          · subst h0
            have HNX : Hid (TakeS ct r (vs ++ [v]) (ats ++ [a]) (k + 1) (bs.drop a2)) := Lib.hid (HI.out.next HKL.out HV.out.u (by rw [HCE.out]; exact (HV.out.g rfl).1) (by rw [HCE.out]; exact HER.out) (by rw [List.length_drop]; have := HA.out; have := HRL.out.1; omega))
            obtain ⟨x0, x1, x2, _, _, _⟩ := blk_cells3 H8.out.assoc.held
            have hbs := fun w => run_buildSlice_one (P := Tryd.prog) w 22 42 _ 3 Tryd.underlying22 Tryd.infoVal rfl (by decide) (by decide) #[.int .i64 v.K, .int .u64 v.N, .string v.S] rfl
            obtain ⟨i0, hi0, hz0, hz1, hz2⟩ := info_parts Tryd.infoVal3
            have H9 := Lib.hid (H8.out.ac (by ac_rfl : _ = Sep (VRow lo k lc vs) (Sep (IRow (some ⟨g2, 0, none⟩) (k + 1) tc2 (ats ++ [a])) (Sep (Blk vb (.cells #[.int .i64 v.K, .int .u64 v.N, .string v.S] 42 (0, 0))) (RInR pi bv bs a2 false)))))
            have HRW := Lib.hid (H9.out.owns.alloc (.cells #[.int .i64 v.K, .int .u64 v.N, .string v.S] 42))
            have HAL := Lib.hid ((H9.out.alloc (.cells #[.int .i64 v.K, .int .u64 v.N, .string v.S] 42)).snd)
            have HVC := Lib.hid (vcells_snoc vs v)
            have HVN := Lib.hid (vcells_length vs)
            have HVK := Lib.hid HI.out.rd.len
            have HA2 := Lib.hid (HV.out.g rfl).2
            clear H9 H8 HSF
            go_wp2_with (first | (at_builtin; refine wpList_append_lies _ rfl (.tmp 79) (.tmp 81) 22 rfl 0 42 i0 _ 3 32 Tryd.underlying22 hi0 hz0 hz1 hz2 rfl (by decide) (.slice lo k lc) k (vcells vs) rfl HRW.out ⟨w8.heap.size, 0, none⟩ 1 1 [.int .i64 v.K, .int .u64 v.N, .string v.S] rfl rfl (World.news_of_block (heap_alloc_new w8 _)) ?_ Nat.zero_lt_one ?_ ?_ (Nat.zero_le _) (w8.heap.size + 1) ?_ ?_))
            · exact vcells_one [v]
            · unfold maxLen; omega
            · omega
            · simp
            intro g3 cap3 w9 hown hgrow hat hlt5
            have h5 := HAL.out.appended hown hgrow (hat.imp (fun h => h) (fun h => by simp; omega))
            rw [← HVC.out] at h5
            have h6 : Own w w9 (Sep (VRow (some ⟨g3, 0, none⟩) (k + 1) cap3 (vs ++ [v])) (Sep (IRow (some ⟨g2, 0, none⟩) (k + 1) tc2 (ats ++ [a])) (Sep (Blk vb (.cells #[.int .i64 v.K, .int .u64 v.N, .string v.S] 42 (0, 0))) (RInR pi bv bs a2 false)))) := h5
            have H10 : Hid (Own w w9 (Sep (Sep (VRow (some ⟨g3, 0, none⟩) (k + 1) cap3 (vs ++ [v])) (IRow (some ⟨g2, 0, none⟩) (k + 1) tc2 (ats ++ [a]))) (RInR pi bv bs a2 false))) := Lib.hid (h6.ac (by ac_rfl : _ = Sep (Blk vb (.cells #[.int .i64 v.K, .int .u64 v.N, .string v.S] 42 (0, 0))) (Sep (Sep (VRow (some ⟨g3, 0, none⟩) (k + 1) cap3 (vs ++ [v])) (IRow (some ⟨g2, 0, none⟩) (k + 1) tc2 (ats ++ [a]))) (RInR pi bv bs a2 false)))).snd
            clear hown hgrow hat hlt5 h5 h6 HAL HRW hi0 hz0 hz1 hz2 hbs x0 x1 x2
            go_wp2_with fail
            go_roundw
            case rel => exact ⟨k + 1, some ⟨g3, 0, none⟩, some ⟨g2, 0, none⟩, cap3, tc2, vs ++ [v], ats ++ [a], a2, by omega, by go_num, rfl, rfl, HNX, HA2, H10⟩
            case measure => simp [intOf]; omega
          · have hne : (er != 0) = true := by simpa using h0
            have HE := Lib.hid (HNONE.out (HI.out.unfit HKL.out (by rw [HCE.out]; exact (HV.out.g rfl).1) (by rw [HCE.out, HER.out]; exact h0)))
            clear h0 HSF
            go_wp2_with fail
            refine bodyPost_ret (v := .tuple #[.slice none 0 0, .slice none 0 0, .bool false]) (by simp [results, Tryd.results38, go_sem]) rfl ?_
            exact rtake_none HE.out H8.out.only
    · obtain rfl : k = x := by omega
      have hltI : ¬ (k : Int) < (k : Int) := by omega
      have HD := Lib.hid (RI.refDone_good pi bv bs a wr HO.out.rin)
      obtain ⟨d, hd⟩ : ∃ d, decide (a = bs.length) = d := ⟨_, rfl⟩
      rw [hd] at HD
      have HDD := Lib.hid hd
      clear hd
      go_wp2_with fail
      refine HD.out.mono ?_
      rintro e w3 ⟨rfl, q, rfl⟩
      go_wp2_with fail
      refine bodyPost_ret (v := .tuple #[.slice lo k lc, .slice jo k tc, .bool d]) (by simp [results, Tryd.results38, go_sem]) rfl ?_
      refine ⟨_, _, vs, ats, d, rfl, fun e => HYES.out vs ats ?_, fun e => HNONE.out ?_, ?_⟩
      · have h1 := HI.out
        rw [List.drop_of_length_le (by have := HDD.out; rw [e] at this; have := of_decide_eq_true this; omega)] at h1
        exact h1
      · rw [HI.out.ends HCT.out.2.1.symm, if_neg]
        intro h
        have h2 := HDD.out
        rw [e] at h2
        have h3 := of_decide_eq_false h2
        have h4 := List.drop_eq_nil_iff.1 h
        have := HA.out
        omega
      · rw [HI.out.rd.len, HI.out.len]
        exact (HO.out.drewN q).fst

end Go.Proofs.YtgkcflindenboaaDoor
