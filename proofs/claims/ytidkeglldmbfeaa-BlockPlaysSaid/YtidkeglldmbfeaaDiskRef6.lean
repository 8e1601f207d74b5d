/-
  Contract of the reference's Write, where it lays a sector.
-/
import Derived.Test.YtidkeglldmbfeaaDiskRef5
namespace Go.Proofs.Ytidkeglldmbfeaa
open Go Go.RowKit
set_option linter.unusedVariables false
set_option linter.unusedSimpArgs false
set_option maxRecDepth 100000

set_option maxRecDepth 100000 in
set_option maxHeartbeats 2000000 in
theorem ref_write_ok {w : World} {r gk gs ck cs : Nat} {vw : Value} {f : Int} {kb sb : List Nat} {wb : List (Nat × Nat)} {D : DS} (h : RefAt w r gk gs ck cs vw f kb sb wb D) (i : Nat) (hi : i < D.n) (v : Value) (b : List UInt8) (hb : b.length ≤ 64) (hl : D.lastB = true)
    (hv : SlO w (RCore r gk gs vw) v b) (hW : D.W.length ≤ 1000000) (hwr : D.wr ≤ 1000000) :
    Calls Try.prog 23 #[.pointer (some ⟨r, 0, none⟩), .int .i64 i, v] w fun e w' => e = .returned (.int .i64 0) ∧
      (∃ vw' f' sb' wb', RefAt w' r gk gs ck cs vw' f' kb sb' wb' (D.last.lay i (pad b)) ∧ (∀ k, RFoot r gk gs vw' kb sb' wb' k → RFoot r gk gs vw kb sb wb k ∨ w.heap.size ≤ k)) ∧ Only (RCore r gk gs vw) w w' := by
  obtain ⟨vo, vc, rfl⟩ := hv.1.shape
  have hdn : D.down = false := by cases hd : D.down with | true => simp [DS.lastB, hd] at hl | false => rfl
  have hfz : D.fuse ≠ 0 := by simp [DS.lastB] at hl; exact hl.2
  have hfv := h.fuse hdn
  have h0 : (0 : Int) ≤ (i : Int) := by omega
  have h1 : (i : Int) < (D.n : Int) := by omega
  have h2 : ¬ (64 : Int) < (b.length : Int) := by omega
  have hf0 : ¬ f = 0 := by rw [hfv]; split <;> omega
  have hc1 : w.cell? ⟨r, 1, none⟩ = some (.slice (some ⟨gs, 0, none⟩) D.n cs) := h.cell 1
  have hc3 : w.cell? ⟨r, 3, none⟩ = some (.int .i64 f) := h.cell 3
  have hc4 : w.cell? ⟨r, 4, none⟩ = some (.bool D.down) := h.cell 4
  have hf3 := h.free 3
  rw [hdn] at hc4
  have H := Lib.hid h
  have HV := Lib.hid hv
  have HB := Lib.hid hb
  have HF := Lib.hid hfv
  clear h hv hb hl hfv
  have hfr : f ≤ 9223372036854775807 := by rw [HF.out]; have := H.out.ok.fuse.2; split <;> omega
  have hwf : 0 < f → wrap64 (f - 1) = f - 1 := fun h => IntWalk.wrap64_in _ ⟨by omega, by omega⟩
  obtain ⟨C, hC⟩ : ∃ C, C = (u8s (List.replicate 64 0)).toArray := ⟨_, rfl⟩
  have hmk := run_make64
  rw [← hC] at hmk
  obtain ⟨f1, w1, hw1⟩ : ∃ f1 w1, (0 < f ∧ f1 = f - 1 ∧ w1 = w.setCell ⟨r, 3, none⟩ (.int .i64 (f - 1))) ∨ (¬ 0 < f ∧ f1 = f ∧ w1 = w) := by
    by_cases h : 0 < f
    · exact ⟨_, _, .inl ⟨h, rfl, rfl⟩⟩
    · exact ⟨_, _, .inr ⟨h, rfl, rfl⟩⟩
  have HM1 : Hid (RefM w1 r gk gs ck cs vw f1 false D.wr D.sy D.n D.W.length kb sb wb) := Lib.hid (by
    have hm := H.out.m
    rw [hdn] at hm
    rcases hw1 with ⟨_, rfl, rfl⟩ | ⟨_, rfl, rfl⟩
    · exact hm.set 3 _ rfl
    · exact hm)
  have HO1 : Hid (Only (RCore r gk gs vw) w w1) := Lib.hid (by
    rcases hw1 with ⟨_, rfl, rfl⟩ | ⟨_, rfl, rfl⟩
    · exact (Only.refl _ w).setCell (fun _ => .inl rfl) _
    · exact Only.refl _ _)
  have HF1 : Hid (f1 = if D.last.fuse < 0 then -1 else D.last.fuse) := Lib.hid (by
    have := HF.out
    by_cases hn : D.fuse < 0
    · rw [if_pos hn] at this
      rw [(DS.last_free hdn hn).2, if_pos hn]
      rcases hw1 with ⟨h, _⟩ | ⟨_, rfl, _⟩
      · omega
      · exact this
    · rw [if_neg hn] at this
      have hp : 0 < D.fuse := by omega
      rw [(DS.last_burns hdn hp).2]
      show f1 = if D.fuse - 1 < 0 then -1 else D.fuse - 1
      rw [if_neg (by omega)]
      rcases hw1 with ⟨h, rfl, _⟩ | ⟨h, _⟩
      · rw [this]
      · omega)
  have HDN : Hid (D.last.down = false) := Lib.hid (by
    by_cases hn : D.fuse < 0
    · rw [(DS.last_free hdn hn).2]; exact hdn
    · rw [(DS.last_burns hdn (by omega)).2]; exact hdn)
  have HFR : Hid (-9223372036854775808 ≤ D.last.fuse ∧ D.last.fuse ≤ 9223372036854775807) := Lib.hid (by
    have := H.out.ok.fuse
    by_cases hn : D.fuse < 0
    · rw [(DS.last_free hdn hn).2]; exact this
    · rw [(DS.last_burns hdn (by omega)).2]
      show -9223372036854775808 ≤ D.fuse - 1 ∧ D.fuse - 1 ≤ 9223372036854775807
      omega)
  have HV1 : Hid (SlC w1 (.slice vo b.length vc) b) := Lib.hid (SlC.keepAt HV.out (fun k hk hn => HO1.out.block k hk hn))
  go_enter Try.func23, Try.ntmps23
  have hsz1 : w1.heap.size = w.heap.size := by
    rcases hw1 with ⟨_, _, rfl⟩ | ⟨_, _, rfl⟩
    · simp [World.setCell]
    · rfl
  obtain ⟨g, hg⟩ : ∃ g, g = w.heap.size := ⟨_, rfl⟩
  have HG : Hid (g = w1.heap.size) := Lib.hid (by rw [hg, hsz1])
  have HS0 : Hid ((w1.alloc (.cells C 5)).heap[g]? = some (.cells (u8s (b.take 0 ++ List.replicate (64 - 0) 0)).toArray 5 (0, 0)) ∧ Only (fun _ => False) w1 (w1.alloc (.cells C 5))) := Lib.hid ⟨by
    rw [HG.out, hC]
    exact heap_alloc_new w1 _, (Only.refl _ w1).alloc _⟩
  clear hsz1 hC
  rcases hw1 with ⟨hpos, e1, e2⟩ | ⟨hpos, e1, e2⟩
  · have hwf1 := hwf hpos
    clear hwf
    go_upto_block 3 with fail
    rw [← e2, ← hg]
    clear hmk hwf1 e2 hg
    generalize w1.alloc (.cells C 5) = w2 at *
    go_loopw [8] (fun i wr => ∃ k : Nat, k ≤ b.length ∧ i = .int .i64 k ∧ Hid (wr.heap[g]? = some (.cells (u8s (b.take k ++ List.replicate (64 - k) 0)).toArray 5 (0, 0)) ∧ Only (fun _ => False) w1 wr)) (fun i _ => b.length - (intOf i).toNat)
    case atStart => exact ⟨0, Nat.zero_le _, rfl, HS0⟩
    case round =>
      clear HS0
      obtain ⟨k, hk, rfl, HQ⟩ := hrel
      by_cases hlt : k < b.length
      · obtain ⟨gb, off, rfl, hcb⟩ := (HV1.out.keep HQ.out.2).cell hlt
        have hltI : (k : Int) < (b.length : Int) := by omega
        have hk0 : (0 : Int) ≤ (k : Int) := by omega
        have hb64 := HB.out
        have hk64 : (k : Int) < 64 := by omega
        have hgk := HQ.out.1
        have hsz : (u8s (b.take k ++ List.replicate (64 - k) 0)).toArray.size = 64 := by simp [u8s_length]; omega
        have hcf : wr.frozen? ⟨g, k, none⟩ = false := by simp [World.frozen?, hgk]
        have hcc : wr.cell? ⟨g, k, none⟩ = some ((u8s (b.take k ++ List.replicate (64 - k) 0)).toArray[k]'(by omega)) := by
          simp only [World.cell?, hgk]
          rw [if_neg (by simp), Array.getElem?_eq_getElem]
        have HN : Hid ((wr.setCell ⟨g, k, none⟩ (.int .u8 (b.getD k 0).toNat)).heap[g]? = some (.cells (u8s (b.take (k + 1) ++ List.replicate (64 - (k + 1)) 0)).toArray 5 (0, 0)) ∧ Only (fun _ => False) w1 (wr.setCell ⟨g, k, none⟩ (.int .u8 (b.getD k 0).toNat))) := Lib.hid (by
          refine ⟨?_, HQ.out.2.setCell (fun h => by have := HG.out; simp at h; omega) _⟩
          rw [heap_set hgk, ← pad_step b hlt hb64]
          congr 2
          apply Array.toList_inj.1
          simp [u8s, List.map_set])
        obtain ⟨x, hx⟩ : ∃ x, x = (b.getD k 0).toNat := ⟨_, rfl⟩
        rw [← hx] at HN hcb
        generalize ((u8s (b.take k ++ List.replicate (64 - k) 0)).toArray[k]'(by omega)) = u0 at hcc
        clear HQ hgk hsz hb64 hx
        go_wp2_with fail
        go_roundw
        case rel => exact ⟨k + 1, by omega, by go_num, HN⟩
        case measure => simp [intOf]; omega
      · obtain rfl : k = b.length := by omega
        have HP : Hid (HasB wr g (pad b)) := Lib.hid ⟨by have := HQ.out.1; rwa [List.take_length] at this, pad_length HB.out⟩
        have HO2 := Lib.hid HQ.out.2
        clear HQ hlt hk
        have hmr : RefM wr r gk gs ck cs vw f1 false D.wr D.sy D.n D.W.length kb sb wb := HM1.out.keep (fun k hk => HO2.out.block k (HM1.out.lt hk) (fun h => h))
        have hd1 := hmr.cell 1
        simp only [List.getElem?_toArray, List.getElem?_cons_succ, List.getElem?_cons_zero] at hd1
        have hds := hmr.seenCell hi
        obtain ⟨hms, hfs⟩ := hmr.putSeen hi g
        have hos := (HO1.out.trans HO2.out (fun _ _ h => h.elim)).setCell (p := ⟨gs, i, none⟩) (fun _ => .inr (.inr (.inl rfl))) (sl64 g)
        have hps : HasB (wr.setCell ⟨gs, i, none⟩ (sl64 g)) g (pad b) := HP.out.hold hmr ((Only.refl _ wr).setCell (p := ⟨gs, i, none⟩) (fun _ => .inr (.inr (.inl rfl))) (sl64 g))
        have HMS := Lib.hid hms
        have HOS := Lib.hid hos
        have HPS := Lib.hid hps
        rw [sl64] at HMS HOS HPS
        clear hms hos hps hmr HP HO2
        go_upto_region 16 with fail
        clear hd1 hds hfs
        obtain ⟨w3, hw3⟩ : ∃ w3, w3 = wr.setCell ⟨gs, i, none⟩ (.slice (some ⟨g, 0, none⟩) 64 64) := ⟨_, rfl⟩
        rw [← hw3] at HMS HOS HPS ⊢
        clear hw3
        have hc2 := HMS.out.cell 2
        simp only [List.getElem?_toArray, List.getElem?_cons_succ, List.getElem?_cons_zero] at hc2
        have hbs := fun w => run_buildSlice_one (P := Try.prog) w 45 73 _ 2 Try.underlying45 Try.infoPut rfl (by decide) (by decide) #[.int .i64 i, .slice (some ⟨g, 0, none⟩) 64 64] rfl
        obtain ⟨i0, hi0, hz0, hz1, hz2⟩ := info_parts Try.infoPut3
        have HBP := Lib.hid (built_put i g)
        have HRW := Lib.hid (HMS.out.row.alloc (.cells #[.int .i64 i, .slice (some ⟨g, 0, none⟩) 64 64] 73))
        go_upto_region 17 with (first | (refine wpList_build_two rfl 73 0 1 (.tmp 78) (.tmp 79) rfl (.int .i64 i) (.slice (some ⟨g, 0, none⟩) 64 64) rfl rfl #[.int .i64 i, .slice (some ⟨g, 0, none⟩) 64 64] HBP.out ?_) | (at_builtin; refine wpList_append_lies _ rfl (.tmp 77) (.tmp 81) 45 rfl 0 73 i0 _ 2 32 Try.underlying45 hi0 hz0 hz1 hz2 rfl (by decide) vw D.W.length (wputs wb) rfl HRW.out ⟨w3.heap.size, 0, none⟩ 1 1 [.int .i64 i, .slice (some ⟨g, 0, none⟩) 64 64] rfl rfl (World.news_of_block (heap_alloc_new w3 _)) ?_ Nat.zero_lt_one ?_ ?_ (Nat.zero_le _) (w3.heap.size + 1) ?_ ?_))
        · intro u hu
          rcases List.mem_cons.1 hu with rfl | hu
          · rfl
          · rw [List.mem_singleton.1 hu]; rfl
        · unfold maxLen; omega
        · omega
        · simp
        intro gw capw w5 hown hgrow hat hlt5
        rw [← wputs_snoc] at hown
        have hol : Only (fun k => vw.ownBlock = some k) w3 w5 := (((Only.refl (fun _ => False) w3).alloc (.cells #[.int .i64 i, .slice (some ⟨g, 0, none⟩) 64 64] 73)).mono (fun _ _ h => h.elim)).grown hgrow (fun k _ e => e)
        have hvo : ∀ k, (Value.slice (some ⟨gw, 0, none⟩) (D.W.length + 1) capw).ownBlock = some k → vw.ownBlock = some k ∨ w3.heap.size ≤ k := fun k e => by
          simp [Value.ownBlock] at e
          subst e
          rcases hat with h | h
          · exact .inl h
          · exact .inr (by omega)
        obtain ⟨hm5, hc5, hf5⟩ := HMS.out.waits (i, g) hown hol hvo
        have ho5 : Only (RCore r gk gs vw) w3 (w5.setCell ⟨r, 2, none⟩ (.slice (some ⟨gw, 0, none⟩) (D.W.length + 1) capw)) := (hol.mono (fun k _ e => .inr (.inr (.inr e)))).setCell (fun _ => .inl rfl) _
        have hp5 := HPS.out.hold HMS.out ho5
        have hfoot := ref_lay_foot (w := w) (r := r) (gk := gk) (gs := gs) (kb := kb) (sb := sb) (wb := wb) (i := i) (g := g) (vw := vw) (v' := .slice (some ⟨gw, 0, none⟩) (D.W.length + 1) capw) (fun k e => (hvo k e).imp (fun h => h) (fun h => Nat.le_trans HOS.out.size h)) (by rw [HG.out]; exact HO1.out.size)
        have HFT := Lib.hid hfoot
        have HM5 := Lib.hid hm5
        have HO5 := Lib.hid (HOS.out.trans ho5 (fun _ _ h => h))
        have HP5 := Lib.hid hp5
        clear hown hgrow hat hlt5 hol hvo hm5 ho5 hp5 hfoot hbs HRW HBP hi0 hz0 hz1 hz2 HMS HPS hc2
        go_upto_region 17 with fail
        clear hc5 hf5
        generalize w5.setCell ⟨r, 2, none⟩ (.slice (some ⟨gw, 0, none⟩) (D.W.length + 1) capw) = w6 at *
        have hc6 := HM5.out.cell 5
        simp only [List.getElem?_toArray, List.getElem?_cons_succ, List.getElem?_cons_zero] at hc6
        have hf6 := HM5.out.free 5
        have HM7 := Lib.hid (HM5.out.set (f' := f1) (dn' := false) (wr' := D.wr + 1) (sy' := D.sy) 5 (.int .i64 ((D.wr : Int) + 1)) rfl)
        have ho7 : Only (RCore r gk gs (.slice (some ⟨gw, 0, none⟩) (D.W.length + 1) capw)) w6 (w6.setCell ⟨r, 5, none⟩ (.int .i64 ((D.wr : Int) + 1))) := (Only.refl _ w6).setCell (fun _ => .inl rfl) _
        have HP7 := Lib.hid (HP5.out.hold HM5.out ho7)
        have HO7 := Lib.hid (HO5.out.setCell (p := ⟨r, 5, none⟩) (fun _ => .inl rfl) (.int .i64 ((D.wr : Int) + 1)))
        clear ho7
        go_wp2_with fail
        go_ret
        exact ⟨rfl, ⟨_, _, _, _, ref_lay H.out hi (pad_length HB.out) HDN.out HF1.out HFR.out HM7.out HO7.out HP7.out, HFT.out⟩, HO7.out⟩
  · clear hwf
    go_upto_block 3 with fail
    rw [show w.alloc (.cells C 5) = w1.alloc (.cells C 5) by rw [e2], ← hg]
    clear hmk e2 hg
    generalize w1.alloc (.cells C 5) = w2 at *
    go_loopw [8] (fun i wr => ∃ k : Nat, k ≤ b.length ∧ i = .int .i64 k ∧ Hid (wr.heap[g]? = some (.cells (u8s (b.take k ++ List.replicate (64 - k) 0)).toArray 5 (0, 0)) ∧ Only (fun _ => False) w1 wr)) (fun i _ => b.length - (intOf i).toNat)
    case atStart => exact ⟨0, Nat.zero_le _, rfl, HS0⟩
    case round =>
      clear HS0
      obtain ⟨k, hk, rfl, HQ⟩ := hrel
      by_cases hlt : k < b.length
      · obtain ⟨gb, off, rfl, hcb⟩ := (HV1.out.keep HQ.out.2).cell hlt
        have hltI : (k : Int) < (b.length : Int) := by omega
        have hk0 : (0 : Int) ≤ (k : Int) := by omega
        have hb64 := HB.out
        have hk64 : (k : Int) < 64 := by omega
        have hgk := HQ.out.1
        have hsz : (u8s (b.take k ++ List.replicate (64 - k) 0)).toArray.size = 64 := by simp [u8s_length]; omega
        have hcf : wr.frozen? ⟨g, k, none⟩ = false := by simp [World.frozen?, hgk]
        have hcc : wr.cell? ⟨g, k, none⟩ = some ((u8s (b.take k ++ List.replicate (64 - k) 0)).toArray[k]'(by omega)) := by
          simp only [World.cell?, hgk]
          rw [if_neg (by simp), Array.getElem?_eq_getElem]
        have HN : Hid ((wr.setCell ⟨g, k, none⟩ (.int .u8 (b.getD k 0).toNat)).heap[g]? = some (.cells (u8s (b.take (k + 1) ++ List.replicate (64 - (k + 1)) 0)).toArray 5 (0, 0)) ∧ Only (fun _ => False) w1 (wr.setCell ⟨g, k, none⟩ (.int .u8 (b.getD k 0).toNat))) := Lib.hid (by
          refine ⟨?_, HQ.out.2.setCell (fun h => by have := HG.out; simp at h; omega) _⟩
          rw [heap_set hgk, ← pad_step b hlt hb64]
          congr 2
          apply Array.toList_inj.1
          simp [u8s, List.map_set])
        obtain ⟨x, hx⟩ : ∃ x, x = (b.getD k 0).toNat := ⟨_, rfl⟩
        rw [← hx] at HN hcb
        generalize ((u8s (b.take k ++ List.replicate (64 - k) 0)).toArray[k]'(by omega)) = u0 at hcc
        clear HQ hgk hsz hb64 hx
        go_wp2_with fail
        go_roundw
        case rel => exact ⟨k + 1, by omega, by go_num, HN⟩
        case measure => simp [intOf]; omega
      · obtain rfl : k = b.length := by omega
        have HP : Hid (HasB wr g (pad b)) := Lib.hid ⟨by have := HQ.out.1; rwa [List.take_length] at this, pad_length HB.out⟩
        have HO2 := Lib.hid HQ.out.2
        clear HQ hlt hk
        have hmr : RefM wr r gk gs ck cs vw f1 false D.wr D.sy D.n D.W.length kb sb wb := HM1.out.keep (fun k hk => HO2.out.block k (HM1.out.lt hk) (fun h => h))
        have hd1 := hmr.cell 1
        simp only [List.getElem?_toArray, List.getElem?_cons_succ, List.getElem?_cons_zero] at hd1
        have hds := hmr.seenCell hi
        obtain ⟨hms, hfs⟩ := hmr.putSeen hi g
        have hos := (HO1.out.trans HO2.out (fun _ _ h => h.elim)).setCell (p := ⟨gs, i, none⟩) (fun _ => .inr (.inr (.inl rfl))) (sl64 g)
        have hps : HasB (wr.setCell ⟨gs, i, none⟩ (sl64 g)) g (pad b) := HP.out.hold hmr ((Only.refl _ wr).setCell (p := ⟨gs, i, none⟩) (fun _ => .inr (.inr (.inl rfl))) (sl64 g))
        have HMS := Lib.hid hms
        have HOS := Lib.hid hos
        have HPS := Lib.hid hps
        rw [sl64] at HMS HOS HPS
        clear hms hos hps hmr HP HO2
        go_upto_region 16 with fail
        clear hd1 hds hfs
        obtain ⟨w3, hw3⟩ : ∃ w3, w3 = wr.setCell ⟨gs, i, none⟩ (.slice (some ⟨g, 0, none⟩) 64 64) := ⟨_, rfl⟩
        rw [← hw3] at HMS HOS HPS ⊢
        clear hw3
        have hc2 := HMS.out.cell 2
        simp only [List.getElem?_toArray, List.getElem?_cons_succ, List.getElem?_cons_zero] at hc2
        have hbs := fun w => run_buildSlice_one (P := Try.prog) w 45 73 _ 2 Try.underlying45 Try.infoPut rfl (by decide) (by decide) #[.int .i64 i, .slice (some ⟨g, 0, none⟩) 64 64] rfl
        obtain ⟨i0, hi0, hz0, hz1, hz2⟩ := info_parts Try.infoPut3
        have HBP := Lib.hid (built_put i g)
        have HRW := Lib.hid (HMS.out.row.alloc (.cells #[.int .i64 i, .slice (some ⟨g, 0, none⟩) 64 64] 73))
        go_upto_region 17 with (first | (refine wpList_build_two rfl 73 0 1 (.tmp 78) (.tmp 79) rfl (.int .i64 i) (.slice (some ⟨g, 0, none⟩) 64 64) rfl rfl #[.int .i64 i, .slice (some ⟨g, 0, none⟩) 64 64] HBP.out ?_) | (at_builtin; refine wpList_append_lies _ rfl (.tmp 77) (.tmp 81) 45 rfl 0 73 i0 _ 2 32 Try.underlying45 hi0 hz0 hz1 hz2 rfl (by decide) vw D.W.length (wputs wb) rfl HRW.out ⟨w3.heap.size, 0, none⟩ 1 1 [.int .i64 i, .slice (some ⟨g, 0, none⟩) 64 64] rfl rfl (World.news_of_block (heap_alloc_new w3 _)) ?_ Nat.zero_lt_one ?_ ?_ (Nat.zero_le _) (w3.heap.size + 1) ?_ ?_))
        · intro u hu
          rcases List.mem_cons.1 hu with rfl | hu
          · rfl
          · rw [List.mem_singleton.1 hu]; rfl
        · unfold maxLen; omega
        · omega
        · simp
        intro gw capw w5 hown hgrow hat hlt5
        rw [← wputs_snoc] at hown
        have hol : Only (fun k => vw.ownBlock = some k) w3 w5 := (((Only.refl (fun _ => False) w3).alloc (.cells #[.int .i64 i, .slice (some ⟨g, 0, none⟩) 64 64] 73)).mono (fun _ _ h => h.elim)).grown hgrow (fun k _ e => e)
        have hvo : ∀ k, (Value.slice (some ⟨gw, 0, none⟩) (D.W.length + 1) capw).ownBlock = some k → vw.ownBlock = some k ∨ w3.heap.size ≤ k := fun k e => by
          simp [Value.ownBlock] at e
          subst e
          rcases hat with h | h
          · exact .inl h
          · exact .inr (by omega)
        obtain ⟨hm5, hc5, hf5⟩ := HMS.out.waits (i, g) hown hol hvo
        have ho5 : Only (RCore r gk gs vw) w3 (w5.setCell ⟨r, 2, none⟩ (.slice (some ⟨gw, 0, none⟩) (D.W.length + 1) capw)) := (hol.mono (fun k _ e => .inr (.inr (.inr e)))).setCell (fun _ => .inl rfl) _
        have hp5 := HPS.out.hold HMS.out ho5
        have hfoot := ref_lay_foot (w := w) (r := r) (gk := gk) (gs := gs) (kb := kb) (sb := sb) (wb := wb) (i := i) (g := g) (vw := vw) (v' := .slice (some ⟨gw, 0, none⟩) (D.W.length + 1) capw) (fun k e => (hvo k e).imp (fun h => h) (fun h => Nat.le_trans HOS.out.size h)) (by rw [HG.out]; exact HO1.out.size)
        have HFT := Lib.hid hfoot
        have HM5 := Lib.hid hm5
        have HO5 := Lib.hid (HOS.out.trans ho5 (fun _ _ h => h))
        have HP5 := Lib.hid hp5
        clear hown hgrow hat hlt5 hol hvo hm5 ho5 hp5 hfoot hbs HRW HBP hi0 hz0 hz1 hz2 HMS HPS hc2
        go_upto_region 17 with fail
        clear hc5 hf5
        generalize w5.setCell ⟨r, 2, none⟩ (.slice (some ⟨gw, 0, none⟩) (D.W.length + 1) capw) = w6 at *
        have hc6 := HM5.out.cell 5
        simp only [List.getElem?_toArray, List.getElem?_cons_succ, List.getElem?_cons_zero] at hc6
        have hf6 := HM5.out.free 5
        have HM7 := Lib.hid (HM5.out.set (f' := f1) (dn' := false) (wr' := D.wr + 1) (sy' := D.sy) 5 (.int .i64 ((D.wr : Int) + 1)) rfl)
        have ho7 : Only (RCore r gk gs (.slice (some ⟨gw, 0, none⟩) (D.W.length + 1) capw)) w6 (w6.setCell ⟨r, 5, none⟩ (.int .i64 ((D.wr : Int) + 1))) := (Only.refl _ w6).setCell (fun _ => .inl rfl) _
        have HP7 := Lib.hid (HP5.out.hold HM5.out ho7)
        have HO7 := Lib.hid (HO5.out.setCell (p := ⟨r, 5, none⟩) (fun _ => .inl rfl) (.int .i64 ((D.wr : Int) + 1)))
        clear ho7
        go_wp2_with fail
        go_ret
        exact ⟨rfl, ⟨_, _, _, _, ref_lay H.out hi (pad_length HB.out) HDN.out HF1.out HFR.out HM7.out HO7.out HP7.out, HFT.out⟩, HO7.out⟩

end Go.Proofs.Ytidkeglldmbfeaa
