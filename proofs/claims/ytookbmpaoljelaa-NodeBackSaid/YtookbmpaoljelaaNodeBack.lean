/-
  NodeBack: its walk.
-/
import Derived.Test.YtookbmpaoljelaaNodeBk
namespace Go.Proofs.Ytookbmpaoljelaa
open Go Go.RowKit
set_option linter.unusedVariables false
set_option linter.unusedSimpArgs false
set_option maxRecDepth 100000

theorem enc_ways (n : Nd) : (rightB n = false ∧ encErr n = 1) ∨ (rightB n = true ∧ encErr n = 7) ∨ (rightB n = true ∧ encErr n = 0 ∧ encOut n = encN n ∧ (encN n).length ≤ 32768) := by
  by_cases h : encErr n = 0
  · obtain ⟨h1, h2, h3⟩ := enc_zero h
    exact .inr (.inr ⟨h1, h, h2, h3⟩)
  · unfold encErr at h ⊢
    cases hr : rightB n with
    | false => exact .inl ⟨rfl, by rw [if_neg (by decide)]⟩
    | true =>
      rw [hr, if_pos rfl] at h
      refine .inr (.inl ⟨rfl, ?_⟩)
      rw [if_pos rfl]
      by_cases hl : 32768 < (encN n).length
      · rw [if_pos hl]
      · rw [if_neg hl] at h; exact absurd rfl h
/-- Bytes that Encode has answered. -/
structure BackT (n : Nd) (X : List UInt8) (c : UInt8) : Prop where
  out : encOut n = X ++ [c]
  dec : decN (X ++ [c]) = some n
  more : decN (X ++ [c] ++ [0]) = none
  less : decN X = none
  len : X.length < 32768
  err : encErr n = 0
theorem encErr_back {n : Nd} {X : List UInt8} {c : UInt8} (h : BackT n X c) : encErr n = 0 := h.err
theorem back_of {n : Nd} (h : rightB n = true) (hw : NdW n) (he : encErr n = 0) (ho : encOut n = encN n) (hl : (encN n).length ≤ 32768) : ∃ X c, BackT n X c := by
  obtain ⟨X, c, e⟩ := split_last (enc_ne (n := n))
  have h1 := dec_enc h hw hl
  have h2 := dec_more h hw 0
  have h3 := dec_less h hw e
  rw [e] at h1 h2 hl
  refine ⟨X, c, ho.trans e, h1, h2, h3, ?_, he⟩
  simp at hl
  omega

set_option maxHeartbeats 8000000 in
theorem nback_walk (h : Nh) (n : Nd) (w : World) (hn : NdAt w h n) (hwn : NdW n) :
    Calls Try.prog 4 #[ndv h n] w fun r w' => r = .returned (.bool true) ∧ Below w.heap.size w w' := by
  have H0 := Lib.hid ((Own.start w).alloc (.cells (ndc h n) 27))
  have HND := Lib.hid hn
  have HEA := Lib.hid (fun W (H : NdAt W h n) => encode_any h n W H hwn)
  have HW := Lib.hid hwn
  clear hn hwn
  obtain ⟨c0, c1, c2, c3, c4⟩ := nod_cells H0.out.held
  go_enter Try.func4, Try.ntmps4
  go_upto_region 1 with fail
  generalize w.alloc (.cells (ndc h n) 27) = w0 at *
  generalize w.heap.size = pn at *
  go_wp2_with fail
  refine (awake_any _).mono ?_
  rintro r w1 ⟨rfl, ho⟩
  have H1 := Lib.hid (H0.out.quiet ho)
  clear ho H0 c0 c1 c2 c3 c4
  obtain ⟨c0, c1, c2, c3, c4⟩ := nod_cells H1.out.held
  go_wp2_with fail
  refine (HEA.out _ (HND.out.keep H1.out.only)).mono ?_
  rintro r w2 hp
  obtain ⟨ao, ac, rfl, _, h2⟩ := enc_get hp
  have H2 := Lib.hid (H1.out.join h2)
  clear hp h2 H1 c0 c1 c2 c3 c4
  obtain ⟨c0, c1, c2, c3, c4⟩ := nod_cells H2.out.snd.held
  go_wp2_with fail
  refine (HEA.out _ (HND.out.keep H2.out.only)).mono ?_
  rintro r w3 hp
  obtain ⟨co, cc, rfl, _, h3⟩ := enc_get hp
  have H3 := Lib.hid (H2.out.join h3)
  clear hp h3 H2 c0 c1 c2 c3 c4
  obtain ⟨c0, c1, c2, c3, c4⟩ := nod_cells H3.out.snd.snd.held
  rcases enc_ways n with ⟨hr, he⟩ | ⟨hr, he⟩ | ⟨hr, he, hee, hlen⟩
  · rw [he]
    have HR := Lib.hid (right_any h n w3 (HND.out.keep H3.out.only))
    rw [hr] at HR
    clear hr he
    go_wp2_with fail
    refine HR.out.mono ?_
    rintro r w4 ⟨rfl, ho⟩
    have H4 := Lib.hid (H3.out.quiet ho)
    clear ho H3 HR c0 c1 c2 c3 c4
    go_wp2_with fail
    go_ret
    exact ⟨rfl, only_b H4.out.only⟩
  · rw [he]
    have HR := Lib.hid (right_any h n w3 (HND.out.keep H3.out.only))
    rw [hr] at HR
    clear hr he
    go_wp2_with fail
    refine HR.out.mono ?_
    rintro r w4 ⟨rfl, ho⟩
    have H4 := Lib.hid (H3.out.quiet ho)
    clear ho H3 HR c0 c1 c2 c3 c4
    go_wp2_with fail
    go_ret
    exact ⟨rfl, only_b H4.out.only⟩
  obtain ⟨X, c, hB⟩ := back_of hr HW.out he hee hlen
  have HB := Lib.hid hB
  rw [hB.out] at H3
  rw [he, hB.out]
  have hXl : (X ++ [c]).length = X.length + 1 := by simp
  rw [hXl] at H3
  rw [hXl]
  obtain ⟨L, hL⟩ : ∃ L, X.length = L := ⟨_, rfl⟩
  have HL := Lib.hid hL
  rw [hL] at H3
  rw [hL]
  have hL2 : L < 32768 := by rw [← hL]; exact hB.len
  clear hr he hee hlen hB hXl hL
  have HSA : Hid (SlC w3 (.slice ao (L + 1) ac) (X ++ [c])) := Lib.hid (by
    have := H3.out.snd.owns
    have h1 : L + 1 = (X ++ [c]).length := by simp [HL.out]
    rw [h1] at this ⊢
    exact (own_toB this).toC)
  go_wp2_with fail
  refine (decode_any _ _ _ HSA.out (by simp [HL.out]; omega)).mono ?_
  rintro r w4 hp
  rcases hp with ⟨H, n2, hs, hd, rfl, hz, ho⟩ | ⟨hd, _, _⟩
  rotate_left
  · rw [HB.out.dec] at hd; cases hd
  rw [HB.out.dec] at hd
  simp only [Option.some.injEq] at hd
  subst hd
  obtain ⟨eo, ec, po, pc, ko, kcc, bo, bc⟩ := H
  have HZ := Lib.hid hz
  have H4 := Lib.hid ((H3.out.join ho).alloc (.cells (ndc ⟨eo, ec, po, pc, ko, kcc, bo, bc⟩ n) 27))
  clear ho hz H3 HSA c0 c1 c2 c3 c4
  go_upto_region 8 with fail
  generalize w4.alloc (.cells (ndc ⟨eo, ec, po, pc, ko, kcc, bo, bc⟩ n) 27) = w5 at *
  generalize w4.heap.size = kb at *
  have hXl : (X ++ [c]).length = L + 1 := by simp [HL.out]
  have HXL := Lib.hid hXl
  clear hXl
  have HSA : ∀ W I, Own w W (Sep (RowV 5 1 (.slice ao (L + 1) ac) (L + 1) (u8s (X ++ [c]))) I) → Hid (SlC W (.slice ao (L + 1) ac) (X ++ [c])) := fun W I h => Lib.hid (by
    have := h.owns
    rw [← HXL.out] at this ⊢
    exact (own_toB this).toC)
  have HSB := Lib.hid HSA
  clear HSA
  obtain ⟨i0, hi, hz0, hz1, hz2⟩ := info_parts Try.infoU8
  go_wp2_with fail
  refine (raw_copy _ _ _ (HSB.out _ _ H4.out.snd.snd.snd).out (by rw [HXL.out]; omega)).mono ?_
  rintro r w6 ⟨v', rfl, hown, ho⟩
  rw [HXL.out] at hown
  obtain ⟨yo, yc, rfl⟩ := own_shapeN hown
  have HOW := Lib.hid hown
  have HO := Lib.hid ho
  clear hown ho
  go_wp2_with (at_builtin; refine wpList_append_lies _ rfl (.tmp 51) (.tmp 52) 29 rfl w5.heap.size 5 i0 (.int .u8 0) 1 1 Try.underlying29 hi hz0 hz1 hz2 rfl (by decide) _ (L + 1) (u8s (X ++ [c])) rfl (HOW.out.alloc _) ⟨w6.heap.size, 0, none⟩ 1 1 (u8s [0]) rfl rfl (World.news_of_block (heap_alloc_new w6 _)) (u8s_oneCell _) (by decide) ?c1 ?c2 ?c3 (w6.heap.size + 1) ?c4 ?_)
  case c1 => unfold maxLen; omega
  case c2 => omega
  case c3 => have := HO.out.size; simp; omega
  case c4 => simp
  intro g cap2 w7 hown hgrow hat hlt
  have hge : ∀ k, k < w5.heap.size → (Value.slice yo (L + 1) yc).ownBlock = some k → False := fun k hk e => by
    have := (HOW.out.lt k e).1
    omega
  have HO2 := Lib.hid ((HO.out.alloc (.cells (u8s [0]).toArray 5)).grown hgrow hge)
  have HSM : Hid (SlC w7 (.slice (some ⟨g, 0, none⟩) (L + 1 + 1) cap2) (X ++ [c] ++ [0])) := Lib.hid (by
    have h1 : L + 1 + 1 = (X ++ [c] ++ [0]).length := by simp [HL.out]
    rw [← u8s_append, h1] at hown
    rw [h1]
    exact (own_toB hown).toC)
  have H5 := Lib.hid (H4.out.quiet HO2.out)
  clear hown hgrow hat hlt hge HOW HO HO2 H4
  go_wp2_with fail
  refine (decode_any _ _ _ HSM.out (by simp [HL.out]; omega)).mono ?_
  rintro r w8 hp
  rcases hp with ⟨_, _, _, hd, _⟩ | ⟨_, rfl, ho⟩
  · rw [HB.out.more] at hd; cases hd
  have H6 := Lib.hid ((H5.out.quiet ho).quiet ((Only.refl _ w8).alloc (.cells #[.bool false, .slice none 0 0, .slice none 0 0, .slice none 0 0, .slice none 0 0] 27)))
  clear ho H5 HSM
  go_upto_region 9 with fail
  generalize w8.alloc _ = w9 at *
  have HCAP : Hid (L + 1 ≤ ac) := Lib.hid (rowv_cap H6.out.snd.snd.snd.owns)
  have hcap := HCAP.out
  go_wp2_with fail
  have HSL : Hid (SlC w9 (.slice ao L ac) X) := Lib.hid (by
    have := slc_less (HSB.out _ _ H6.out.snd.snd.snd).out
    rwa [HL.out] at this)
  refine (raw_copy _ _ _ HSL.out (by rw [HL.out]; omega)).mono ?_
  rintro r w10 ⟨v', rfl, hown, ho⟩
  have HSM : Hid (SlC w10 v' X) := Lib.hid (own_toB hown).toC
  obtain ⟨yo2, yc2, rfl⟩ := own_shapeN hown
  have H7 := Lib.hid (H6.out.quiet ho)
  clear hown ho H6 HSL hcap HCAP
  go_wp2_with fail
  refine (decode_any _ _ _ HSM.out (by rw [HL.out]; omega)).mono ?_
  rintro r w11 hp
  rcases hp with ⟨_, _, _, hd, _⟩ | ⟨_, rfl, ho⟩
  · rw [HB.out.less] at hd; cases hd
  have H8 := Lib.hid ((H7.out.quiet ho).quiet ((Only.refl _ w11).alloc (.cells #[.bool false, .slice none 0 0, .slice none 0 0, .slice none 0 0, .slice none 0 0] 27)))
  clear ho H7 HSM
  go_upto_region 10 with fail
  generalize w11.alloc _ = w12 at *
  obtain ⟨c0, c1, c2, c3, c4⟩ := nod_cells H8.out.snd.snd.snd.snd.held
  obtain ⟨d0, d1, d2, d3, d4⟩ := nod_cells H8.out.held
  have HKA := Lib.hid (nodr_at H8.out.snd HZ.out)
  have HNA := Lib.hid (HND.out.keep H8.out.only)
  have HNQ := Lib.hid (nodes_any ⟨eo, ec, po, pc, ko, kcc, bo, bc⟩ h n n w12 HKA.out HNA.out)
  clear HKA HNA
  go_wp2_with fail
  refine HNQ.out.mono ?_
  rintro e w13 ⟨r, rfl, hr, ho⟩
  obtain rfl : r = true := hr.2 rfl
  have H9 := Lib.hid (H8.out.quiet ho)
  clear hr ho HNQ H8 c0 c1 c2 c3 c4 d0 d1 d2 d3 d4
  go_wp2_with fail
  have HAP := Lib.hid (H9.out.alloc (.cells #[.slice ao (L + 1) ac, .slice co (L + 1) cc] 29))
  rw [rowv_ownb (xs := X ++ [c]) HXL.out.symm, rowv_ownb (xs := X ++ [c]) HXL.out.symm] at HAP
  refine (apart_keep _ _ (X ++ [c]) (X ++ [c]) w13.heap.size (0, 0) _ (back_order HAP.out) (by rw [HXL.out]; omega) (by rw [HXL.out]; omega)).mono ?_
  rintro r w14 ⟨rfl, ho⟩
  have H10 := Lib.hid (back_bags ho).1
  have HPE := Lib.hid (back_bags ho).2.1
  have HPK := Lib.hid (back_bags ho).2.2
  have HI6 := Lib.hid Try.infoEntSize
  have HI1 := Lib.hid ent0_one
  simp only at H10 HPE HPK
  clear ho HAP H9
  go_wp2_with fail
  go_loopw [13] (fun i wr => ∃ j : Nat, j ≤ n.es.length ∧ i = .int .i64 (j : Int) ∧ Hid (Own w wr (Sep (BagS (.slice eo n.es.length ec) (n.es.length * 6)) (Sep (BagS (.slice ko n.ks.length kcc) n.ks.length) (Sep (Blk kb (.cells (ndc ⟨eo, ec, po, pc, ko, kcc, bo, bc⟩ n) 27 (0, 0))) (Sep (Blk pn (.cells (ndc h n) 27 (0, 0))) Emp)))))) (fun i _ => n.es.length - (intOf i).toNat)
  case atStart => exact ⟨0, Nat.zero_le _, rfl, H10⟩
  case round =>
    clear H10
    obtain ⟨j, hj, rfl, HO⟩ := hrel
    obtain ⟨d0, d1, d2, d3, d4⟩ := nod_cells HO.out.snd.snd.held
    have hEb : n.es.length ≤ 65535 := HZ.out.e
    by_cases hlt : j < n.es.length
    · obtain ⟨g, rfl⟩ : ∃ g, eo = some ⟨g, 0, none⟩ := by
        rcases HPE.out with h | h
        · omega
        · exact h
      have hltI : (j : Int) < (n.es.length : Int) := by omega
      have h0 : (0 : Int) ≤ (j : Int) := by omega
      have HT : Hid (wr.there g (j * 6) ent0.size) := Lib.hid (bag_there HO.out (o := j * 6) (k := 6) (by omega))
      go_wp2_with (with_reducible refine wpList_store_mid ?_ 45 (.tmp 105) (.tmp 104) ?_ g (j * 6) #[.string ⟨#[]⟩, .bool false, .string ⟨#[]⟩, .int .u64 0, .bool false, .string ⟨#[]⟩] ?_ ?_ ?_ ?_ ?_ ?_; rfl; rfl; simp [Act.eval]; simp [Act.eval]; exact HT.out; exact HI6.out; exact HI1.out)
      go_roundw
      case rel => exact ⟨j + 1, by omega, by go_num, Lib.hid (bag_sets _ _ _ HO.out)⟩
      case measure => simp [intOf]; omega
    · have hltI : ¬ (j : Int) < (n.es.length : Int) := by omega
      have H11 := Lib.hid HO.out.swap
      clear HO hj hlt
      go_wp2_with fail
      go_loopw [14] (fun i wr => ∃ j : Nat, j ≤ n.ks.length ∧ i = .int .i64 (j : Int) ∧ Hid (Own w wr (Sep (BagS (.slice ko n.ks.length kcc) n.ks.length) (Sep (BagS (.slice eo n.es.length ec) (n.es.length * 6)) (Sep (Blk kb (.cells (ndc ⟨eo, ec, po, pc, ko, kcc, bo, bc⟩ n) 27 (0, 0))) (Sep (Blk pn (.cells (ndc h n) 27 (0, 0))) Emp)))))) (fun i _ => n.ks.length - (intOf i).toNat)
      case atStart => exact ⟨0, Nat.zero_le _, rfl, H11⟩
      case round =>
        clear H11 d0 d1 d2 d3 d4 hltI
        obtain ⟨j, hj, rfl, HO⟩ := hrel
        obtain ⟨d0, d1, d2, d3, d4⟩ := nod_cells HO.out.snd.snd.held
        have hKb : n.ks.length ≤ 65535 := HZ.out.k
        by_cases hlt : j < n.ks.length
        · obtain ⟨g, rfl⟩ : ∃ g, ko = some ⟨g, 0, none⟩ := by
            rcases HPK.out with h | h
            · omega
            · exact h
          have hltI : (j : Int) < (n.ks.length : Int) := by omega
          have h0 : (0 : Int) ≤ (j : Int) := by omega
          obtain ⟨x, hx1, hx2⟩ := bag_cell HO.out hlt
          go_wp2_with fail
          go_roundw
          case rel => exact ⟨j + 1, by omega, by go_num, Lib.hid (bag_set HO.out _ _)⟩
          case measure => simp [intOf]; omega
        · have hltI : ¬ (j : Int) < (n.ks.length : Int) := by omega
          have H12 := Lib.hid HO.out.snd.snd.snd
          clear HO hj hlt HPE HPK HZ
          obtain ⟨c0, c1, c2, c3, c4⟩ := nod_cells H12.out.held
          go_wp2_with fail
          refine (HEA.out _ (HND.out.keep H12.out.only)).mono ?_
          rintro r w20 hp
          obtain ⟨ao2, ac2, rfl, hsl, h2⟩ := enc_get hp
          have HEE := Lib.hid (encErr_back HB.out)
          have H13 := Lib.hid (H12.out.join h2)
          have HSB2 := Lib.hid hsl
          rw [HB.out.out] at HSB2
          rw [HEE.out, HB.out.out, HXL.out]
          rw [HXL.out] at HSB2
          clear hp h2 hsl H12 c0 c1 c2 c3 c4 d0 d1 d2 d3 d4
          go_wp2_with fail
          refine (decode_any _ _ _ HSB2.out (by rw [HXL.out]; omega)).mono ?_
          rintro r w21 hp
          rcases hp with ⟨H, n2, hs2, hd, rfl, hz, ho⟩ | ⟨hd, _, _⟩
          rotate_left
          · rw [HB.out.dec] at hd; cases hd
          rw [HB.out.dec] at hd
          simp only [Option.some.injEq] at hd
          subst hd
          have HZ := Lib.hid hz
          have H14 := Lib.hid ((H13.out.join ho).alloc (.cells (ndc H n) 27))
          clear ho hz H13 HSB2
          go_upto_region 22 with fail
          generalize w21.alloc (.cells (ndc H n) 27) = w22 at *
          obtain ⟨c0, c1, c2, c3, c4⟩ := nod_cells H14.out.snd.snd.snd.held
          obtain ⟨d0, d1, d2, d3, d4⟩ := nod_cells H14.out.held
          have HKA := Lib.hid (nodr_at H14.out.snd HZ.out)
          have HNA := Lib.hid (HND.out.keep H14.out.only)
          have HNQ := Lib.hid (nodes_any H h n n w22 HKA.out HNA.out)
          clear HKA HNA
          go_wp2_with fail
          refine HNQ.out.mono ?_
          rintro e w23 ⟨r, rfl, hr, ho⟩
          obtain rfl : r = true := hr.2 rfl
          have H15 := Lib.hid (H14.out.quiet ho)
          clear hr ho HNQ H14 c0 c1 c2 c3 c4 d0 d1 d2 d3 d4
          go_wp2_with fail
          go_ret
          exact ⟨rfl, only_b H15.out.only⟩

end Go.Proofs.Ytookbmpaoljelaa
