/-
  KeyOrder: its walk.
-/
import Derived.Test.YtpedcpehomkikaaDoorKeyO1
namespace Go.Proofs.YtpedcpehomkikaaDoor
open Go Go.RowKit
set_option linter.unusedVariables false
set_option linter.unusedSimpArgs false
set_option maxRecDepth 100000

/-- A slice's address, length and capacity. -/
def Shp (ao : Option Addr) (n c : Nat) : Prop := (ao = none ∧ n = 0 ∧ c = 0) ∨ ∃ a, ao = some a ∧ n ≤ c
theorem Shp.le {ao : Option Addr} {n c : Nat} (h : Shp ao n c) : n ≤ c := by
  rcases h with ⟨_, rfl, rfl⟩ | ⟨_, _, h⟩
  · exact Nat.le_refl _
  · exact h
theorem Shp.none {ao : Option Addr} {n c : Nat} (h : Shp ao n c) (e : ao = none) : n = 0 ∧ c = 0 := by
  rcases h with ⟨_, h1, h2⟩ | ⟨a, e2, _⟩
  · exact ⟨h1, h2⟩
  · rw [e] at e2; cases e2
theorem rem_spec (m : Nat) (hm : m ≤ 256) (z : Int) : ∃ (r : Int) (q : Nat), z.tmod ((m : Int) + 1) = r ∧ -(m : Int) ≤ r ∧ r ≤ m ∧ q ≤ m ∧ (r + (m : Int) + 1).tmod ((m : Int) + 1) = (q : Int) := by
  have h1 := Int.emod_lt_of_pos z (show (0 : Int) < (m : Int) + 1 by omega)
  have h2 := Int.emod_nonneg z (show ((m : Int) + 1) ≠ 0 by omega)
  have h3 : z.tmod ((m : Int) + 1) = z % ((m : Int) + 1) ∨ z.tmod ((m : Int) + 1) = z % ((m : Int) + 1) - ((m : Int) + 1) := by
    rw [Int.tmod_eq_emod]
    split
    · left; omega
    · right
      rw [show (((m : Int) + 1).natAbs : Int) = (m : Int) + 1 by omega]
  have lo := Int.lt_tmod_of_pos z (show (0 : Int) < (m : Int) + 1 by omega)
  refine ⟨z.tmod ((m : Int) + 1), ((z.tmod ((m : Int) + 1) + (m : Int) + 1).tmod ((m : Int) + 1)).toNat, rfl, by omega, by omega, ?_, ?_⟩
  · have h4 := Int.emod_lt_of_pos (z.tmod ((m : Int) + 1) + (m : Int) + 1) (show (0 : Int) < (m : Int) + 1 by omega)
    rw [Int.tmod_eq_emod_of_nonneg (by omega)]
    omega
  · have h5 := Int.emod_nonneg (z.tmod ((m : Int) + 1) + (m : Int) + 1) (show ((m : Int) + 1) ≠ 0 by omega)
    rw [Int.tmod_eq_emod_of_nonneg (by omega)]
    omega

theorem run_front (t e : TypeId) (i : TypeInfo) (ht : Tryd.prog.underlying t = some (.slice e)) (hi : Tryd.prog.info? e = some i) (ao : Option Addr) (n c q : Nat) (hs : Shp ao n c) (hq : q ≤ n) (W : World) :
    (Instr.slice t (.slice ao n c) none (some (.int .i64 (q : Int))) none).run Tryd.prog W = .ok (.slice ao q c) W := by
  have hc := hs.le
  have hb : (Instr.sliceBounds true n c none (some (.int .i64 (q : Int))) none).run Tryd.prog W = .ok (0, q, c) W := by
    simp [Instr.sliceBounds, run_sliceBound, (by omega : (0 : Int) ≤ q), (by omega : (q : Int) ≤ c)]
  simp only [Instr.slice, Sem.run_bind, run_underlying ht, Result.andThen, hb]
  simp [sizeOf, typeInfo, hi]
  rcases hs with ⟨rfl, rfl, rfl⟩ | ⟨a, rfl, _⟩
  · simp
  · simp [Addr.add]
theorem front_vals (ao : Option Addr) (n c q : Nat) (hs : Shp ao n c) (hq : q ≤ n) (W : World) : (Instr.slice 22 (.slice ao n c) none (some (.int .i64 (q : Int))) none).run Tryd.prog W = .ok (.slice ao q c) W := by
  obtain ⟨i0, hi0, _⟩ := info_parts Tryd.infoVal3
  exact run_front _ _ i0 Tryd.underlying22 hi0 ao n c q hs hq W
theorem front_bools (ao : Option Addr) (n c q : Nat) (hs : Shp ao n c) (hq : q ≤ n) (W : World) : (Instr.slice 23 (.slice ao n c) none (some (.int .i64 (q : Int))) none).run Tryd.prog W = .ok (.slice ao q c) W := by
  have hb3 : (Tryd.prog.info? 4).map (fun i => (i.zero, i.size, i.bytes)) = some (some (.bool false), 1, 1) := by kernel_rfl
  obtain ⟨i0, hi0, _⟩ := info_parts hb3
  exact run_front _ _ i0 Tryd.underlying23 hi0 ao n c q hs hq W
theorem step_vals {ops : Array Oper} {o : Oper} {a : Act} {w : World} {K : Act → World → Prop} {Q : Exit → Act → World → Prop} {E : Prop} (hgd : o.guard = none) (s x : Operand)
    (ho : o.op = .call { callee := .builtin .append, args := #[s, x], argTypes := #[22, 22] }) (hs : ∃ b, a.eval s = .slice (some ⟨b, 0, none⟩) 0 0)
    (xo : Option Addr) (k xc q : Nat) (vs : List Vv) (w0 : World) (hv : SlV w0 xo vs) (hsh : Shp xo k xc) (hk : k = vs.length) (hq : q ≤ k) (hk256 : k ≤ 256) (hx : a.eval x = .slice xo q xc) (h0 : Only (fun _ => False) w0 w)
    (h : ∀ g cap w', SlV w' (some ⟨g, 0, none⟩) (vs.take q) → Only (fun _ => False) w0 w' → K (a.put o.dst (.slice (some ⟨g, 0, none⟩) q cap)) w') :
    if Region.wanted o (yielded ops a.tmps) = true then Oper.wp Tryd.prog o a w K Q else E := by
  obtain ⟨b, hs⟩ := hs
  obtain ⟨i0, hi0, hz0, hz1, hz2⟩ := info_parts Tryd.infoVal3
  have hl : (vs.take q).length = q := by rw [List.length_take]; omega
  refine step_fresh hgd s x _ ho 35 i0 _ 3 32 Tryd.underlying22 hi0 hz0 hz1 hz2 rfl (by decide) b hs xo q xc (vcells (vs.take q)) hx (fun e => ⟨by have := (hsh.none e).1; omega, (hsh.none e).2⟩) (by rw [vcells_length, hl])
    (vcells_of ((hv.keep h0).take q)) (vcells_one _) (by omega) (by omega) ?_
  intro g cap w' hr ho'
  exact h g cap w' (slv_of (fun v hv' => hv.u64 v (List.mem_of_mem_take hv')) hr) (h0.trans ho' (fun _ _ h => h))
theorem step_bools {ops : Array Oper} {o : Oper} {a : Act} {w : World} {K : Act → World → Prop} {Q : Exit → Act → World → Prop} {E : Prop} (hgd : o.guard = none) (s x : Operand)
    (ho : o.op = .call { callee := .builtin .append, args := #[s, x], argTypes := #[23, 23] }) (hs : ∃ b, a.eval s = .slice (some ⟨b, 0, none⟩) 0 0)
    (xo : Option Addr) (k xc q : Nat) (ds : List Bool) (w0 wk : World) (hv : SlBo w0 xo ds) (hsh : Shp xo k xc) (hk : k = ds.length) (hq : q ≤ k) (hk256 : k ≤ 256) (hx : a.eval x = .slice xo q xc) (h0 : Only (fun _ => False) w0 wk) (h1 : Only (fun _ => False) wk w)
    (h : ∀ g cap w', SlBo w' (some ⟨g, 0, none⟩) (ds.take q) → Only (fun _ => False) wk w' → K (a.put o.dst (.slice (some ⟨g, 0, none⟩) q cap)) w') :
    if Region.wanted o (yielded ops a.tmps) = true then Oper.wp Tryd.prog o a w K Q else E := by
  have hb3 : (Tryd.prog.info? 4).map (fun i => (i.zero, i.size, i.bytes)) = some (some (.bool false), 1, 1) := by kernel_rfl
  obtain ⟨b, hs⟩ := hs
  obtain ⟨i0, hi0, hz0, hz1, hz2⟩ := info_parts hb3
  have hl : (ds.take q).length = q := by rw [List.length_take]; omega
  refine step_fresh hgd s x _ ho 4 i0 _ 1 1 Tryd.underlying23 hi0 hz0 hz1 hz2 rfl (by decide) b hs xo q xc (blv (ds.take q)) hx (fun e => ⟨by have := (hsh.none e).1; omega, (hsh.none e).2⟩) (by simp only [blv, List.length_map, hl]; omega)
    (blv_of ((hv.keep (h0.trans h1 (fun _ _ h => h))).take q)) (blv_one _) (by omega) (by omega) ?_
  intro g cap w' hr ho'
  exact h g cap w' (slbo_of hr) (h1.trans ho' (fun _ _ h => h))

/-- Where the keys have been held against one another, and where a front's key is there. -/
def NoAt (w : World) (b : Value) (wx : World) : Prop := b = .bool false ∧ Only (fun _ => False) w wx
def FrontAt (w : World) (l : List Vl) (ds : List Bool) (s e : Value) (wx : World) : Prop := ∃ (f : List UInt8) (r : Int), s = .string ⟨f.toArray⟩ ∧ e = .int .i64 r ∧ (f, r) = encE l ds ∧ Only (fun _ => False) w wx
set_option maxHeartbeats 16000000 in
theorem korder_walk (w : World) {xo yo dao : Option Addr} {xc yc dc : Nat} {xs ys : List Vv} {ds : List Bool} {z : Int} (hx : SlV w xo xs) (hxl : xs.length * 32 ≤ 140737488355328) (hxs : Shp xo xs.length xc) (hy : SlV w yo ys) (hyl : ys.length ≤ 140737488355328) (hd : SlBo w dao ds) (hdl : ds.length ≤ 140737488355328) (hds : Shp dao ds.length dc) (hT : UTab w) :
    Calls Tryd.prog 5 #[.slice xo xs.length xc, .slice yo ys.length yc, .slice dao ds.length dc, .int .i64 z] w fun e w' => e = .returned (.bool true) ∧ Below w.heap.size w w' := by
  have HXS := Lib.hid hxs
  have HDS := Lib.hid hds
  have HX := Lib.hid hx
  have HY := Lib.hid hy
  have HD := Lib.hid hd
  have HT := Lib.hid hT
  have HXL := Lib.hid hxl
  have HXU := Lib.hid (vl_lt hx.u64)
  have HYU := Lib.hid (vl_lt hy.u64)
  obtain ⟨n, hn⟩ : ∃ n, n = xs.length := ⟨_, rfl⟩
  obtain ⟨n2, hn2⟩ : ∃ n, n = ys.length := ⟨_, rfl⟩
  obtain ⟨m, hm⟩ : ∃ m, m = ds.length := ⟨_, rfl⟩
  rw [← hn, ← hn2, ← hm]
  rw [← hn] at HXS
  rw [← hm] at HDS
  have HN := Lib.hid hn
  have HN2 := Lib.hid hn2
  have HM := Lib.hid hm
  have hn42 : n * 32 ≤ 140737488355328 := by rw [hn]; exact hxl
  have HN42 := Lib.hid hn42
  clear hx hxl hy hyl hd hdl hT hxs hds hn hn2 hm hn42
  have hways : (n2 = n ∧ m = n) ∨ ((n : Int) != (n2 : Int)) = true ∨ (((n : Int) != (n2 : Int)) = false ∧ ((n : Int) != (m : Int)) = true) := by
    by_cases h1 : n = n2
    · by_cases h2 : n = m
      · exact .inl ⟨h1.symm, h2.symm⟩
      · exact .inr (.inr ⟨by simp; omega, by simp; omega⟩)
    · exact .inr (.inl (by simp; omega))
  go_enter Tryd.func5, Tryd.ntmps5
  go_wp2_with fail
  refine (kawake_any w HT.out).mono ?_
  rintro e w1 ⟨rfl, hb1⟩
  have H1 := Lib.hid (below_quiet hb1)
  clear hb1
  rcases hways with ⟨rfl, rfl⟩ | h1 | ⟨h1, h2⟩
  case inr.inl =>
    go_wp2_with fail
    go_ret
    exact ⟨rfl, only_b H1.out⟩
  case inr.inr =>
    go_wp2_with fail
    go_ret
    exact ⟨rfl, only_b H1.out⟩
  go_wp2_with fail
  go_loopw [9] (fun i wr => ∃ k : Nat, k ≤ m ∧ i = .int .i64 (k : Int) ∧ Hid (AlikeTo xs ys k) ∧ Hid (Only (fun _ => False) w wr)) (fun i _ => m - (intOf i).toNat)
  case atStart => exact ⟨0, Nat.zero_le _, rfl, Lib.hid (fun j hj => absurd hj (by omega)), H1⟩
  case round =>
    clear H1
    obtain ⟨k, hk, rfl, HAL, HO⟩ := hrel
    by_cases hlt : k < m
    · have HKX : Hid (k < xs.length) := Lib.hid (by rw [← HN.out]; exact hlt)
      have HKY : Hid (k < ys.length) := Lib.hid (by rw [← HN2.out]; exact hlt)
      have HKM : Hid (k < m) := Lib.hid hlt
      obtain ⟨v, hve⟩ : ∃ v, xs.getD k default = v := ⟨_, rfl⟩
      obtain ⟨u, hue⟩ : ∃ u, ys.getD k default = u := ⟨_, rfl⟩
      have HVE := Lib.hid hve
      have HUE := Lib.hid hue
      obtain ⟨ga, off, rfl, hva⟩ := (HX.out.keep HO.out) k HKX.out
      obtain ⟨gb, off2, rfl, hvb⟩ := (HY.out.keep HO.out) k HKY.out
      rw [hve] at hva
      rw [hue] at hvb
      have y0 := hva.k
      have x0 := hvb.k
      obtain ⟨K, N, S⟩ := v
      obtain ⟨M, O, T⟩ := u
      simp only at y0 x0
      have hltI : (k : Int) < (m : Int) := by omega
      have hk0 : (0 : Int) ≤ (k : Int) := by omega
      have hm47 : (m : Int) ≤ 140737488355328 := by have := HN42.out; omega
      clear hva hvb hve hue
      have hw4 : (K = M ∧ (K != M) = false) ∨ ((K == M) = false ∧ (K != M) = true ∧ K = 0) ∨ ((K == M) = false ∧ (K != M) = true ∧ (K != 0) = true ∧ M = 0) ∨ ((K != M) = true ∧ (K != 0) = true ∧ (M != 0) = true) := by
        by_cases h1 : K = M
        · exact .inl ⟨h1, by simpa using h1⟩
        · by_cases h2 : K = 0
          · exact .inr (.inl ⟨by simpa using h1, by simpa using h1, h2⟩)
          · by_cases h3 : M = 0
            · exact .inr (.inr (.inl ⟨by simpa using h1, by simpa using h1, by simpa using h2, h3⟩))
            · exact .inr (.inr (.inr ⟨by simpa using h1, by simpa using h2, by simpa using h3⟩))
      rcases hw4 with ⟨rfl, h1⟩ | ⟨h0, h1, rfl⟩ | ⟨h0, h1, h2, rfl⟩ | ⟨h1, h2, h3⟩
      case inr.inr.inr =>
        go_wp2_with fail
        go_quiet (fail)
        have H2 := Lib.hid (HO.out.drewN nq)
        go_wp2_with fail
        go_ret
        exact ⟨rfl, only_b H2.out⟩
      all_goals
        have HAN : Hid (AlikeTo xs ys (k + 1)) := Lib.hid (HAL.out.next (by rw [HVE.out, HUE.out]; first | (exact .inl rfl) | (exact .inr (.inl rfl)) | (exact .inr (.inr rfl))))
        go_wp2_with fail
        go_quiet (fail)
        have H2 := Lib.hid (HO.out.drewN nq)
        clear HO y0 x0
        go_wp2_with fail
        go_roundw
        case rel => exact ⟨k + 1, HKM.out, by go_num, HAN, H2⟩
        case measure => have := HKM.out; simp [intOf]; omega
    · obtain rfl : k = m := by omega
      have hltI : ¬ (k : Int) < (k : Int) := by omega
      have HALL : Hid (alike (xs.map Vv.vl) (ys.map Vv.vl)) := Lib.hid (AlikeTo.all (by rw [← HN.out, ← HN2.out]) (by rw [← HN.out]; exact HAL.out))
      have HK47 : Hid (k ≤ 140737488355328) := Lib.hid (by have := HN42.out; omega)
      clear HAL
      go_wp2_with fail
      refine (encode_any xo dao k xc k dc xs ds wr (HT.out.keep (only_b HO.out)) (HX.out.keep HO.out) (HD.out.keep HO.out) HN.out HM.out HK47.out).mono ?_
      rintro e w5 ⟨a, er, rfl, he, ho⟩
      have HO5 := Lib.hid (HO.out.trans ho (fun _ _ h => h))
      have HE := Lib.hid he
      have HXA : Hid ((⟨a.toArray⟩ : ByteArray).toList = a) := Lib.hid (ba_mk1 a)
      generalize (⟨a.toArray⟩ : ByteArray) = x at *
      clear he ho HO
      go_wp2_with fail
      refine (encode_any yo dao k yc k dc ys ds w5 (HT.out.keep (only_b HO5.out)) (HY.out.keep HO5.out) (HD.out.keep HO5.out) HN2.out HM.out HK47.out).mono ?_
      rintro e w6 ⟨b, er2, rfl, he2, ho2⟩
      have HO6 := Lib.hid (HO5.out.trans ho2 (fun _ _ h => h))
      have HE2 := Lib.hid he2
      have HYB : Hid ((⟨b.toArray⟩ : ByteArray).toList = b) := Lib.hid (ba_mk1 b)
      generalize (⟨b.toArray⟩ : ByteArray) = y at *
      clear he2 ho2 HO5
      by_cases h1 : er = 0
      case neg =>
        have hb : (er != 0) = true := by simpa using h1
        clear h1
        go_wp2_with fail
        go_ret
        exact ⟨rfl, only_b HO6.out⟩
      subst h1
      by_cases h2 : er2 = 0
      case neg =>
        have hb : (er2 != 0) = true := by simpa using h2
        clear h2
        go_wp2_with fail
        go_ret
        exact ⟨rfl, only_b HO6.out⟩
      subst h2
      obtain ⟨s1, s2, s3, s4, s5⟩ := enc_small HE.out
      obtain ⟨t1, t2, t3, t4, t5⟩ := enc_small HE2.out
      have ga := allGood_of s5 HXU.out
      have gb := allGood_of t5 HYU.out
      have hdx : ds.length = (xs.map Vv.vl).length := by rw [List.length_map, ← HN.out, ← HM.out]
      obtain ⟨c, hc⟩ : ∃ c, lord (xs.map Vv.vl) (ys.map Vv.vl) ds = c := ⟨_, rfl⟩
      have hask := key_asks (s := x.toList) (t := y.toList) HALL.out hdx ga gb (by rw [HXA.out]; exact s3) (by rw [HYB.out]; exact t3) hc
      have hk256 : k ≤ 256 := by rw [List.length_map, ← HN.out] at s1; exact s1
      obtain ⟨r, q, hr, hr1, hr2, hqk, hq⟩ := rem_spec k hk256 z
      have HFI : Hid (keyL ((xs.map Vv.vl).take q) (ds.take q) <+: y.toList ↔ (xs.map Vv.vl).take q = (ys.map Vv.vl).take q) := Lib.hid (by rw [HYB.out, t3]; exact front_iff HALL.out hdx ga gb q)
      have hfe := front_enc HE.out q
      have HFE := Lib.hid hfe.1
      have HFP : Hid (keyL ((xs.map Vv.vl).take q) (ds.take q) <+: x.toList) := Lib.hid (by rw [HXA.out]; exact hfe.2)
      have hx256 : x.size ≤ 256 := by rw [← ba_size, HXA.out]; exact s4
      have HX256 := Lib.hid hx256
      have HASK := Lib.hid hask
      have HORD : Hid (∀ W, Only (fun _ => False) w W → Calls Tryd.prog 15 #[.slice xo k xc, .slice yo k yc, .slice dao k dc] W fun e w' => e = .returned (.int .i64 c) ∧ Only (fun _ => False) W w') := Lib.hid (fun W h => by
        have := order_any xo yo dao k xc yc dc xs ys ds W (HX.out.keep h) (HY.out.keep h) (HD.out.keep h) HN.out HN2.out HM.out HK47.out
        unfold OrderPost at this
        rwa [hc] at this)
      have HK256 := Lib.hid hk256
      have HQK := Lib.hid hqk
      have HR := Lib.hid hr
      have HQ := Lib.hid hq
      have HR12 := Lib.hid (And.intro hr1 hr2)
      clear s1 s2 s3 s4 s5 t1 t2 t3 t4 t5 ga gb hdx hc hask hfe hx256 hk256 hqk hr hq hr1 hr2
      go_wp2_with fail
      refine (HORD.out w6 HO6.out).mono ?_
      rintro e w7 ⟨rfl, ho7⟩
      have HO7 := Lib.hid (HO6.out.trans ho7 (fun _ _ h => h))
      clear ho7 HO6
      have HP : Hid (NoAt w (.bool false) w7) := Lib.hid ⟨rfl, HO7.out⟩
      go_upto_region 15 with fail
      go_cut [112] (fun b wx => NoAt w b wx)
      case first =>
        rcases HASK.out with ⟨rfl, i1, i2⟩ | ⟨rfl, i1⟩ | ⟨rfl, i1, i2, i3⟩
        all_goals
          go_wp2_with fail
          go_meet
          exact HP.out
      case rest =>
        obtain ⟨rfl, ho8⟩ := hcut
        rename_i w8
        have HO8 := Lib.hid ho8
        clear ho8 HP HO7
        go_upto_region 17 with fail
        have hr := HR.out
        have hq := HQ.out
        obtain ⟨hr1, hr2⟩ := HR12.out
        have hkI : (k : Int) ≤ 256 := by have := HK256.out; omega
        have hk0I : (0 : Int) ≤ (k : Int) := by omega
        have hne : ((k : Int) + 1 == 0) = false := by rw [beq_eq_false_iff_ne]; omega
        go_upto_region 18 with fail
        clear hr hq hr1 hr2 hne
        have hs1 := fun W => front_vals xo k xc q HXS.out HQK.out W
        have hs2 := fun W => front_bools dao k dc q HDS.out HQK.out W
        go_cut [15, 16] (fun s e wx => FrontAt w ((xs.map Vv.vl).take q) (ds.take q) s e wx)
        case first =>
         go_region_law (first
          | (go_simp; go_at_call 10; refine (encode_any (some ⟨g1, 0, none⟩) (some ⟨g2, 0, none⟩) q c1 q c2 (xs.take q) (ds.take q) _ (HT.out.keep (only_b (HOA.out.trans (by repeat (first | exact HO9.out | refine Only.drew ?_ | refine Only.alloc ?_ _)) (fun _ _ h => h)))) (HS1.out.keep (by repeat (first | exact HO9.out | refine Only.drew ?_ | refine Only.alloc ?_ _))) (HB2.out.keep (by repeat (first | exact Only.refl _ _ | refine Only.drew ?_ | refine Only.alloc ?_ _))) (by have := HN.out; have := HQK.out; simp; omega) (by have := HM.out; have := HQK.out; simp; omega) (by have := HQK.out; have := HK256.out; omega)).mono ?_; rintro e w10 ⟨fa, fr, rfl, hf, hfo⟩; have HF := Lib.hid hf; have HFO := Lib.hid hfo; clear hf hfo)
          | (refine step_vals rfl (.tmp 127) (.tmp 130) rfl ?_ xo k xc q xs w HX.out HXS.out HN.out HQK.out HK256.out ?_ ?_ ?_; (go_must (exact ⟨_, rfl⟩)); (go_must (first | rfl | simp [Act.eval])); (go_must (repeat (first | exact HO8.out | refine Only.drew ?_ | refine Only.alloc ?_ _))); (go_must (intro g1 c1 wa hsa hoa; have HS1 := Lib.hid hsa; have HOA := Lib.hid hoa; clear hsa hoa)))
          | (refine step_bools rfl (.tmp 132) (.tmp 135) rfl ?_ dao k dc q ds w wa HD.out HDS.out HM.out HQK.out HK256.out ?_ HOA.out ?_ ?_; (go_must (exact ⟨_, rfl⟩)); (go_must (first | rfl | simp [Act.eval])); (go_must (repeat (first | exact Only.refl _ _ | refine Only.drew ?_ | refine Only.alloc ?_ _))); (go_must (intro g2 c2 w9 hb9 ho9; have HB2 := Lib.hid hb9; have HO9 := Lib.hid ho9; clear hb9 ho9))))
         all_goals
          have hfo := HFO.out
          have hz : Only (fun _ => False) w w10 := by
            refine Only.trans (T := fun _ => False) ?_ hfo (fun _ _ h => h)
            repeat (first | exact HOA.out.trans HO9.out (fun _ _ h => h) | refine Only.drew ?_ | refine Only.alloc ?_ _)
          clear hfo
          have HFA : Hid (FrontAt w ((xs.map Vv.vl).take q) (ds.take q) (.string ⟨fa.toArray⟩) (.int .i64 fr) w10) := Lib.hid ⟨fa, fr, rfl, rfl, by rw [← List.map_take]; exact HF.out, hz⟩
          clear hz hs1 hs2 HS1 HB2 HOA HO9 HF HFO hkI hk0I
          go_wp2_with fail
          go_meet
          exact HFA.out
        case rest =>
          obtain ⟨f, fr, rfl, rfl, hf, hof⟩ := hcut
          rename_i w11
          rw [HFE.out] at hf
          simp only [Prod.mk.injEq] at hf
          obtain ⟨hf, rfl⟩ := hf
          have hFA : (⟨f.toArray⟩ : ByteArray).toList = keyL ((xs.map Vv.vl).take q) (ds.take q) := (ba_mk1 f).trans hf
          have HO11 := Lib.hid hof
          generalize (⟨f.toArray⟩ : ByteArray) = fs at *
          rw [← hFA] at HFI HFP
          have HFS := Lib.hid hFA
          have hpl := HFP.out.length_le
          rw [ba_size, ba_size] at hpl
          have hle : (fs.size : Int) ≤ (x.size : Int) := by omega
          have hled : decide (x.size < fs.size) = false := decide_eq_false (by omega)
          have hlen : fs.size ≤ x.size := by omega
          have hex : x.extract 0 fs.size = fs := ba_eq (by
            rw [ba_take, ← ba_size fs]
            exact (List.prefix_iff_eq_take.1 HFP.out).symm)
          have hfs : fs.size ≤ 281474976710656 := by have := HX256.out; omega
          have HUN := Lib.hid (fun W => under_any fs W hfs)
          obtain ⟨op, hop⟩ : ∃ op, opL fs.toList = op := ⟨_, rfl⟩
          rw [hop] at HUN
          have HOP := Lib.hid hop
          clear hof hFA hf hpl hfs hop
          go_wp2_with fail
          refine (HUN.out _).mono ?_
          rintro e w12 ⟨t, rfl, ht, hb12⟩
          have HO12 := Lib.hid (HO11.out.trans (below_quiet hb12) (fun _ _ h => h))
          have hin : inL fs.toList t.toList op x.toList = true := by rw [ht, ← HOP.out]; exact (under_iff _ _).2 HFP.out
          have HIN : Hid (∀ W, Calls Tryd.prog 16 #[spv fs t op, .string x] W fun e w' => e = .returned (.bool true) ∧ Below W.heap.size W w') := Lib.hid (fun W => by
            have h := in_any fs t x op W
            rwa [hin] at h)
          clear ht hb12 HO11 hin
          go_wp2_with fail
          refine (HIN.out w12).mono ?_
          rintro e w13 ⟨rfl, hb13⟩
          have HO13 := Lib.hid (HO12.out.trans (below_quiet hb13) (fun _ _ h => h))
          clear hb13 HO12 HIN hex hle hled hlen
          go_wp2_with fail
          go_loopw [17, 18] (fun vb vi wr => ∃ (j : Nat) (b : Bool), j ≤ q ∧ vi = .int .i64 (j : Int) ∧ vb = .bool b ∧ Hid (b = true ↔ xs.take j = ys.take j) ∧ Hid (Only (fun _ => False) w wr)) (fun _ vi _ => q - (intOf vi).toNat)
          case atStart => exact ⟨0, true, Nat.zero_le _, rfl, rfl, Lib.hid ⟨fun _ => rfl, fun _ => rfl⟩, HO13⟩
          case round =>
            clear HO13
            obtain ⟨j, b, hj, rfl, rfl, HBJ, HO⟩ := hrel
            by_cases hltj : j < q
            · have HKX : Hid (j < xs.length) := Lib.hid (by rw [← HN.out]; have := HQK.out; omega)
              have HKY : Hid (j < ys.length) := Lib.hid (by rw [← HN2.out]; have := HQK.out; omega)
              have HJQ := Lib.hid hltj
              have hltI : (j : Int) < (q : Int) := by omega
              have hqI : (q : Int) ≤ 256 := by have := HQK.out; have := HK256.out; omega
              have HTA := Lib.hid (take_vv HKX.out)
              have HTB := Lib.hid (take_vv HKY.out)
              cases b with
              | false =>
                have HB2 : Hid (false = true ↔ xs.take (j + 1) = ys.take (j + 1)) := Lib.hid (by
                  rw [HTA.out, HTB.out]
                  refine ⟨(fun h => by cases h), fun h => ?_⟩
                  have hh := HBJ.out.2 (List.append_inj h (by have := HKX.out; have := HKY.out; simp; omega)).1
                  simp at hh)
                go_wp2_with fail
                go_quiet (fail)
                have H2 := Lib.hid (HO.out.drewN nq)
                clear HO
                go_wp2_with fail
                go_roundw
                case rel => exact ⟨j + 1, false, HJQ.out, by go_num, rfl, HB2, H2⟩
                case measure => have := HJQ.out; simp [intOf]; omega
              | true =>
                obtain ⟨v, hve⟩ : ∃ v, xs.getD j default = v := ⟨_, rfl⟩
                obtain ⟨u, hue⟩ : ∃ u, ys.getD j default = u := ⟨_, rfl⟩
                rw [hve] at HTA
                rw [hue] at HTB
                obtain ⟨ga, off, rfl, hva⟩ := (HX.out.keep HO.out) j HKX.out
                obtain ⟨gb, off2, rfl, hvb⟩ := (HY.out.keep HO.out) j HKY.out
                rw [hve] at hva
                rw [hue] at hvb
                obtain ⟨y0, y1, y2, hu1⟩ := hva
                obtain ⟨z0, z1, z2, hu2⟩ := hvb
                obtain ⟨c2, hc2⟩ : ∃ c, vcmp v.vl u.vl = c := ⟨_, rfl⟩
                have HCE : Hid (c2 = 0 ↔ v = u) := Lib.hid (by
                  rw [← hc2]
                  constructor
                  · exact fun h => vv_ext hu1 hu2 ((vcmp_eq v.vl u.vl (u64_m hu1) (u64_m hu2)).1 h)
                  · rintro rfl
                    exact vcmp_self _)
                have HCM : Hid (∀ W, Calls Tryd.prog 18 #[vlv v.K v.N v.S, vlv u.K u.N u.S] W fun e w' => e = .returned (.int .i64 c2) ∧ Below W.heap.size W w') := Lib.hid (fun W => by
                  have h := rcmp_any (K := v.K) (s := v.S) (L := u.K) (t := u.S) hu1 hu2 W
                  rw [show vcmp (vl v.K v.N v.S) (vl u.K u.N u.S) = c2 from hc2] at h
                  exact h)
                have hj0 : (0 : Int) ≤ (j : Int) := by omega
                have hjk : (j : Int) < (k : Int) := by have := HQK.out; omega
                clear hve hue hu1 hu2 hc2
                go_wp2_with fail
                go_still_tail 10, (by kernel_rfl)
                change wpList _ _ _ _ _ wr.drew
                clear y0 y1 y2 z0 z1 z2
                have HO2 := Lib.hid HO.out.drew
                clear HO
                go_wp2_with fail
                refine (HCM.out _).mono ?_
                rintro e w14 ⟨rfl, hb14⟩
                have HO4 := Lib.hid (HO2.out.trans (below_quiet hb14) (fun _ _ h => h))
                have HB2 : Hid ((c2 == 0) = true ↔ xs.take (j + 1) = ys.take (j + 1)) := Lib.hid (by
                  rw [HTA.out, HTB.out, HBJ.out.1 (by first | rfl | trivial), beq_iff_eq, HCE.out]
                  constructor
                  · rintro rfl; rfl
                  · intro h; simpa using List.append_cancel_left h)
                obtain ⟨b2, hb2⟩ : ∃ b2, (c2 == 0) = b2 := ⟨_, rfl⟩
                rw [hb2] at HB2
                clear hb14 HO2 HCM
                go_wp2_with fail
                go_roundw
                case rel => exact ⟨j + 1, b2, HJQ.out, by go_num, rfl, HB2, HO4⟩
                case measure => have := HJQ.out; simp [intOf]; omega
            · obtain rfl : j = q := by omega
              have hltI : ¬ (j : Int) < (j : Int) := by omega
              go_wp2_with fail
              refine (HUN.out wr).mono ?_
              rintro e w15 ⟨t5, rfl, ht5, hb15⟩
              have HO15 := Lib.hid (HO.out.trans (below_quiet hb15) (fun _ _ h => h))
              have hin : inL fs.toList t5.toList op y.toList = b := by
                rw [ht5, ← HOP.out, Bool.eq_iff_iff]
                refine (under_iff _ _).trans (HFI.out.trans ?_)
                rw [HBJ.out, ← List.map_take, ← List.map_take]
                constructor
                · exact fun h => vv_map (fun v hv => HX.out.u64 v (List.mem_of_mem_take hv)) (fun v hv => HY.out.u64 v (List.mem_of_mem_take hv)) h
                · intro h; rw [h]
              have HIN : Hid (∀ W, Calls Tryd.prog 16 #[spv fs t5 op, .string y] W fun e w' => e = .returned (.bool b) ∧ Below W.heap.size W w') := Lib.hid (fun W => by
                have h := in_any fs t5 y op W
                rwa [hin] at h)
              clear ht5 hb15 HO hin
              go_wp2_with fail
              refine (HIN.out w15).mono ?_
              rintro e w16 ⟨rfl, hb16⟩
              have HO16 := Lib.hid (HO15.out.trans (below_quiet hb16) (fun _ _ h => h))
              clear hb16 HO15 HIN HBJ
              cases b
              all_goals
                go_wp2_with fail
                go_ret
                exact ⟨rfl, only_b HO16.out⟩

end Go.Proofs.YtpedcpehomkikaaDoor
