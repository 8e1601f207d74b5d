/-
  The reference's Bytes of an inner node; Encode. (Written by wip/tools/gennodeq4.py.)
-/
import Derived.Test.YtookbmpaoljelaaNodeQ5
namespace Go.Proofs.Ytookbmpaoljelaa
open Go Go.RowKit
set_option linter.unusedVariables false
set_option linter.unusedSimpArgs false
set_option maxRecDepth 100000

set_option maxHeartbeats 16000000 in
theorem qbytes_inner (h : Nh) (n : Nd) (w : World) (H : NdAt w h n) (hlf : n.leaf = false) (hf : InnF n) :
    Calls Try.prog 23 #[ndv h n] w (BytesPost w n) := by
  have H0 := Lib.hid (R.own_outnew ((Own.start w).alloc (.cells (ndc h n) 27)))
  have HND := Lib.hid H
  have HF := Lib.hid hf
  have HEN := Lib.hid (encInner_eq hlf)
  have HLF := Lib.hid hlf
  obtain ⟨K, hK⟩ : ∃ K, n.ks.length = K := ⟨_, rfl⟩
  obtain ⟨P, hP⟩ : ∃ P, n.ps.length = P := ⟨_, rfl⟩
  obtain ⟨B, hB⟩ : ∃ B, n.bs.length = B := ⟨_, rfl⟩
  have HK := Lib.hid hK
  have HP := Lib.hid hP
  have HB := Lib.hid hB
  have hK64 : K ≤ 64 := by rw [← hK]; exact hf.lk
  have hP64 : P ≤ 64 := by rw [← hP]; exact hf.lp
  have hB64 : B ≤ 64 := by rw [← hB]; exact hf.lb
  have hwE : IntKind.u64.wrap (K : Int) = (K : Int) := u64w (num_of K (by omega))
  obtain ⟨c0, c1, c2, c3, c4⟩ := nod_cells H0.out.snd.held
  rw [hK] at c3
  rw [hlf] at c0
  clear H hf hlf hK hP hB
  rw [World.size_alloc] at H0
  go_enter Try.func23, Try.ntmps23
  go_upto_region 2 with fail
  generalize (w.alloc (.cells (ndc h n) 27)).alloc (.cells #[.slice none 0 0] 80) = w0 at *
  generalize w.heap.size + 1 = p at *
  generalize w.heap.size = pn at *
  go_wp2_with fail
  refine (R.own_flag H0.out false (by simp)).mono ?_
  rintro r w1 ⟨rfl, h1⟩
  have H1 := Lib.hid h1
  clear h1 H0
  clear c0 c1 c2 c3 c4
  obtain ⟨c0, c1, c2, c3, c4⟩ := nod_cells H1.out.snd.held
  rw [HK.out] at c3
  rw [HLF.out] at c0
  go_wp2_with fail
  try rw [hwE]
  refine (R.own_num H1.out (K : Int) 2 (num_of K (by omega)) (by decide) (by rw [List.length_append, flagB_len]; simp)).mono ?_
  rintro r w2 ⟨rfl, h1⟩
  have H2 := Lib.hid h1
  clear h1 H1
  clear c0 c1 c2 c3 c4
  obtain ⟨c0, c1, c2, c3, c4⟩ := nod_cells H2.out.snd.held
  rw [HK.out] at c3
  rw [HLF.out] at c0
  obtain ⟨x2, hx2⟩ : ∃ x, ([] ++ flagB false ++ beB 2 (K : Int).toNat : List UInt8) = x := ⟨_, rfl⟩
  have HX2 : Hid (x2.length ≤ 3) := Lib.hid (by rw [← hx2]; simp [flagB_len, beB_length])
  rw [hx2] at H2
  have HE2 := Lib.hid hx2
  clear hx2 hwE
  go_wp2_with fail
  go_loopw [6] (fun i wr => ∃ k : Nat, (k ≤ K) ∧ i = .int .i64 (k : Int) ∧ Hid (Own w wr (Sep (R.OutR p (x2 ++ (n.ks.take k).flatMap encK)) (Sep (Blk pn (.cells (ndc h n) 27 (0, 0))) Emp)))) (fun i _ => K - (intOf i).toNat)
  case atStart => exact ⟨0, Nat.zero_le _, rfl, Lib.hid (by rw [List.take_zero, List.flatMap_nil, List.append_nil]; exact H2.out)⟩
  case round =>
    clear H2 c0 c1 c2 c3 c4
    obtain ⟨k, hk, rfl, HO⟩ := hrel
    obtain ⟨c0, c1, c2, c3, c4⟩ := nod_cells HO.out.snd.held
    rw [HK.out] at c3
    by_cases hlt : k < K
    · have hkl : k < n.ks.length := by rw [HK.out]; exact hlt
      obtain ⟨g, off, he, y0⟩ := (HND.out.keep HO.out.only).k.nu (j := k) hkl
      rw [he] at c3
      have HST := Lib.hid (flat_step (f := encK) hkl)
      have HOK := Lib.hid (HF.out.k _ (getD_mem hkl))
      have HXL : Hid ((x2 ++ (n.ks.take k).flatMap encK).length ≤ 900000000) := Lib.hid (by
        have h1 := take_flat_len (f := encK) (k := k) (fun a ha => encK_len (HF.out.k a ha))
        have h2 := HX2.out
        have h3 := HK.out
        rw [List.length_append]
        omega)
      generalize n.ks.getD k default = a at *
      obtain ⟨zs, hzs⟩ : ∃ zs, x2 ++ (n.ks.take k).flatMap encK = zs := ⟨_, rfl⟩
      have HNX : Hid (x2 ++ (n.ks.take (k + 1)).flatMap encK = zs ++ encK a) := Lib.hid (by rw [HST.out, ← hzs, List.append_assoc])
      rw [hzs] at HO HXL
      have HC := Lib.hid (R.own_num HO.out a 8 HOK.out (by decide) (by have := HXL.out; omega))
      have hltI : (k : Int) < (K : Int) := by omega
      have h0 : (0 : Int) ≤ (k : Int) := by omega
      clear he hkl hzs HST HO
      go_wp2_with fail
      refine HC.out.mono ?_
      rintro r w1 ⟨rfl, h1⟩
      have HR1 : Hid (Own w w1 (Sep (R.OutR p (x2 ++ (n.ks.take (k + 1)).flatMap encK)) (Sep (Blk pn (.cells (ndc h n) 27 (0, 0))) Emp))) := Lib.hid (by rw [HNX.out]; exact h1)
      clear h1 HC y0 c0 c1 c2 c3 c4
      go_wp2_with fail
      go_roundw
      case rel => exact ⟨k + 1, by omega, by go_num, HR1⟩
      case measure => simp [intOf]; omega
    · have hltI : ¬ (k : Int) < (K : Int) := by omega
      obtain ⟨x3, hx3⟩ : ∃ x, x2 ++ n.ks.flatMap encK = x := ⟨_, rfl⟩
      have HX3 : Hid (x3.length ≤ 200000) := Lib.hid (by
        have h1 := flat_len (f := encK) n.ks (fun a ha => encK_len (HF.out.k a ha))
        have h2 := HX2.out
        have h3 := HK.out
        rw [← hx3, List.length_append]
        omega)
      have H3 : Hid (Own w wr (Sep (R.OutR p x3) (Sep (Blk pn (.cells (ndc h n) 27 (0, 0))) Emp))) := Lib.hid (by
        have := HO.out
        rwa [List.take_of_length_le (by rw [HK.out]; omega), hx3] at this)
      have HE3 := Lib.hid hx3
      clear HO hx3
      go_wp2_with fail
      clear hltI hk hlt c0 c1 c2 c3 c4
      go_loopw [7] (fun i wr => ∃ k : Nat, (k ≤ P) ∧ i = .int .i64 (k : Int) ∧ Hid (Own w wr (Sep (R.OutR p (x3 ++ (n.ps.take k).flatMap encP)) (Sep (Blk pn (.cells (ndc h n) 27 (0, 0))) Emp)))) (fun i _ => P - (intOf i).toNat)
      case atStart => exact ⟨0, Nat.zero_le _, rfl, Lib.hid (by rw [List.take_zero, List.flatMap_nil, List.append_nil]; exact H3.out)⟩
      case round =>
        clear H3
        obtain ⟨k, hk, rfl, HO⟩ := hrel
        obtain ⟨c0, c1, c2, c3, c4⟩ := nod_cells HO.out.snd.held
        rw [HP.out] at c2
        by_cases hlt : k < P
        · have hkl : k < n.ps.length := by rw [HP.out]; exact hlt
          obtain ⟨g, off, he, y0⟩ := (HND.out.keep HO.out.only).p.st (j := k) hkl
          rw [he] at c2
          have HST := Lib.hid (flat_step (f := encP) hkl)
          have HOK := Lib.hid (HF.out.p _ (getD_mem hkl))
          have HXL : Hid ((x3 ++ (n.ps.take k).flatMap encP).length ≤ 900000000) := Lib.hid (by
            have h1 := take_flat_len (f := encP) (k := k) (fun a ha => encP_len (HF.out.p a ha))
            have h2 := HX3.out
            have h3 := HP.out
            rw [List.length_append]
            omega)
          generalize n.ps.getD k default = a at *
          obtain ⟨zs, hzs⟩ : ∃ zs, x3 ++ (n.ps.take k).flatMap encP = zs := ⟨_, rfl⟩
          have HNX : Hid (x3 ++ (n.ps.take (k + 1)).flatMap encP = zs ++ encP a) := Lib.hid (by rw [HST.out, ← hzs, List.append_assoc])
          rw [hzs] at HO HXL
          have HC := Lib.hid (R.own_text HO.out a (by have := HOK.out; omega) (by have := HXL.out; have := HOK.out; omega))
          have hltI : (k : Int) < (P : Int) := by omega
          have h0 : (0 : Int) ≤ (k : Int) := by omega
          clear he hkl hzs HST HO
          go_wp2_with fail
          refine HC.out.mono ?_
          rintro r w1 ⟨rfl, h1⟩
          have HR1 : Hid (Own w w1 (Sep (R.OutR p (x3 ++ (n.ps.take (k + 1)).flatMap encP)) (Sep (Blk pn (.cells (ndc h n) 27 (0, 0))) Emp))) := Lib.hid (by rw [HNX.out]; exact h1)
          clear h1 HC y0 c0 c1 c2 c3 c4
          go_wp2_with fail
          go_roundw
          case rel => exact ⟨k + 1, by omega, by go_num, HR1⟩
          case measure => simp [intOf]; omega
        · have hltI : ¬ (k : Int) < (P : Int) := by omega
          obtain ⟨x4, hx4⟩ : ∃ x, x3 ++ n.ps.flatMap encP = x := ⟨_, rfl⟩
          have HX4 : Hid (x4.length ≤ 400000) := Lib.hid (by
            have h1 := flat_len (f := encP) n.ps (fun a ha => encP_len (HF.out.p a ha))
            have h2 := HX3.out
            have h3 := HP.out
            rw [← hx4, List.length_append]
            omega)
          have H4 : Hid (Own w wr (Sep (R.OutR p x4) (Sep (Blk pn (.cells (ndc h n) 27 (0, 0))) Emp))) := Lib.hid (by
            have := HO.out
            rwa [List.take_of_length_le (by rw [HP.out]; omega), hx4] at this)
          have HE4 := Lib.hid hx4
          clear HO hx4
          go_wp2_with fail
          clear hltI hk hlt c0 c1 c2 c3 c4
          go_loopw [8] (fun i wr => ∃ k : Nat, (k ≤ B) ∧ i = .int .i64 (k : Int) ∧ Hid (Own w wr (Sep (R.OutR p (x4 ++ (n.bs.take k).flatMap encL)) (Sep (Blk pn (.cells (ndc h n) 27 (0, 0))) Emp)))) (fun i _ => B - (intOf i).toNat)
          case atStart => exact ⟨0, Nat.zero_le _, rfl, Lib.hid (by rw [List.take_zero, List.flatMap_nil, List.append_nil]; exact H4.out)⟩
          case round =>
            clear H4
            obtain ⟨i, hi, rfl, HO⟩ := hrel
            obtain ⟨c0, c1, c2, c3, c4⟩ := nod_cells HO.out.snd.held
            rw [HB.out] at c4
            by_cases hlt : i < B
            · have hil : i < n.bs.length := by rw [HB.out]; exact hlt
              obtain ⟨g, off, ao, c, he, hb0, hsl, _⟩ := HND.out.b i hil
              rw [he] at c4
              have HBO := Lib.hid he
              have HST := Lib.hid (flat_step (f := encL) hil)
              have HOK := Lib.hid (HF.out.m _ (getD_mem hil))
              have HLL := Lib.hid (HF.out.l _ (getD_mem hil))
              have HXL : Hid ((x4 ++ (n.bs.take i).flatMap encL).length ≤ 500000000) := Lib.hid (by
                have h1 := take_flat_len (f := encL) (k := i) (fun a ha => encL_len (HF.out.m a ha) (HF.out.l a ha))
                have h2 := HX4.out
                have h3 := HB.out
                rw [List.length_append]
                omega)
              have hb := HO.out.only.cellq hb0
              have HB0 := Lib.hid hb0
              have HSL := Lib.hid hsl
              generalize n.bs.getD i default = l at *
              obtain ⟨q, hq⟩ : ∃ q, l.length = q := ⟨_, rfl⟩
              have HQ := Lib.hid hq
              have hq1 : q ≤ 1024 := by rw [← hq]; exact HLL.out
              rw [hq] at hb HB0
              have hwq : IntKind.u64.wrap (q : Int) = (q : Int) := u64w (num_of q (by omega))
              obtain ⟨zs, hzs⟩ : ∃ zs, x4 ++ (n.bs.take i).flatMap encL = zs := ⟨_, rfl⟩
              have HNX : Hid (x4 ++ (n.bs.take (i + 1)).flatMap encL = zs ++ encL l) := Lib.hid (by rw [HST.out, ← hzs, List.append_assoc])
              rw [hzs] at HO HXL
              have HC := Lib.hid (R.own_num HO.out (q : Int) 2 (num_of q (by omega)) (by decide) (by have := HXL.out; omega))
              have hltI : (i : Int) < (B : Int) := by omega
              have h0 : (0 : Int) ≤ (i : Int) := by omega
              clear he hil hzs HST HO hb0 hsl hq
              go_wp2_with fail
              try rw [hwq]
              refine HC.out.mono ?_
              rintro r w1 ⟨rfl, h1⟩
              obtain ⟨z1, hz1⟩ : ∃ z, zs ++ beB 2 (q : Int).toNat = z := ⟨_, rfl⟩
              have HZ1 : Hid (z1.length ≤ 500000002) := Lib.hid (by rw [← hz1, List.length_append, beB_length]; have := HXL.out; omega)
              rw [hz1] at h1
              have HZE := Lib.hid hz1
              have H5 := Lib.hid h1
              clear h1 hz1 HC hb hwq c0 c1 c2 c3 c4
              go_wp2_with fail
              go_loopw [9] (fun kk wz => ∃ k : Nat, (k ≤ q) ∧ kk = .int .i64 (k : Int) ∧ Hid (Own w wz (Sep (R.OutR p (z1 ++ (l.take k).flatMap encM)) (Sep (Blk pn (.cells (ndc h n) 27 (0, 0))) Emp)))) (fun kk _ => q - (intOf kk).toNat)
              case atStart => exact ⟨0, Nat.zero_le _, rfl, Lib.hid (by rw [List.take_zero, List.flatMap_nil, List.append_nil]; exact H5.out)⟩
              case round =>
                clear H5
                obtain ⟨k, hk, rfl, HO⟩ := hrel
                obtain ⟨c0, c1, c2, c3, c4⟩ := nod_cells HO.out.snd.held
                rw [HB.out, HBO.out] at c4
                have hb := HO.out.only.cellq HB0.out
                by_cases hlk : k < q
                · have hkl : k < l.length := by rw [HQ.out]; exact hlk
                  obtain ⟨g3, off3, ha3, y0, y1, y2, y3, y4, y5, y6⟩ := (HSL.out.keep HO.out.only).ms (j := k) hkl
                  rw [ha3] at hb
                  have HST2 := Lib.hid (flat_step (f := encM) hkl)
                  have HMK := Lib.hid (HOK.out _ (getD_mem hkl))
                  have HXM : Hid ((z1 ++ (l.take k).flatMap encM).length ≤ 900000000) := Lib.hid (by
                    have h1 := take_flat_len (f := encM) (k := k) (fun a ha => encM_len (HOK.out a ha))
                    have h2 := HZ1.out
                    have h3 := HQ.out
                    rw [List.length_append]
                    omega)
                  generalize l.getD k default = a at *
                  obtain ⟨zs2, hzs⟩ : ∃ zs, z1 ++ (l.take k).flatMap encM = zs := ⟨_, rfl⟩
                  have HNX2 : Hid (z1 ++ (l.take (k + 1)).flatMap encM = zs2 ++ encM a) := Lib.hid (by rw [HST2.out, ← hzs, List.append_assoc])
                  rw [hzs] at HO HXM
                  have yq0 := HXM.out
                  have ks := HMK.out.k
                  have vs := HMK.out.v
                  have hwK : IntKind.u64.wrap a.K = a.K := u64w ⟨HMK.out.K0, by have := HMK.out.K1; omega⟩
                  have hwO : IntKind.u64.wrap a.off = a.off := u64w ⟨HMK.out.o0, by have := HMK.out.o1; omega⟩
                  have HWW := Lib.hid HMK.out.w
                  have HQ0 := Lib.hid (HO.out.lend (.cells (msc a) 57))
                  have hltI : (k : Int) < (q : Int) := by omega
                  have hk0 : (0 : Int) ≤ (k : Int) := by omega
                  clear ha3 hkl hzs HST2 HO
                  go_upto_region 33 with fail
                  generalize wr.alloc (.cells (msc a) 57) = wq0 at *
                  generalize wr.heap.size = pe at *
                  clear y0 y1 y2 y3 y4 y5 y6 hb c0 c1 c2 c3 c4
                  have Q0 := HQ0
                  clear HQ0
                  obtain ⟨yQ0, hyq⟩ : ∃ y, zs2 = y := ⟨_, rfl⟩
                  rw [hyq] at Q0 yq0 HNX2
                  have lQ0 := yq0
                  clear hyq yq0 HXM
                  have e0 := blk_cell Q0.out.snd.held 0 rfl
                  have e1 := blk_cell Q0.out.snd.held 1 rfl
                  have e2 := blk_cell Q0.out.snd.held 2 rfl
                  have e3 := blk_cell Q0.out.snd.held 3 rfl
                  have e4 := blk_cell Q0.out.snd.held 4 rfl
                  have e5 := blk_cell Q0.out.snd.held 5 rfl
                  have e6 := blk_cell Q0.out.snd.held 6 rfl
                  go_wp2_with fail
                  refine (R.own_num Q0.out a.sq 8 ⟨HWW.out.s0, HWW.out.s1⟩ (by decide) (by omega)).mono ?_
                  rintro r wQ1 ⟨rfl, h1⟩
                  obtain ⟨yQ1, hys⟩ : ∃ ys, yQ0 ++ beB 8 a.sq.toNat = ys := ⟨_, rfl⟩
                  have lQ1 : yQ1.length ≤ 900000600 := by rw [← hys, List.length_append, beB_length]; omega
                  rw [hys] at h1
                  have HYQ1 := Lib.hid hys
                  have Q1 := Lib.hid h1
                  clear h1 hys Q0
                  clear e0 e1 e2 e3 e4 e5 e6
                  have e0 := blk_cell Q1.out.snd.held 0 rfl
                  have e1 := blk_cell Q1.out.snd.held 1 rfl
                  have e2 := blk_cell Q1.out.snd.held 2 rfl
                  have e3 := blk_cell Q1.out.snd.held 3 rfl
                  have e4 := blk_cell Q1.out.snd.held 4 rfl
                  have e5 := blk_cell Q1.out.snd.held 5 rfl
                  have e6 := blk_cell Q1.out.snd.held 6 rfl
                  go_wp2_with fail
                  try rw [hwK]
                  refine (R.own_num Q1.out a.K 1 ⟨HMK.out.K0, by have := HMK.out.K1; omega⟩ (by decide) (by omega)).mono ?_
                  rintro r wQ2 ⟨rfl, h1⟩
                  obtain ⟨yQ2, hys⟩ : ∃ ys, yQ1 ++ beB 1 a.K.toNat = ys := ⟨_, rfl⟩
                  have lQ2 : yQ2.length ≤ 900001200 := by rw [← hys, List.length_append, beB_length]; omega
                  rw [hys] at h1
                  have HYQ2 := Lib.hid hys
                  have Q2 := Lib.hid h1
                  clear h1 hys Q1
                  clear e0 e1 e2 e3 e4 e5 e6
                  have e0 := blk_cell Q2.out.snd.held 0 rfl
                  have e1 := blk_cell Q2.out.snd.held 1 rfl
                  have e2 := blk_cell Q2.out.snd.held 2 rfl
                  have e3 := blk_cell Q2.out.snd.held 3 rfl
                  have e4 := blk_cell Q2.out.snd.held 4 rfl
                  have e5 := blk_cell Q2.out.snd.held 5 rfl
                  have e6 := blk_cell Q2.out.snd.held 6 rfl
                  go_wp2_with fail
                  refine (R.own_text Q2.out a.k (by omega) (by omega)).mono ?_
                  rintro r wQ3 ⟨rfl, h1⟩
                  obtain ⟨yQ3, hys⟩ : ∃ ys, yQ2 ++ txtB a.k.toList = ys := ⟨_, rfl⟩
                  have lQ3 : yQ3.length ≤ 900001800 := by rw [← hys, List.length_append, txtB_len]; omega
                  rw [hys] at h1
                  have HYQ3 := Lib.hid hys
                  have Q3 := Lib.hid h1
                  clear h1 hys Q2
                  clear e0 e1 e2 e3 e4 e5 e6
                  have e0 := blk_cell Q3.out.snd.held 0 rfl
                  have e1 := blk_cell Q3.out.snd.held 1 rfl
                  have e2 := blk_cell Q3.out.snd.held 2 rfl
                  have e3 := blk_cell Q3.out.snd.held 3 rfl
                  have e4 := blk_cell Q3.out.snd.held 4 rfl
                  have e5 := blk_cell Q3.out.snd.held 5 rfl
                  have e6 := blk_cell Q3.out.snd.held 6 rfl
                  go_wp2_with fail
                  refine (R.own_num Q3.out a.x 8 ⟨HWW.out.x0, HWW.out.x1⟩ (by decide) (by omega)).mono ?_
                  rintro r wQ4 ⟨rfl, h1⟩
                  obtain ⟨yQ4, hys⟩ : ∃ ys, yQ3 ++ beB 8 a.x.toNat = ys := ⟨_, rfl⟩
                  have lQ4 : yQ4.length ≤ 900002400 := by rw [← hys, List.length_append, beB_length]; omega
                  rw [hys] at h1
                  have HYQ4 := Lib.hid hys
                  have Q4 := Lib.hid h1
                  clear h1 hys Q3
                  clear e0 e1 e2 e3 e4 e5 e6
                  have e0 := blk_cell Q4.out.snd.held 0 rfl
                  have e1 := blk_cell Q4.out.snd.held 1 rfl
                  have e2 := blk_cell Q4.out.snd.held 2 rfl
                  have e3 := blk_cell Q4.out.snd.held 3 rfl
                  have e4 := blk_cell Q4.out.snd.held 4 rfl
                  have e5 := blk_cell Q4.out.snd.held 5 rfl
                  have e6 := blk_cell Q4.out.snd.held 6 rfl
                  go_wp2_with fail
                  refine (R.own_text Q4.out a.v (by omega) (by omega)).mono ?_
                  rintro r wQ5 ⟨rfl, h1⟩
                  obtain ⟨yQ5, hys⟩ : ∃ ys, yQ4 ++ txtB a.v.toList = ys := ⟨_, rfl⟩
                  have lQ5 : yQ5.length ≤ 900003000 := by rw [← hys, List.length_append, txtB_len]; omega
                  rw [hys] at h1
                  have HYQ5 := Lib.hid hys
                  have Q5 := Lib.hid h1
                  clear h1 hys Q4
                  clear e0 e1 e2 e3 e4 e5 e6
                  have e0 := blk_cell Q5.out.snd.held 0 rfl
                  have e1 := blk_cell Q5.out.snd.held 1 rfl
                  have e2 := blk_cell Q5.out.snd.held 2 rfl
                  have e3 := blk_cell Q5.out.snd.held 3 rfl
                  have e4 := blk_cell Q5.out.snd.held 4 rfl
                  have e5 := blk_cell Q5.out.snd.held 5 rfl
                  have e6 := blk_cell Q5.out.snd.held 6 rfl
                  go_wp2_with fail
                  try rw [hwO]
                  refine (R.own_num Q5.out a.off 2 ⟨HMK.out.o0, by have := HMK.out.o1; omega⟩ (by decide) (by omega)).mono ?_
                  rintro r wQ6 ⟨rfl, h1⟩
                  obtain ⟨yQ6, hys⟩ : ∃ ys, yQ5 ++ beB 2 a.off.toNat = ys := ⟨_, rfl⟩
                  have lQ6 : yQ6.length ≤ 900003600 := by rw [← hys, List.length_append, beB_length]; omega
                  rw [hys] at h1
                  have HYQ6 := Lib.hid hys
                  have Q6 := Lib.hid h1
                  clear h1 hys Q5
                  clear e0 e1 e2 e3 e4 e5 e6
                  have e0 := blk_cell Q6.out.snd.held 0 rfl
                  have e1 := blk_cell Q6.out.snd.held 1 rfl
                  have e2 := blk_cell Q6.out.snd.held 2 rfl
                  have e3 := blk_cell Q6.out.snd.held 3 rfl
                  have e4 := blk_cell Q6.out.snd.held 4 rfl
                  have e5 := blk_cell Q6.out.snd.held 5 rfl
                  have e6 := blk_cell Q6.out.snd.held 6 rfl
                  go_wp2_with fail
                  refine (R.own_num Q6.out a.num 8 ⟨HWW.out.n0, HWW.out.n1⟩ (by decide) (by omega)).mono ?_
                  rintro r wQ7 ⟨rfl, h1⟩
                  obtain ⟨yQ7, hys⟩ : ∃ ys, yQ6 ++ beB 8 a.num.toNat = ys := ⟨_, rfl⟩
                  have lQ7 : yQ7.length ≤ 900004200 := by rw [← hys, List.length_append, beB_length]; omega
                  rw [hys] at h1
                  have HYQ7 := Lib.hid hys
                  have Q7 := Lib.hid h1
                  clear h1 hys Q6
                  clear e0 e1 e2 e3 e4 e5 e6
                  have HFI : z1 ++ (l.take (k + 1)).flatMap encM = yQ7 := by rw [HNX2.out, ← HYQ7.out, ← HYQ6.out, ← HYQ5.out, ← HYQ4.out, ← HYQ3.out, ← HYQ2.out, ← HYQ1.out]; simp [encM]
                  have HR1 : Hid (Own w wQ7 (Sep (R.OutR p (z1 ++ (l.take (k + 1)).flatMap encM)) (Sep (Blk pn (.cells (ndc h n) 27 (0, 0))) Emp))) := Lib.hid (by rw [HFI]; exact Q7.out.drop2)
                  clear Q7 HFI
                  go_wp2_with fail
                  go_roundw
                  case rel => exact ⟨k + 1, by omega, by go_num, HR1⟩
                  case measure => simp [intOf]; omega
                · have hlkI : ¬ (k : Int) < (q : Int) := by omega
                  have HR1 : Hid (Own w wr (Sep (R.OutR p (x4 ++ (n.bs.take (i + 1)).flatMap encL)) (Sep (Blk pn (.cells (ndc h n) 27 (0, 0))) Emp))) := Lib.hid (by
                    have := HO.out
                    rw [List.take_of_length_le (by rw [HQ.out]; omega)] at this
                    rw [HNX.out]
                    rw [← HZE.out] at this
                    unfold encL
                    rw [HQ.out, ← List.append_assoc]
                    rwa [Int.toNat_natCast] at this)
                  clear HO
                  go_wp2_with fail
                  go_roundw
                  case rel => exact ⟨i + 1, by omega, by go_num, HR1⟩
                  case measure => simp [intOf]; omega
            · have hltI : ¬ (i : Int) < (B : Int) := by omega
              have HFI : Hid (x4 ++ (n.bs.take i).flatMap encL = encN n) := Lib.hid (by
                rw [List.take_of_length_le (by rw [HB.out]; omega), HEN.out, ← HE4.out, ← HE3.out, ← HE2.out, HK.out]
                simp)
              rw [HFI.out] at HO
              obtain ⟨v, hc, ho⟩ := R.own_get HO.out
              have HG := Lib.hid ho
              clear ho HO
              go_wp2_with fail
              go_ret
              exact ⟨_, rfl, HG.out⟩
theorem qbytes_any (h : Nh) (n : Nd) (w : World) (H : NdAt w h n) (hr : rightB n = true) (hw : NdW n) :
    Calls Try.prog 23 #[ndv h n] w (BytesPost w n) := by
  unfold rightB at hr
  cases hl : n.leaf with
  | true =>
    rw [hl, if_pos rfl] at hr
    exact qbytes_leaf h n w H hl (leaf_fit hr hw)
  | false =>
    rw [hl, if_neg (by decide)] at hr
    exact qbytes_inner h n w H hl (inner_fit hr hw)

set_option maxHeartbeats 2000000 in
theorem qencode_any (h : Nh) (n : Nd) (w : World) (H : NdAt w h n) (hw : NdW n) : Calls Try.prog 9 #[ndv h n] w (EncPost w n) := by
  have HS := Lib.hid (NbAt.start H)
  have HR := Lib.hid (fun W (ho : NdAt W h n) => qright_any h n W ho)
  obtain ⟨c0, c1, c2, c3, c4⟩ := HS.out.cells
  cases hr : rightB n with
  | false =>
    rw [hr] at HR
    have HE : Hid (encErr n = 1) := Lib.hid (by unfold encErr; rw [hr]; rfl)
    clear hr
    go_enter Try.func9, Try.ntmps9
    go_wp2_with fail
    refine (HR.out _ HS.out.nd).mono ?_
    rintro e w1 ⟨rfl, ho⟩
    have HO := Lib.hid (HS.out.keep ho)
    clear ho HR
    go_wp2_with fail
    go_ret2
    exact enc_post_no HE.out (by decide) HO.out.only
  | true =>
    have HBY := Lib.hid (fun W (ho : NdAt W h n) => qbytes_any h n W ho hr hw)
    have HL := Lib.hid (encN_len hr hw)
    have HRT := Lib.hid hr
    rw [hr] at HR
    clear hr
    go_enter Try.func9, Try.ntmps9
    go_wp2_with fail
    refine (HR.out _ HS.out.nd).mono ?_
    rintro e w1 ⟨rfl, ho⟩
    have HO := Lib.hid (HS.out.keep ho)
    clear ho HR c0 c1 c2 c3 c4
    obtain ⟨c0, c1, c2, c3, c4⟩ := HO.out.cells
    go_wp2_with fail
    refine (HBY.out _ HO.out.nd).mono ?_
    rintro r w3 ⟨v, rfl, ho⟩
    have HEN : Hid (encErr n = if 32768 < (encN n).length then 7 else 0) := Lib.hid (by unfold encErr; rw [if_pos HRT.out])
    obtain ⟨F, hF1, hF2, hF3⟩ := ho
    obtain ⟨ao, cap, rfl⟩ := own_shapeN hF1.1
    have hlen : (encN n).length ≤ 110000000 := HL.out
    have HG : Hid (Own w w3 (RowV 5 1 (.slice ao (encN n).length cap) (encN n).length (u8s (encN n)))) := Lib.hid ⟨F, hF1, fun k hk => by have := hF2 k hk; have := HO.out.only.size; omega, HO.out.only.trans hF3 (fun _ _ h => h)⟩
    obtain ⟨E, hE⟩ : ∃ E, encN n = E := ⟨_, rfl⟩
    have HEE := Lib.hid hE
    rw [hE] at HG HEN hlen ⊢
    obtain ⟨m, hm⟩ : ∃ m, E.length = m := ⟨_, rfl⟩
    rw [hm] at hlen HG HEN ⊢
    have HM := Lib.hid hm
    clear hm hE hF1 hF2 hF3 HBY c0 c1 c2 c3 c4
    by_cases hb : 32768 < m
    · have hI : (32768 : Int) < (m : Int) := by omega
      have HE7 : Hid (encErr n = 7) := Lib.hid (by rw [HEN.out, if_pos hb])
      clear hb
      go_wp2_with fail
      go_ret2
      exact enc_post_no HE7.out (by decide) HG.out.only
    · have hI : ¬ (32768 : Int) < (m : Int) := by omega
      have HE0 : Hid (encErr n = 0) := Lib.hid (by rw [HEN.out, if_neg hb])
      clear hb
      go_wp2_with fail
      go_ret2
      refine ⟨.slice ao m cap, by rw [HE0.out]; rfl, ?_⟩
      unfold encOut
      rw [if_pos HE0.out, HEE.out, HM.out]
      exact HG.out

end Go.Proofs.Ytookbmpaoljelaa
