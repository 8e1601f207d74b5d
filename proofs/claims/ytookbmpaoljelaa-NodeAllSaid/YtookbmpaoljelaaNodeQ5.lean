/-
  The reference's Bytes and Encode. (Written by wip/tools/gennodeq4.py.)
-/
import Derived.Test.YtookbmpaoljelaaNodeQ4
import Derived.Test.YtookbmpaoljelaaNodeQ3
import Derived.Test.YtookbmpaoljelaaNode9
namespace Go.Proofs.Ytookbmpaoljelaa
open Go Go.RowKit
set_option linter.unusedVariables false
set_option linter.unusedSimpArgs false
set_option maxRecDepth 100000

def BytesPost (w : World) (n : Nd) (e : Ending) (w' : World) : Prop := ∃ v, e = .returned v ∧ Own w w' (RowV 5 1 v (encN n).length (u8s (encN n)))
theorem num_of (n : Nat) (h : n < 18446744073709551616) : NumW (n : Int) := ⟨by omega, by omega⟩
theorem u64w {z : Int} (h : NumW z) : IntKind.u64.wrap z = z := by
  have h1 := h.1
  have h2 := h.2
  rw [IntKind.wrap_u64]
  omega
abbrev enc6 (a : En) : Array Value := #[.string a.k, .bool a.h, .string a.v, .int .u64 a.x, .bool a.n, .string a.nv]
set_option maxHeartbeats 8000000 in
theorem qbytes_leaf (h : Nh) (n : Nd) (w : World) (H : NdAt w h n) (hlf : n.leaf = true) (hf : LeafF n) :
    Calls Try.prog 23 #[ndv h n] w (BytesPost w n) := by
  have H0 := Lib.hid (R.own_outnew ((Own.start w).alloc (.cells (ndc h n) 27)))
  have HND := Lib.hid H
  have HF := Lib.hid hf
  have HEN := Lib.hid (encLeaf_eq hlf)
  have HLE := Lib.hid hf.l
  have HLF := Lib.hid hlf
  obtain ⟨E, hE⟩ : ∃ E, n.es.length = E := ⟨_, rfl⟩
  have HE := Lib.hid hE
  have hE255 : E ≤ 255 := by rw [← hE]; exact hf.l
  have hwE : IntKind.u64.wrap (E : Int) = (E : Int) := u64w (num_of E (by omega))
  obtain ⟨c0, c1, c2, c3, c4⟩ := nod_cells H0.out.snd.held
  rw [hE] at c1
  rw [hlf] at c0
  clear H hf hlf hE
  rw [World.size_alloc] at H0
  go_enter Try.func23, Try.ntmps23
  go_upto_region 2 with fail
  generalize (w.alloc (.cells (ndc h n) 27)).alloc (.cells #[.slice none 0 0] 80) = w0 at *
  generalize w.heap.size + 1 = p at *
  generalize w.heap.size = pn at *
  have ly0 : ([] : List UInt8).length ≤ 0 := Nat.le_refl _
  go_wp2_with fail
  refine (R.own_flag H0.out true (by simp)).mono ?_
  rintro r w1 ⟨rfl, h1⟩
  have H1 := Lib.hid h1
  clear h1 H0
  clear c0 c1 c2 c3 c4
  obtain ⟨c0, c1, c2, c3, c4⟩ := nod_cells H1.out.snd.held
  rw [HE.out] at c1
  rw [HLF.out] at c0
  go_wp2_with fail
  try rw [hwE]
  refine (R.own_num H1.out (E : Int) 2 (num_of E (by omega)) (by decide) (by rw [List.length_append, flagB_len]; simp)).mono ?_
  rintro r w2 ⟨rfl, h1⟩
  have H2 := Lib.hid h1
  clear h1 H1
  clear c0 c1 c2 c3 c4
  obtain ⟨c0, c1, c2, c3, c4⟩ := nod_cells H2.out.snd.held
  rw [HE.out] at c1
  rw [HLF.out] at c0
  obtain ⟨x2, hx2⟩ : ∃ x, ([] ++ flagB true ++ beB 2 (E : Int).toNat : List UInt8) = x := ⟨_, rfl⟩
  have HX2 : Hid (x2.length ≤ 3) := Lib.hid (by rw [← hx2]; simp [flagB_len, beB_length])
  rw [hx2] at H2
  have HE2 := Lib.hid hx2
  clear hx2 hwE
  go_wp2_with fail
  go_loopw [4] (fun i wr => ∃ k : Nat, (k ≤ E) ∧ i = .int .i64 (k : Int) ∧ Hid (Own w wr (Sep (R.OutR p (x2 ++ (n.es.take k).flatMap encE)) (Sep (Blk pn (.cells (ndc h n) 27 (0, 0))) Emp)))) (fun i _ => E - (intOf i).toNat)
  case atStart => exact ⟨0, Nat.zero_le _, rfl, Lib.hid (by rw [List.take_zero, List.flatMap_nil, List.append_nil]; exact H2.out)⟩
  case round =>
    clear H2 c0 c1 c2 c3 c4
    obtain ⟨k, hk, rfl, HO⟩ := hrel
    obtain ⟨c0, c1, c2, c3, c4⟩ := nod_cells HO.out.snd.held
    rw [HE.out] at c1
    rw [HLF.out] at c0
    by_cases hlt : k < E
    · have hkl : k < n.es.length := by rw [HE.out]; exact hlt
      obtain ⟨g, off, he, y0, y1, y2, y3, y4, y5⟩ := (HND.out.keep HO.out.only).e.en (j := k) hkl
      rw [he] at c1
      have HEO := Lib.hid he
      have HST := Lib.hid (flat_step (f := encE) hkl)
      have HOK := Lib.hid (HF.out.e _ (getD_mem hkl))
      have HXL : Hid ((x2 ++ (n.es.take k).flatMap encE).length ≤ 900000000) := Lib.hid (by
        have h1 := take_flat_len (f := encE) (k := k) (fun a ha => encE_len (HF.out.e a ha))
        have h2 := HX2.out
        have h3 := HE.out
        rw [List.length_append]
        omega)
      generalize n.es.getD k default = a at *
      obtain ⟨zs, hzs⟩ : ∃ zs, x2 ++ (n.es.take k).flatMap encE = zs := ⟨_, rfl⟩
      have HNX : Hid (x2 ++ (n.es.take (k + 1)).flatMap encE = zs ++ encE a) := Lib.hid (by rw [HST.out, ← hzs, List.append_assoc])
      rw [hzs] at HO HXL
      have yq0 := HXL.out
      have ks := HOK.out.k
      have vs := HOK.out.v
      have ns := HOK.out.n
      have HQ0 := Lib.hid (HO.out.lend (.cells (enc6 a) 45))
      have hltI : (k : Int) < (E : Int) := by omega
      have h0 : (0 : Int) ≤ (k : Int) := by omega
      clear he hkl hzs HST HO
      go_upto_region 9 with fail
      generalize wr.alloc (.cells (enc6 a) 45) = wq0 at *
      generalize wr.heap.size = pe at *
      clear y0 y1 y2 y3 y4 y5 c0 c1 c2 c3 c4
      have Q0 := HQ0
      clear HQ0
      obtain ⟨yQ0, hyq⟩ : ∃ y, zs = y := ⟨_, rfl⟩
      rw [hyq] at Q0 yq0 HNX
      have lQ0 := yq0
      clear hyq yq0 HXL
      have e0 := blk_cell Q0.out.snd.held 0 rfl
      have e1 := blk_cell Q0.out.snd.held 1 rfl
      have e2 := blk_cell Q0.out.snd.held 2 rfl
      have e3 := blk_cell Q0.out.snd.held 3 rfl
      have e4 := blk_cell Q0.out.snd.held 4 rfl
      have e5 := blk_cell Q0.out.snd.held 5 rfl
      go_wp2_with fail
      refine (R.own_text Q0.out a.k (by omega) (by omega)).mono ?_
      rintro r wQ1 ⟨rfl, h1⟩
      obtain ⟨yQ1, hys⟩ : ∃ ys, yQ0 ++ txtB a.k.toList = ys := ⟨_, rfl⟩
      have lQ1 : yQ1.length ≤ 900000600 := by rw [← hys, List.length_append, txtB_len]; omega
      rw [hys] at h1
      have HYQ1 := Lib.hid hys
      have Q1 := Lib.hid h1
      clear h1 hys Q0
      clear e0 e1 e2 e3 e4 e5
      have e0 := blk_cell Q1.out.snd.held 0 rfl
      have e1 := blk_cell Q1.out.snd.held 1 rfl
      have e2 := blk_cell Q1.out.snd.held 2 rfl
      have e3 := blk_cell Q1.out.snd.held 3 rfl
      have e4 := blk_cell Q1.out.snd.held 4 rfl
      have e5 := blk_cell Q1.out.snd.held 5 rfl
      go_wp2_with fail
      refine (R.own_flag Q1.out a.h (by omega)).mono ?_
      rintro r wQ2 ⟨rfl, h1⟩
      obtain ⟨yQ2, hys⟩ : ∃ ys, yQ1 ++ flagB a.h = ys := ⟨_, rfl⟩
      have lQ2 : yQ2.length ≤ 900001200 := by rw [← hys, List.length_append, flagB_len]; omega
      rw [hys] at h1
      have HYQ2 := Lib.hid hys
      have Q2 := Lib.hid h1
      clear h1 hys Q1
      clear e0 e1 e2 e3 e4 e5
      have e0 := blk_cell Q2.out.snd.held 0 rfl
      have e1 := blk_cell Q2.out.snd.held 1 rfl
      have e2 := blk_cell Q2.out.snd.held 2 rfl
      have e3 := blk_cell Q2.out.snd.held 3 rfl
      have e4 := blk_cell Q2.out.snd.held 4 rfl
      have e5 := blk_cell Q2.out.snd.held 5 rfl
      go_wp2_with fail
      refine (R.own_text Q2.out a.v (by omega) (by omega)).mono ?_
      rintro r wQ3 ⟨rfl, h1⟩
      obtain ⟨yQ3, hys⟩ : ∃ ys, yQ2 ++ txtB a.v.toList = ys := ⟨_, rfl⟩
      have lQ3 : yQ3.length ≤ 900001800 := by rw [← hys, List.length_append, txtB_len]; omega
      rw [hys] at h1
      have HYQ3 := Lib.hid hys
      have Q3 := Lib.hid h1
      clear h1 hys Q2
      clear e0 e1 e2 e3 e4 e5
      have e0 := blk_cell Q3.out.snd.held 0 rfl
      have e1 := blk_cell Q3.out.snd.held 1 rfl
      have e2 := blk_cell Q3.out.snd.held 2 rfl
      have e3 := blk_cell Q3.out.snd.held 3 rfl
      have e4 := blk_cell Q3.out.snd.held 4 rfl
      have e5 := blk_cell Q3.out.snd.held 5 rfl
      go_wp2_with fail
      refine (R.own_num Q3.out a.x 8 HOK.out.x (by decide) (by omega)).mono ?_
      rintro r wQ4 ⟨rfl, h1⟩
      obtain ⟨yQ4, hys⟩ : ∃ ys, yQ3 ++ beB 8 a.x.toNat = ys := ⟨_, rfl⟩
      have lQ4 : yQ4.length ≤ 900002400 := by rw [← hys, List.length_append, beB_length]; omega
      rw [hys] at h1
      have HYQ4 := Lib.hid hys
      have Q4 := Lib.hid h1
      clear h1 hys Q3
      clear e0 e1 e2 e3 e4 e5
      have e0 := blk_cell Q4.out.snd.held 0 rfl
      have e1 := blk_cell Q4.out.snd.held 1 rfl
      have e2 := blk_cell Q4.out.snd.held 2 rfl
      have e3 := blk_cell Q4.out.snd.held 3 rfl
      have e4 := blk_cell Q4.out.snd.held 4 rfl
      have e5 := blk_cell Q4.out.snd.held 5 rfl
      go_wp2_with fail
      refine (R.own_flag Q4.out a.n (by omega)).mono ?_
      rintro r wQ5 ⟨rfl, h1⟩
      obtain ⟨yQ5, hys⟩ : ∃ ys, yQ4 ++ flagB a.n = ys := ⟨_, rfl⟩
      have lQ5 : yQ5.length ≤ 900003000 := by rw [← hys, List.length_append, flagB_len]; omega
      rw [hys] at h1
      have HYQ5 := Lib.hid hys
      have Q5 := Lib.hid h1
      clear h1 hys Q4
      clear e0 e1 e2 e3 e4 e5
      have e0 := blk_cell Q5.out.snd.held 0 rfl
      have e1 := blk_cell Q5.out.snd.held 1 rfl
      have e2 := blk_cell Q5.out.snd.held 2 rfl
      have e3 := blk_cell Q5.out.snd.held 3 rfl
      have e4 := blk_cell Q5.out.snd.held 4 rfl
      have e5 := blk_cell Q5.out.snd.held 5 rfl
      go_wp2_with fail
      refine (R.own_text Q5.out a.nv (by omega) (by omega)).mono ?_
      rintro r wQ6 ⟨rfl, h1⟩
      obtain ⟨yQ6, hys⟩ : ∃ ys, yQ5 ++ txtB a.nv.toList = ys := ⟨_, rfl⟩
      have lQ6 : yQ6.length ≤ 900003600 := by rw [← hys, List.length_append, txtB_len]; omega
      rw [hys] at h1
      have HYQ6 := Lib.hid hys
      have Q6 := Lib.hid h1
      clear h1 hys Q5
      clear e0 e1 e2 e3 e4 e5
      have HFI : x2 ++ (n.es.take (k + 1)).flatMap encE = yQ6 := by rw [HNX.out, ← HYQ6.out, ← HYQ5.out, ← HYQ4.out, ← HYQ3.out, ← HYQ2.out, ← HYQ1.out]; simp [encE]
      have HR1 : Hid (Own w wQ6 (Sep (R.OutR p (x2 ++ (n.es.take (k + 1)).flatMap encE)) (Sep (Blk pn (.cells (ndc h n) 27 (0, 0))) Emp))) := Lib.hid (by rw [HFI]; exact Q6.out.drop2)
      clear Q6 HFI
      go_wp2_with fail
      go_roundw
      case rel => exact ⟨k + 1, by omega, by go_num, HR1⟩
      case measure => simp [intOf]; omega
    · have hltI : ¬ (k : Int) < (E : Int) := by omega
      have HFI : Hid (x2 ++ (n.es.take k).flatMap encE = encN n) := Lib.hid (by
        rw [List.take_of_length_le (by rw [HE.out]; omega), HEN.out, ← HE2.out, HE.out]
        simp)
      rw [HFI.out] at HO
      obtain ⟨v, hc, ho⟩ := R.own_get HO.out
      have HG := Lib.hid ho
      clear ho HO
      go_wp2_with fail
      go_ret
      exact ⟨_, rfl, HG.out⟩

end Go.Proofs.Ytookbmpaoljelaa
