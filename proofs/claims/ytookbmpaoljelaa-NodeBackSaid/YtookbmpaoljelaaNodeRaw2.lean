/-
  Two nodes held against one another (granaryraw's Nodes).
-/
import Derived.Test.YtookbmpaoljelaaNodeRaw
import Derived.Test.YtookbmpaoljelaaNode9
namespace Go.Proofs.Ytookbmpaoljelaa
open Go Go.RowKit
set_option linter.unusedVariables false
set_option linter.unusedSimpArgs false
set_option maxRecDepth 100000

/-- Where a comparison of two nodes stands. -/
structure N2At (w W : World) (pa pb : Nat) (h k : Nh) (n m : Nd) : Prop where
  a : W.heap[pa]? = some (.cells (ndc h n) 27 (0, 0))
  b : W.heap[pb]? = some (.cells (ndc k m) 27 (0, 0))
  na : NdAt W h n
  nb : NdAt W k m
  only : Only (fun _ => False) w W
theorem N2At.keep {w W W' : World} {pa pb : Nat} {h k : Nh} {n m : Nd} (H : N2At w W pa pb h k n m) (ho : Only (fun _ => False) W W') : N2At w W' pa pb h k n m :=
  ⟨qkeep ho H.a, qkeep ho H.b, H.na.keep ho, H.nb.keep ho, H.only.trans ho (fun _ _ h => h)⟩
theorem N2At.start {w : World} {h k : Nh} {n m : Nd} (hn : NdAt w h n) (hm : NdAt w k m) : N2At w ((w.alloc (.cells (ndc h n) 27)).alloc (.cells (ndc k m) 27)) w.heap.size (w.heap.size + 1) h k n m := by
  have ho := ((Only.refl (fun _ => False) w).alloc (.cells (ndc h n) 27)).alloc (.cells (ndc k m) 27)
  have hb := heap_alloc_new (w.alloc (.cells (ndc h n) 27)) (.cells (ndc k m) 27)
  rw [World.size_alloc] at hb
  exact ⟨qkeep ((Only.refl (fun _ => False) (w.alloc (.cells (ndc h n) 27))).alloc _) (heap_alloc_new w _), hb, hn.keep ho, hm.keep ho, ho⟩
def NqPost (n m : Nd) (w : World) (e : Ending) (w' : World) : Prop := ∃ r : Bool, e = .returned (.bool r) ∧ (r = true ↔ n = m) ∧ Only (fun _ => False) w w'
theorem nq_no {n m : Nd} {w w' : World} (h : n ≠ m) (ho : Only (fun _ => False) w w') : NqPost n m w (.returned (.bool false)) w' := ⟨false, rfl, ⟨(fun h => by cases h), fun e => absurd e h⟩, ho⟩
theorem nq_yes {n m : Nd} {w w' : World} (h : n = m) (ho : Only (fun _ => False) w w') : NqPost n m w (.returned (.bool true)) w' := ⟨true, rfl, ⟨fun _ => h, fun _ => rfl⟩, ho⟩

set_option maxHeartbeats 8000000 in
theorem nodes_any (h k : Nh) (n m : Nd) (w : World) (hn : NdAt w h n) (hm : NdAt w k m) : Calls Try.prog 19 #[ndv h n, ndv k m] w (NqPost n m w) := by
  have HS := Lib.hid (N2At.start hn hm)
  have le := hn.le
  have lp := hn.lp
  have lk := hn.lk
  have lb := hn.lb
  have le' := hm.le
  have lp' := hm.lp
  have lk' := hm.lk
  have lb' := hm.lb
  obtain ⟨c0, c1, c2, c3, c4⟩ := nod_cells HS.out.a
  obtain ⟨d0, d1, d2, d3, d4⟩ := nod_cells HS.out.b
  clear hn hm
  by_cases hlf : n.leaf = m.leaf
  rotate_left
  · have hne : Hid (n ≠ m) := Lib.hid (fun e => hlf (by rw [e]))
    have hb : (n.leaf != m.leaf) = true := by rw [bne_iff_ne]; exact hlf
    have hb2 : (n.leaf == m.leaf) = false := by rw [beq_eq_false_iff_ne]; exact hlf
    clear hlf
    go_enter Try.func19, Try.ntmps19
    go_wp2_with fail
    go_ret
    exact nq_no hne.out HS.out.only
  have hb : (n.leaf != m.leaf) = false := by rw [hlf]; simp
  have hb2 : (n.leaf == m.leaf) = true := by rw [hlf]; simp
  have HLF := Lib.hid hlf
  clear hlf
  have HE := Lib.hid (fun W (hs : N2At w W w.heap.size (w.heap.size + 1) h k n m) => eql_e h.eo k.eo n.es.length h.ec m.es.length k.ec n.es m.es W hs.na.e hs.nb.e rfl rfl le le')
  have HT := Lib.hid (fun W (hs : N2At w W w.heap.size (w.heap.size + 1) h k n m) => eql_s h.po k.po n.ps.length h.pc m.ps.length k.pc n.ps m.ps W hs.na.p hs.nb.p rfl rfl lp lp')
  go_enter Try.func19, Try.ntmps19
  go_wp2_with fail
  refine (HE.out _ HS.out).mono ?_
  rintro e w1 ⟨r1, rfl, hr, ho⟩
  have HR1 := Lib.hid hr
  have HS1 := Lib.hid (HS.out.keep ho)
  clear hr ho HS HE c0 c1 c2 c3 c4 d0 d1 d2 d3 d4
  obtain ⟨c0, c1, c2, c3, c4⟩ := nod_cells HS1.out.a
  obtain ⟨d0, d1, d2, d3, d4⟩ := nod_cells HS1.out.b
  cases r1 with
  | false =>
    have hne : Hid (n ≠ m) := Lib.hid (fun e => by have := HR1.out.2 (by rw [e]); cases this)
    clear HR1
    go_wp2_with fail
    go_ret
    exact nq_no hne.out HS1.out.only
  | true =>
  have HEE : Hid (n.es = m.es) := Lib.hid (HR1.out.1 rfl)
  clear HR1
  go_wp2_with fail
  refine (HT.out _ HS1.out).mono ?_
  rintro e w2 ⟨r2, rfl, hr, ho⟩
  have HR2 := Lib.hid hr
  have HS2 := Lib.hid (HS1.out.keep ho)
  clear hr ho HS1 HT c0 c1 c2 c3 c4 d0 d1 d2 d3 d4
  obtain ⟨c0, c1, c2, c3, c4⟩ := nod_cells HS2.out.a
  obtain ⟨d0, d1, d2, d3, d4⟩ := nod_cells HS2.out.b
  cases r2 with
  | false =>
    have hne : Hid (n ≠ m) := Lib.hid (fun e => by have := HR2.out.2 (by rw [e]); cases this)
    clear HR2
    go_wp2_with fail
    go_ret
    exact nq_no hne.out HS2.out.only
  | true =>
  have HPE : Hid (n.ps = m.ps) := Lib.hid (HR2.out.1 rfl)
  clear HR2
  obtain ⟨K, hK⟩ : ∃ K, n.ks.length = K := ⟨_, rfl⟩
  obtain ⟨K2, hK2⟩ : ∃ K, m.ks.length = K := ⟨_, rfl⟩
  obtain ⟨B, hB⟩ : ∃ B, n.bs.length = B := ⟨_, rfl⟩
  obtain ⟨B2, hB2⟩ : ∃ B, m.bs.length = B := ⟨_, rfl⟩
  rw [hK] at c3 lk
  rw [hK2] at d3 lk'
  rw [hB] at c4 lb
  rw [hB2] at d4 lb'
  have HK := Lib.hid hK
  have HK2 := Lib.hid hK2
  have HB := Lib.hid hB
  have HB2 := Lib.hid hB2
  clear hK hK2 hB hB2
  by_cases hkk : K = K2
  rotate_left
  · have hne : Hid (n ≠ m) := Lib.hid (fun e => hkk (by rw [← HK.out, ← HK2.out, e]))
    have q1 : ((K : Int) != (K2 : Int)) = true := by rw [bne_iff_ne]; omega
    clear hkk
    go_wp2_with fail
    go_ret
    exact nq_no hne.out HS2.out.only
  subst hkk
  by_cases hbb : B = B2
  rotate_left
  · have hne : Hid (n ≠ m) := Lib.hid (fun e => hbb (by rw [← HB.out, ← HB2.out, e]))
    have q1 : ((B : Int) != (B2 : Int)) = true := by rw [bne_iff_ne]; omega
    clear hbb
    go_wp2_with fail
    go_ret
    exact nq_no hne.out HS2.out.only
  subst hbb
  go_wp2_with fail
  clear c0 c1 c2 c3 c4 d0 d1 d2 d3 d4
  go_loopw [5] (fun i wr => ∃ (q : Nat), q ≤ K ∧ i = .int .i64 (q : Int) ∧ Hid (n.ks.take q = m.ks.take q) ∧ Hid (N2At w wr w.heap.size (w.heap.size + 1) h k n m)) (fun i _ => K - (intOf i).toNat)
  case atStart => exact ⟨0, Nat.zero_le _, rfl, Lib.hid rfl, HS2⟩
  case round =>
    clear HS2
    obtain ⟨q, hq, rfl, HT, HO⟩ := hrel
    obtain ⟨_, _, _, c3, c4⟩ := nod_cells HO.out.a
    obtain ⟨_, _, _, d3, d4⟩ := nod_cells HO.out.b
    rw [HK.out] at c3
    rw [HK2.out] at d3
    rw [HB.out] at c4
    rw [HB2.out] at d4
    by_cases hlt : q < K
    · have HKA : Hid (q < n.ks.length) := Lib.hid (by rw [HK.out]; exact hlt)
      have HKB : Hid (q < m.ks.length) := Lib.hid (by rw [HK2.out]; exact hlt)
      obtain ⟨g, off, ha, y0⟩ := HO.out.na.k.nu HKA.out
      obtain ⟨g2, off2, hb0, x0⟩ := HO.out.nb.k.nu HKB.out
      rw [ha] at c3
      rw [hb0] at d3
      have HTA := Lib.hid (take_of HKA.out)
      have HTB := Lib.hid (take_of HKB.out)
      generalize n.ks.getD q default = v at *
      generalize m.ks.getD q default = u at *
      have hltI : (q : Int) < (K : Int) := by omega
      have h0 : (0 : Int) ≤ (q : Int) := by omega
      have HNE : Hid (v ≠ u → n ≠ m) := Lib.hid (fun hx e => hx (by
        have e1 : n.ks.take (q + 1) = m.ks.take (q + 1) := by rw [e]
        rw [HTA.out, HTB.out, HT.out] at e1
        simpa using List.append_cancel_left e1))
      clear ha hb0
      by_cases hvu : v = u
      · subst hvu
        go_wp2_with fail
        go_quiet (fail)
        clear y0 x0 c3 c4 d3 d4
        have H2 := Lib.hid (HO.out.keep ((Only.refl _ wr).drewN nq))
        go_wp2_with fail
        go_roundw
        case rel => exact ⟨q + 1, by omega, by go_num, Lib.hid (by rw [HTA.out, HTB.out, HT.out]), H2⟩
        case measure => simp [intOf]; omega
      · have HF := Lib.hid (HNE.out hvu)
        have f0 : (v == u) = false := by simpa using hvu
        clear hvu HNE
        go_wp2_with fail
        go_quiet (fail)
        clear y0 x0 c3 c4 d3 d4
        have H2 := Lib.hid (HO.out.keep ((Only.refl _ wr).drewN nq))
        go_wp2_with fail
        go_ret
        exact nq_no HF.out H2.out.only
    · obtain rfl : q = K := by omega
      have HKE : Hid (n.ks = m.ks) := Lib.hid (by
        have := HT.out
        rwa [List.take_of_length_le (by rw [HK.out]; exact Nat.le_refl _), List.take_of_length_le (by rw [HK2.out]; exact Nat.le_refl _)] at this)
      have hltI : ¬ (q : Int) < (q : Int) := by omega
      clear HT
      go_wp2_with fail
      clear c3 c4 d3 d4
      go_loopw [6] (fun i wx => ∃ (z : Nat), z ≤ B ∧ i = .int .i64 (z : Int) ∧ Hid (n.bs.take z = m.bs.take z) ∧ Hid (N2At w wx w.heap.size (w.heap.size + 1) h k n m)) (fun i _ => B - (intOf i).toNat)
      case atStart => exact ⟨0, Nat.zero_le _, rfl, Lib.hid rfl, HO⟩
      case round =>
        clear HO
        obtain ⟨z, hz, rfl, HT, HO⟩ := hrel
        obtain ⟨_, _, _, c3, c4⟩ := nod_cells HO.out.a
        obtain ⟨_, _, _, d3, d4⟩ := nod_cells HO.out.b
        rw [HB.out] at c4
        rw [HB2.out] at d4
        clear c3 d3
        by_cases hlt : z < B
        · have HKA : Hid (z < n.bs.length) := Lib.hid (by rw [HB.out]; exact hlt)
          have HKB : Hid (z < m.bs.length) := Lib.hid (by rw [HB2.out]; exact hlt)
          obtain ⟨g, off, ao, ac, ha, y0, hsa, hla⟩ := HO.out.na.b z HKA.out
          obtain ⟨g2, off2, bo, bc, hb0, x0, hsb, hlb⟩ := HO.out.nb.b z HKB.out
          rw [ha] at c4
          rw [hb0] at d4
          have HTA := Lib.hid (take_of HKA.out)
          have HTB := Lib.hid (take_of HKB.out)
          have HSA := Lib.hid hsa
          have HSB := Lib.hid hsb
          generalize n.bs.getD z default = v at *
          generalize m.bs.getD z default = u at *
          obtain ⟨vn, hvn⟩ : ∃ vn, vn = v.length := ⟨_, rfl⟩
          obtain ⟨un, hun⟩ : ∃ un, un = u.length := ⟨_, rfl⟩
          rw [← hvn] at y0 hla
          rw [← hun] at x0 hlb
          have HC := Lib.hid (fun W (s1 : SlG W ao v) (s2 : SlG W bo u) => eql_m ao bo vn ac un bc v u W s1 s2 hvn hun (by omega) (by omega))
          have hltI : (z : Int) < (B : Int) := by omega
          have h0 : (0 : Int) ≤ (z : Int) := by omega
          have HNE : Hid (v ≠ u → n ≠ m) := Lib.hid (fun hx e => hx (by
            have e1 : n.bs.take (z + 1) = m.bs.take (z + 1) := by rw [e]
            rw [HTA.out, HTB.out, HT.out] at e1
            simpa using List.append_cancel_left e1))
          clear ha hb0 hsa hsb hvn hun hla hlb
          go_upto_region 11 with fail
          have hs2 : ((z : Int)).toNat = z := by omega
          go_still_tail 10, (by kernel_rfl)
          change wpList _ _ _ _ _ wr.drew
          have HO1 := Lib.hid (HO.out.keep ((Only.refl _ wr).drew))
          have HC1 := Lib.hid (HC.out _ (HSA.out.keep ((Only.refl _ wr).drew)) (HSB.out.keep ((Only.refl _ wr).drew)))
          clear y0 x0 c4 d4 hs2 HC HO
          go_wp2_with fail
          refine HC1.out.mono ?_
          rintro e w5 ⟨r3, rfl, hr, ho⟩
          have HR3 := Lib.hid hr
          have H2 := Lib.hid (HO1.out.keep ho)
          clear hr ho HC1 HO1
          cases r3 with
          | false =>
            have HF := Lib.hid (HNE.out (fun e => by have := HR3.out.2 e; cases this))
            clear HR3 HNE
            go_wp2_with fail
            go_ret
            exact nq_no HF.out H2.out.only
          | true =>
            have HVU : Hid (v = u) := Lib.hid (HR3.out.1 rfl)
            clear HR3 HNE
            go_wp2_with fail
            go_roundw
            case rel => exact ⟨z + 1, by omega, by go_num, Lib.hid (by rw [HTA.out, HTB.out, HT.out, HVU.out]), H2⟩
            case measure => simp [intOf]; omega
        · obtain rfl : z = B := by omega
          have HBE : Hid (n.bs = m.bs) := Lib.hid (by
            have := HT.out
            rwa [List.take_of_length_le (by rw [HB.out]; exact Nat.le_refl _), List.take_of_length_le (by rw [HB2.out]; exact Nat.le_refl _)] at this)
          have hltI : ¬ (z : Int) < (z : Int) := by omega
          have HNM : Hid (n = m) := Lib.hid (by
            have e0 := HLF.out
            have e1 := HEE.out
            have e2 := HPE.out
            have e3 := HKE.out
            have e4 := HBE.out
            obtain ⟨a0, a1, a2, a3, a4⟩ := n
            obtain ⟨b0, b1, b2, b3, b4⟩ := m
            simp only at e0 e1 e2 e3 e4
            rw [e0, e1, e2, e3, e4])
          go_wp2_with fail
          go_ret
          exact nq_yes HNM.out HO.out.only

end Go.Proofs.Ytookbmpaoljelaa
