/-
  The walk of the statement BlockAlone.
-/
import Derived.Test.YtidkeglldmbfeaaBlockBack
namespace Go.Proofs.Ytidkeglldmbfeaa
open Go Go.RowKit
set_option linter.unusedVariables false
set_option linter.unusedSimpArgs false
set_option maxRecDepth 100000

theorem BlkR.few {D E : DS} {s id : Nat} {xs : List UInt8} {k : Nat} (h : BlkR D s id xs k E) : E.W.length = D.W.length + k ∧ E.wr = D.wr + k := by
  rw [h.W, h.wr]; simp [blkW]
theorem cntN_600 {n : Nat} (h : n ≤ 600) : cntN n ≤ 12 := by unfold cntN; split <;> omega

/-- What is read behind the writes. -/
structure AloneF (E : DS) (x y z : Nat) (ms bs cs : List UInt8) : Prop where
  n : E.n = 64
  r1 : E.rd 0 1 = some ms
  r3 : E.rd (x + y) 3 = some ms
  r4 : E.rd x 4 = if z ≤ y then some cs else none
  r2 : E.rd x 2 = if z ≤ y then none else some bs
structure AloneW (x y z : Nat) (ms bs cs : List UInt8) (D1 D2 D3 : DS) : Prop where
  e1 : (DS.new 64).bwE 0 1 ms = 0
  d1 : (DS.new 64).bwrite 0 1 ms = D1
  e2 : D1.bwE ((x : Nat) : Int) 2 bs = 0
  d2 : D1.bwrite ((x : Nat) : Int) 2 bs = D2
  e3 : D2.bwE ((x + y : Nat) : Int) 3 ms = 0
  d3 : D2.bwrite ((x + y : Nat) : Int) 3 ms = D3
  f1 : D1.W.length ≤ 900000 ∧ D1.wr ≤ 900000
  f2 : D2.W.length ≤ 900000 ∧ D2.wr ≤ 900000
  f3 : D3.W.length ≤ 900000 ∧ D3.wr ≤ 900000
  le : z ≤ y → D3.bwE ((x : Nat) : Int) 4 cs = 0 ∧ AloneF (D3.bwrite ((x : Nat) : Int) 4 cs) x y z ms bs cs
  gt : ¬ z ≤ y → AloneF D3 x y z ms bs cs
theorem alone_facts {ms bs cs : List UInt8} (ha : ms.length ≤ 600) (hb : bs.length ≤ 600) (hc : cs.length ≤ 600) :
    ∃ D1 D2 D3, AloneW (cntN ms.length) (cntN bs.length) (cntN cs.length) ms bs cs D1 D2 D3 := by
  have x1 := cntN_600 ha
  have y1 := cntN_600 hb
  have z1 := cntN_600 hc
  have x0 := cntN_pos ms.length
  have y0 := cntN_pos bs.length
  have z0 := cntN_pos cs.length
  obtain ⟨x, hx⟩ : ∃ x, x = cntN ms.length := ⟨_, rfl⟩
  obtain ⟨y, hy⟩ : ∃ y, y = cntN bs.length := ⟨_, rfl⟩
  obtain ⟨z, hz⟩ : ∃ z, z = cntN cs.length := ⟨_, rfl⟩
  have h1 : (DS.new 64).bwE 0 1 ms = 0 ∧ BlkR (DS.new 64) 0 1 ms (cntN ms.length) ((DS.new 64).bwrite 0 1 ms) := (Up3.new 64).bwrite 0 1 ms (by decide) (by omega) (by show 0 + cntN ms.length ≤ 64; omega)
  obtain ⟨D1, hD1⟩ : ∃ D1, D1 = (DS.new 64).bwrite 0 1 ms := ⟨_, rfl⟩
  rw [← hD1] at h1
  have n1 : D1.n = 64 := h1.2.n
  have h2 := h1.2.up.bwrite x 2 bs (by decide) (by omega) (by rw [n1]; omega)
  obtain ⟨D2, hD2⟩ : ∃ D2, D2 = D1.bwrite (x : Int) 2 bs := ⟨_, rfl⟩
  rw [← hD2] at h2
  have n2 : D2.n = 64 := h2.2.n.trans n1
  have h3 := h2.2.up.bwrite (x + y) 3 ms (by decide) (by omega) (by rw [n2]; omega)
  obtain ⟨D3, hD3⟩ : ∃ D3, D3 = D2.bwrite ((x + y : Nat) : Int) 3 ms := ⟨_, rfl⟩
  rw [← hD3] at h3
  have n3 : D3.n = 64 := h3.2.n.trans n2
  have p1 := h1.2.few
  have p2 := h2.2.few
  have p3 := h3.2.few
  have w0 : (DS.new 64).W.length = 0 ∧ (DS.new 64).wr = 0 := ⟨rfl, rfl⟩
  have b1 := h1.2
  have b2 := h2.2
  have b3 := h3.2
  have ga1 := b1.has (by show 0 + cntN ms.length ≤ 64; omega)
  have ga2 := b2.keeps (t := 0) (id2 := 1) (by omega) (by decide) (by rw [n1]; omega) ga1 (.inl (by omega))
  have ga3 := b3.keeps (t := 0) (id2 := 1) (by omega) (by decide) (by rw [n2]; omega) ga2 (.inl (by omega))
  have gb2 := b2.has (by rw [n1]; omega)
  have gb3 := b3.keeps (t := x) (id2 := 2) (by omega) (by decide) (by rw [n2]; omega) gb2 (.inl (by omega))
  have gc3 := b3.has (by rw [n2]; omega)
  refine ⟨D1, D2, D3, h1.1, hD1.symm, by rw [← hx]; exact h2.1, by rw [← hx]; exact hD2.symm, by rw [← hx, ← hy]; exact h3.1, by rw [← hx, ← hy]; exact hD3.symm, by omega, by omega, by omega, ?_, ?_⟩
  · intro hle
    rw [← hx]
    have h4 := b3.up.bwrite x 4 cs (by decide) (by omega) (by rw [n3]; omega)
    refine ⟨h4.1, ?_⟩
    obtain ⟨D4, hD4⟩ : ∃ D4, D4 = D3.bwrite (x : Int) 4 cs := ⟨_, rfl⟩
    rw [← hD4] at h4 ⊢
    have n4 : D4.n = 64 := h4.2.n.trans n3
    have b4 := h4.2
    have ga4 := b4.keeps (t := 0) (id2 := 1) (by omega) (by decide) (by rw [n3]; omega) ga3 (.inl (by omega))
    have gc4 := b4.keeps (t := x + y) (id2 := 3) (by omega) (by decide) (by rw [n3]; omega) gc3 (.inr (by omega))
    refine ⟨n4, rd_some (by omega) (by decide) (by rw [n4]; omega) ga4, by rw [← hy]; exact rd_some (by omega) (by decide) (by rw [n4]; omega) gc4, ?_, ?_⟩
    · rw [if_pos hle]; exact b4.back (by omega) (by decide) (by rw [n3]; omega)
    · rw [if_pos hle]
      refine rd_first (.inl ?_)
      rw [b4.at' x (by rw [n3]; omega), if_pos (by omega), Nat.sub_self, (part_back _ (partAt_ok (by decide) (by omega) (by omega))).1]
      show (4 : Nat) ≠ 2
      decide
  · intro hle
    rw [← hx]
    refine ⟨n3, rd_some (by omega) (by decide) (by rw [n3]; omega) ga3, by rw [← hy]; exact rd_some (by omega) (by decide) (by rw [n3]; omega) gc3, ?_, ?_⟩
    · rw [if_neg hle]
      refine rd_first (.inl ?_)
      have := gb3 0 (by omega)
      rw [Nat.add_zero] at this
      rw [this, (part_back _ (partAt_ok (by decide) (by omega) (by omega))).1]
      show (2 : Nat) ≠ 4
      decide
    · rw [if_neg hle]
      exact rd_some (by omega) (by decide) (by rw [n3]; omega) gb3

set_option maxHeartbeats 8000000 in
theorem alone_walk (va : Value) (ms : List UInt8) (vb : Value) (bs : List UInt8) (vc : Value) (cs : List UInt8) (w : World) (ha : SlN w va ms) (hb : SlN w vb bs) (hc : SlN w vc cs) :
    Calls Try.prog 7 #[va, vb, vc] w fun e w' => e = .returned (.bool true) ∧ Quiet w w' := by
  have HA := Lib.hid ha
  have HB := Lib.hid hb
  have HC := Lib.hid hc
  obtain ⟨ao, ac, rfl, _⟩ := ha.2
  obtain ⟨bo, bc, rfl, _⟩ := hb.2
  obtain ⟨co, cc, rfl, _⟩ := hc.2
  clear ha hb hc
  by_cases hlen : 600 < ms.length ∨ 600 < bs.length ∨ 600 < cs.length
  · have h3 : (600 : Int) < ms.length ∨ (¬ (600 : Int) < ms.length ∧ (600 : Int) < bs.length) ∨ (¬ (600 : Int) < ms.length ∧ ¬ (600 : Int) < bs.length ∧ (600 : Int) < cs.length) := by omega
    clear hlen
    rcases h3 with h | ⟨h, h'⟩ | ⟨h, h', h''⟩
    all_goals
      go_enter Try.func7, Try.ntmps7
      go_wp2_with fail
      refine (awake3_any w).mono ?_
      rintro e w0 ⟨rfl, hq⟩
      have HQ := Lib.hid hq; clear hq
      go_wp2
      go_ret
      exact ⟨rfl, HQ.out⟩
  have la : ms.length ≤ 600 := by omega
  have lb : bs.length ≤ 600 := by omega
  have lc : cs.length ≤ 600 := by omega
  have LA := Lib.hid la
  have LB := Lib.hid lb
  have LC := Lib.hid lc
  have xa : (cnt (ms.length : Int) : Int) = (cntN ms.length : Int) := by rw [cnt_nat (by omega)]
  have xb : (cnt (bs.length : Int) : Int) = (cntN bs.length : Int) := by rw [cnt_nat (by omega)]
  have xc : (cnt (cs.length : Int) : Int) = (cntN cs.length : Int) := by rw [cnt_nat (by omega)]
  have x1 := cntN_600 la
  have y1 := cntN_600 lb
  have z1 := cntN_600 lc
  obtain ⟨D1, D2, D3, hF⟩ := alone_facts la lb lc
  obtain ⟨x, hx⟩ : ∃ x, x = cntN ms.length := ⟨_, rfl⟩
  obtain ⟨y, hy⟩ : ∃ y, y = cntN bs.length := ⟨_, rfl⟩
  obtain ⟨z, hz⟩ : ∃ z, z = cntN cs.length := ⟨_, rfl⟩
  rw [← hx] at xa x1 hF
  rw [← hy] at xb y1 hF
  rw [← hz] at xc z1 hF
  have HF := Lib.hid hF
  have XA := Lib.hid xa
  have XB := Lib.hid xb
  have XC := Lib.hid xc
  have g1 : decide ((600 : Int) < (ms.length : Int)) = false := by simp; omega
  have g2 : decide ((600 : Int) < (bs.length : Int)) = false := by simp; omega
  have g3 : decide ((600 : Int) < (cs.length : Int)) = false := by simp; omega
  have x2 : (x : Int) ≤ 12 := by omega
  have y2 : (y : Int) ≤ 12 := by omega
  have z2 : (z : Int) ≤ 12 := by omega
  have x3 : (0 : Int) ≤ (x : Int) := by omega
  have y3 : (0 : Int) ≤ (y : Int) := by omega
  have hxy : (x : Int) + (y : Int) = ((x + y : Nat) : Int) := by omega
  have HXY := Lib.hid hxy
  clear hlen la lb lc xa xb xc x1 y1 z1 hx hy hz hF hxy
  go_enter Try.func7, Try.ntmps7
  go_wp2_with fail
  refine (awake3_any w).mono ?_
  rintro e w0 ⟨rfl, hq⟩
  have HO := Lib.hid ((Own.start w).quiet hq); clear hq
  go_wp2_with fail
  refine (own_new HO.out 64 (by decide) (by decide)).mono ?_
  rintro e w1 ⟨p, rfl, h1⟩
  have H1 := Lib.hid h1; clear h1 HO
  go_wp2_with fail
  refine (count_all (ms.length : Int) w1).mono ?_
  rintro e w' ⟨rfl, rfl⟩
  rw [XA.out]
  go_wp2_with fail
  refine (count_all (bs.length : Int) w1).mono ?_
  rintro e w' ⟨rfl, rfl⟩
  rw [XB.out]
  go_wp2_with fail
  refine (own_bwrite H1.out 0 (by decide) 1 (by decide) _ ms (fun w' B _ ho => HA.out.arg w' ho) (by have := LA.out; omega) (by decide) (by decide)).mono ?_
  rintro e w2 ⟨rfl, h2⟩
  rw [HF.out.d1] at h2
  rw [HF.out.e1]
  have H2 := Lib.hid h2; clear h2 H1
  go_wp2_with fail
  refine (own_bwrite H2.out (x : Int) (by omega) 2 (by decide) _ bs (fun w' B _ ho => HB.out.arg w' ho) (by have := LB.out; omega) HF.out.f1.1 HF.out.f1.2).mono ?_
  rintro e w3 ⟨rfl, h3⟩
  rw [HF.out.d2] at h3
  rw [HF.out.e2]
  have H3 := Lib.hid h3; clear h3 H2
  go_wp2_with fail
  try rw [HXY.out]
  refine (own_bwrite H3.out ((x + y : Nat) : Int) (by omega) 3 (by decide) _ ms (fun w' B _ ho => HA.out.arg w' ho) (by have := LA.out; omega) HF.out.f2.1 HF.out.f2.2).mono ?_
  rintro e w4 ⟨rfl, h4⟩
  rw [HF.out.d3] at h4
  rw [HF.out.e3]
  have H4 := Lib.hid h4; clear h4 H3
  go_wp2_with fail
  refine (count_all (cs.length : Int) w4).mono ?_
  rintro e w' ⟨rfl, rfl⟩
  rw [XC.out]
  by_cases hle : z ≤ y
  · obtain ⟨e4, hG⟩ := HF.out.le hle
    have E4 := Lib.hid e4
    obtain ⟨E, hE⟩ : ∃ E, E = D3.bwrite ((x : Nat) : Int) 4 cs := ⟨_, rfl⟩
    rw [← hE] at hG
    have HE := Lib.hid hE
    have r4 := hG.r4
    rw [if_pos hle] at r4
    have r2 := hG.r2
    rw [if_pos hle] at r2
    have R4 := Lib.hid r4
    have R2 := Lib.hid r2
    have HG := Lib.hid hG
    have hz1 : decide (z ≤ y) = true := by simpa using hle
    have hz2 : decide ((z : Int) ≤ (y : Int)) = true := by simp; omega
    have hz3 : ¬ (y : Int) < (z : Int) := by omega
    have hz4 : decide ((y : Int) < (z : Int)) = false := by simp; omega
    have hz5 : decide (y < z) = false := by simp; omega
    clear e4 hG hE r4 r2
    go_wp2_with fail
    refine (own_bwrite H4.out (x : Int) (by omega) 4 (by decide) _ cs (fun w' B _ ho => HC.out.arg w' ho) (by have := LC.out; omega) HF.out.f3.1 HF.out.f3.2).mono ?_
    rintro e w5 ⟨rfl, h5⟩
    rw [← HE.out] at h5
    rw [E4.out]
    have H5 := Lib.hid h5; clear h5 H4 HE E4
    go_wp2_with fail
    refine (own_bread_ok H5.out 0 1 ms (by simp [DS.has, HG.out.n]) (by decide) HG.out.r1).mono ?_
    rintro e w6 ⟨a1, c1, rfl, h6⟩
    have H6 := Lib.hid h6.swap; clear h6 H5
    go_wp2_with fail
    try rw [HXY.out]
    refine (own_bread_ok H6.out ((x + y : Nat) : Int) 3 ms (by simp [DS.has, HG.out.n]; omega) (by decide) HG.out.r3).mono ?_
    rintro e w7 ⟨a2, c2, rfl, h7⟩
    have H7 := Lib.hid h7.swap; clear h7 H6
    go_wp2_with fail
    refine (own_bread_ok H7.out (x : Int) 4 cs (by simp [DS.has, HG.out.n]; omega) (by decide) R4.out).mono ?_
    rintro e w8 ⟨a3, c3, rfl, h8⟩
    have H8 := Lib.hid h8.swap; clear h8 H7
    go_wp2_with fail
    refine (own_bread_bad H8.out (x : Int) 2 (by simp [DS.has, HG.out.n]; omega) (by decide) R2.out).mono ?_
    rintro e w9 ⟨rfl, h9⟩
    have s1 : SlC w9 (.slice a1 ms.length c1) ms := by
      obtain ⟨F, h5, _⟩ := h9.snd.snd.snd.fst
      exact (own_toB h5.1).toC
    have s2 : SlC w9 (.slice a2 ms.length c2) ms := by
      obtain ⟨F, h5, _⟩ := h9.snd.snd.fst
      exact (own_toB h5.1).toC
    have s3 : SlC w9 (.slice a3 cs.length c3) cs := by
      obtain ⟨F, h5, _⟩ := h9.snd.fst
      exact (own_toB h5.1).toC
    have k1 := run_strC s1
    have k2 := run_strC s2
    have k3 := run_strC s3
    have k4 := run_strC (HA.out.1.keep h9.only)
    have k5 := run_strC (HC.out.1.keep h9.only)
    have H9 := Lib.hid h9.only
    clear h9 H8 s1 s2 s3
    go_wp2
    go_ret
    exact ⟨rfl, H9.out⟩
  · have hG := HF.out.gt hle
    have r4 := hG.r4
    rw [if_neg hle] at r4
    have r2 := hG.r2
    rw [if_neg hle] at r2
    have R4 := Lib.hid r4
    have R2 := Lib.hid r2
    have HG := Lib.hid hG
    have hz1 : decide (z ≤ y) = false := by simpa using hle
    have hz2 : decide ((z : Int) ≤ (y : Int)) = false := by simp; omega
    have hz4 : decide ((y : Int) < (z : Int)) = true := by simp; omega
    have hz5 : decide (y < z) = true := by simp; omega
    clear hG r4 r2
    go_wp2_with fail
    refine (own_bread_ok H4.out 0 1 ms (by simp [DS.has, HG.out.n]) (by decide) HG.out.r1).mono ?_
    rintro e w6 ⟨a1, c1, rfl, h6⟩
    have H6 := Lib.hid h6.swap; clear h6 H4
    go_wp2_with fail
    try rw [HXY.out]
    refine (own_bread_ok H6.out ((x + y : Nat) : Int) 3 ms (by simp [DS.has, HG.out.n]; omega) (by decide) HG.out.r3).mono ?_
    rintro e w7 ⟨a2, c2, rfl, h7⟩
    have H7 := Lib.hid h7.swap; clear h7 H6
    go_wp2_with fail
    refine (own_bread_bad H7.out (x : Int) 4 (by simp [DS.has, HG.out.n]; omega) (by decide) R4.out).mono ?_
    rintro e w8 ⟨rfl, h8⟩
    have H8 := Lib.hid h8; clear h8 H7
    go_wp2_with fail
    refine (own_bread_ok H8.out (x : Int) 2 bs (by simp [DS.has, HG.out.n]; omega) (by decide) R2.out).mono ?_
    rintro e w9 ⟨a3, c3, rfl, h9⟩
    have s1 : SlC w9 (.slice a1 ms.length c1) ms := by
      obtain ⟨F, h5, _⟩ := h9.snd.snd.snd.fst
      exact (own_toB h5.1).toC
    have s2 : SlC w9 (.slice a2 ms.length c2) ms := by
      obtain ⟨F, h5, _⟩ := h9.snd.snd.fst
      exact (own_toB h5.1).toC
    have k1 := run_strC s1
    have k2 := run_strC s2
    have k4 := run_strC (HA.out.1.keep h9.only)
    have H9 := Lib.hid h9.only
    clear h9 H8 s1 s2
    go_wp2
    go_ret
    exact ⟨rfl, H9.out⟩

end Go.Proofs.Ytidkeglldmbfeaa
