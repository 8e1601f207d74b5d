/-
  The document's own answer for the sectors of a block.
-/
import Derived.Test.YtidkeglldmbfeaaBlkR2
import Derived.Test.YtidkeglldmbfeaaPackROut
import Derived.Test.YtidkeglldmbfeaaOpenCap
import Derived.Deep.DeepCutAuto
namespace Go.Proofs.Ytidkeglldmbfeaa
open Go Go.RowKit Go.Lib
set_option linter.unusedVariables false
set_option linter.unusedSimpArgs false
set_option maxRecDepth 100000

theorem own_rebase {w : World} {B : Nat} {e : TypeId} {size : Nat} {v : Value} {n : Nat} {xs : List Value} (h : w.ownsRow 0 e size v n xs) (hb : v.ownBlock = .none ∨ ∃ g, v.ownBlock = some g ∧ B ≤ g) : w.ownsRow B e size v n xs := by
  refine ⟨h.1, ?_⟩
  rcases h.2 with h0 | ⟨g, cap, cur, rfl, _, rest⟩
  · exact .inl h0
  · refine .inr ⟨g, cap, cur, rfl, ?_, rest⟩
    rcases hb with hb | ⟨g', hg, hB⟩
    · simp [Value.ownBlock] at hb
    · simp [Value.ownBlock] at hg; omega

/-- append of bytes onto an owned row. -/
theorem wp_more {ops : Array Oper} {rest : List Oper} {o : Oper} {a : Act} {Q : Exit → Act → World → Prop} (w : World) (B : Nat) (hB : B ≤ w.heap.size) (v : Value) (ys : List UInt8) (hown : w.ownsRow B 5 1 v ys.length (u8s ys)) (u : Value) (xs : List UInt8) (hC : SlC w u xs) (hlen : ys.length + xs.length ≤ 140737488355328)
    (hgd : o.guard = none) (s x : Operand) (ho : o.op = .call { callee := .builtin .append, args := #[s, x], argTypes := #[31, 31] })
    (hs : a.eval s = v) (hx : a.eval x = u) (m : Nat) (hm : (ys ++ xs).length = m)
    (h : ∀ ao cap w', Hid (w'.ownsRow B 5 1 (.slice ao m cap) m (u8s (ys ++ xs))) → Hid (w.grownBy w' v.ownBlock) → wpList Try.prog ops Q rest (a.put o.dst (.slice ao m cap)) w') :
    wpList Try.prog ops Q (o :: rest) a w := by
  subst hm
  obtain ⟨i0, hi, hz0, hz1, hz2⟩ := info_parts Try.infoU8
  rcases hC with ⟨rfl, rfl⟩ | ⟨ad, cap, rfl, hc⟩
  · obtain ⟨ao, cap, rfl⟩ := own_shape hown
    refine wpList_append_own_none hgd s x 31 ho B 5 i0 1 Try.underlying31 hi _ ys.length (u8s ys) hs hown hx ?_
    have h1 := h ao cap w
    rw [List.append_nil] at h1
    exact h1 (Lib.hid hown) (Lib.hid ⟨rfl, rfl, rfl, Nat.le_refl _, fun _ _ _ => rfl⟩)
  · refine wpList_append_own _ hgd s x 31 ho B 5 i0 (.int .u8 0) 1 1 Try.underlying31 hi hz0 hz1 hz2 rfl (by decide) v ys.length (u8s ys) hs hown ad xs.length cap (u8s xs) hx ?_ ?_ (u8s_oneCell xs) ?_ ?_ hB ?_
    · rw [u8s_length, Nat.mul_one]
    · intro j u hu
      obtain ⟨hj, rfl⟩ := u8s_get hu
      exact hc j hj
    · unfold maxLen; omega
    · omega
    · intro v' w1 hown' hg _
      rw [← u8s_append, ← List.length_append] at hown'
      obtain ⟨ao, cap', rfl⟩ := own_shape hown'
      exact h ao cap' w1 (Lib.hid hown') (Lib.hid hg)

structure ROc (w w1 : World) (po : Nat) (v : Value) (xs : List UInt8) : Prop where
  out : R.OutV w1 po v xs
  go : w.heap.size ≤ po
  row : v.ownBlock = .none ∨ ∃ g, v.ownBlock = some g ∧ w.heap.size ≤ g
  only : Only (fun _ => False) w w1
theorem ROc.put {w w1 w2 : World} {po : Nat} {v v' : Value} {xs ys : List UInt8} (h : ROc w w1 po v xs) (hO : R.OutV w2 po v' ys) (hr : v'.ownBlock = v.ownBlock ∨ ∃ g, v'.ownBlock = some g ∧ w1.heap.size ≤ g) (ho : Only (OutS po v) w1 w2) : ROc w w2 po v' ys :=
  ⟨hO, h.go, row_ge h.only.size h.row hr, h.only.none ho (OutS.ge h.go h.row)⟩
theorem ROc.start (w : World) : ROc w (w.alloc (.cells #[.slice none 0 0] 93)) w.heap.size (.slice none 0 0) [] :=
  ⟨⟨heap_alloc_new w _, World.ownsRow_nil _ _ _ _⟩, Nat.le_refl _, .inl rfl, (Only.refl (fun _ => False) w).alloc _⟩

/-- The first k sectors of a block, made since w. -/
structure SecI (w wr : World) (id : Nat) (xs : List UInt8) (k : Nat) (vl : Value) : Prop where
  ex : ∃ vs : List Value, vs.length = k ∧ wr.ownsRow w.heap.size 31 1 vl k vs ∧ ∀ j, j < k → wr.ownsRow w.heap.size 5 1 (vs.getD j (.slice none 0 0)) 64 (u8s (pad (partAt id xs j).out))
  only : Only (fun _ => False) w wr
theorem SecI.start (w : World) (id : Nat) (xs : List UInt8) : SecI w w id xs 0 (.slice none 0 0) :=
  ⟨⟨[], rfl, World.ownsRow_nil _ _ _ _, fun j hj => by omega⟩, Only.refl _ _⟩
theorem SecI.quiet {w wr w' : World} {id : Nat} {xs : List UInt8} {k : Nat} {vl : Value} (h : SecI w wr id xs k vl) (ho : Only (fun _ => False) wr w') : SecI w w' id xs k vl := by
  obtain ⟨vs, h1, h2, h3⟩ := h.ex
  exact ⟨⟨vs, h1, own_keep h2 ho, fun j hj => own_keep (h3 j hj) ho⟩, h.only.trans ho (fun _ _ h => h)⟩
theorem SecI.grow {w wr w' : World} {id : Nat} {xs : List UInt8} {k g cap : Nat} {vl b : Value} {vs : List Value} (ho : Only (fun _ => False) w wr) (hl : vs.length = k) (h3 : ∀ j, j < k → wr.ownsRow w.heap.size 5 1 (vs.getD j (.slice none 0 0)) 64 (u8s (pad (partAt id xs j).out)))
    (hvl : ∃ n ys, wr.ownsRow w.heap.size 31 1 vl n ys) (hb : wr.ownsRow w.heap.size 5 1 b 64 (u8s (pad (partAt id xs k).out))) (hn : w'.ownsRow w.heap.size 31 1 (.slice (some ⟨g, 0, none⟩) (k + 1) cap) (k + 1) (vs ++ [b])) (hg : wr.grownBy w' vl.ownBlock) :
    SecI w w' id xs (k + 1) (.slice (some ⟨g, 0, none⟩) (k + 1) cap) := by
  obtain ⟨n, ys, hvl⟩ := hvl
  have keep : ∀ {v : Value} {m : Nat} {zs : List Value}, wr.ownsRow w.heap.size 5 1 v m zs → w'.ownsRow w.heap.size 5 1 v m zs := fun {v m zs} h => own_keepAt h (fun q hq => by
    refine hg.block q (own_lt h hq) (fun e => ?_)
    rcases h.2 with ⟨rfl, _⟩ | ⟨g', cap', cur, rfl, _, hg', _⟩
    · simp [Value.ownBlock] at hq
    · simp [Value.ownBlock] at hq
      subst hq
      exact own_type hvl hg' (by decide) e.symm)
  refine ⟨⟨vs ++ [b], by simp [hl], hn, fun j hj => ?_⟩, ho.grown hg (fun q hq e => by have := (hvl.lt q e).1; omega)⟩
  by_cases e : j < k
  · rw [List.getD_eq_getElem?_getD, List.getElem?_append_left (by omega), ← List.getD_eq_getElem?_getD]
    exact keep (h3 j e)
  · have : j = k := by omega
    subst this
    rw [List.getD_eq_getElem?_getD, List.getElem?_append_right (by omega), hl, Nat.sub_self]
    exact keep hb

def SecsPost (w : World) (id : Nat) (xs : List UInt8) (e : Ending) (w' : World) : Prop :=
  ∃ ao cap, e = .returned (.slice ao (cntN xs.length) cap) ∧ SecI w w' id xs (cntN xs.length) (.slice ao (cntN xs.length) cap)

set_option maxHeartbeats 8000000 in
theorem rsectors (id : Nat) (hid : id < 18446744073709551616) (v : Value) (xs : List UInt8) (w : World) (hv : SlN w v xs) (hx : xs.length ≤ 32768) :
    Calls Try.prog 43 #[.int .u64 id, v] w (SecsPost w id xs) := by
  obtain ⟨vo, vc, rfl, hvc⟩ := hv.2
  obtain ⟨n, hn⟩ : ∃ n, n = xs.length := ⟨_, rfl⟩
  have hcn : (cnt (n : Int) : Int) = (cntN n : Int) := by rw [cnt_nat (by omega)]
  obtain ⟨c, hc⟩ : ∃ c, c = cntN n := ⟨_, rfl⟩
  have hft := cntN_fits n
  have hm := cntN_max (n := n) (by omega)
  rw [← hc] at hcn hft hm
  have hv1 := hv.1
  rw [← hn] at hv1 hvc hx ⊢
  have HCN := Lib.hid hcn
  have HC := Lib.hid hc
  have HFT := Lib.hid hft
  have HM := Lib.hid hm
  have HN := Lib.hid hn
  have HV := Lib.hid hv1
  have HVC := Lib.hid hvc
  have HX := Lib.hid hx
  have HID := Lib.hid hid
  have HS0 : Hid (SecI w w id xs 0 (.slice none 0 0)) := Lib.hid (SecI.start w id xs)
  clear hv hv1 hvc hn hcn hc hft hm hx hid
  go_enter Try.func43, Try.ntmps43
  go_wp2_with fail
  refine (rcount_all (n : Int) w).mono ?_
  rintro e w' ⟨rfl, rfl⟩
  rw [HCN.out]
  go_wp2_with fail
  go_loopw [6, 7] (fun ov iv wr => ∃ (k : Nat) (lo : Option Addr) (lc : Nat), k ≤ c ∧ iv = .int .i64 k ∧ ov = .slice lo k lc ∧ Hid (SecI w wr id xs k (.slice lo k lc))) (fun _ iv _ => c - (intOf iv).toNat)
  case atStart => exact ⟨0, none, 0, Nat.zero_le _, rfl, rfl, HS0⟩
  case round =>
    clear HS0
    obtain ⟨k, lo, lc, hk, rfl, rfl, HI⟩ := hrel
    by_cases hlt : k < c
    · have hltI : (k : Int) < (c : Int) := by omega
      have hk0 : (0 : Int) ≤ (k : Int) := by omega
      have hk6 : (k : Int) ≤ 656 := by have := HM.out; omega
      have HLT := Lib.hid hlt
      clear hlt hk
      obtain ⟨a, ha⟩ : ∃ a : Nat, a = k * 50 := ⟨_, rfl⟩
      have s1 : (50 : Int) * (k : Int) = (a : Int) := by omega
      have haf : a ≤ n ∧ (n ≠ 0 → a < n) ∧ (n = 0 → a = 0) := by
        have h1 := HFT.out
        have h2 := HLT.out
        have h3 := HC.out
        refine ⟨?_, ?_, ?_⟩
        · by_cases e : n = 0
          · subst e
            have : c = 1 := by rw [h3]; rfl
            omega
          · by_cases hk : k = 0
            · omega
            · have := h1.2 (by omega); omega
        · intro e
          by_cases hk : k = 0
          · omega
          · have := h1.2 (by omega); omega
        · intro e
          subst e
          have : c = 1 := by rw [h3]; rfl
          omega
      obtain ⟨dl, hdl⟩ : ∃ dl, dl = n - a := ⟨_, rfl⟩
      have HA := Lib.hid ha
      have HAF := Lib.hid haf
      have HDL := Lib.hid hdl
      have hsl : SlC wr (.slice vo n vc) xs := HV.out.keep HI.out.only
      have HSL := Lib.hid hsl
      clear ha haf hdl hsl
      go_upto_region 6 with fail
      go_cut [8] (fun s wx => ∃ (po : Option Addr) (pc : Nat), s = .slice po dl pc ∧ dl ≤ pc ∧ Hid (SlC wx (.slice po dl pc) (xs.drop a)) ∧ Hid (SecI w wx id xs k (.slice lo k lc)))
      case first =>
        by_cases hx0 : n = 0
        · have ha0 := HAF.out.2.2 hx0
          have hxs : xs = [] := List.eq_nil_of_length_eq_zero (by rw [← HN.out]; exact hx0)
          have hd0 : dl = 0 := by rw [HDL.out]; omega
          rcases HSL.out with ⟨e, _⟩ | ⟨ad, cap, e, _⟩
          · simp at e
            obtain ⟨e1, e2, e3⟩ := e
            clear HSL HAF HDL HV HVC HN HX HFT HCN HC
            subst e1 e3 hx0 ha0 hd0
            go_wp2
            go_meet
            exact ⟨none, 0, rfl, Nat.le_refl _, Lib.hid (.inl ⟨rfl, by rw [hxs]; rfl⟩), HI⟩
          · simp at e
            obtain ⟨e1, e2, e3⟩ := e
            clear HSL HAF HDL HV HVC HN HX HFT HCN HC e2 e3
            subst e1 hx0 ha0 hd0
            go_wp2
            go_meet
            exact ⟨_, _, rfl, Nat.zero_le _, Lib.hid (.inr ⟨_, _, by rw [hxs]; rfl, fun j hj => by rw [hxs] at hj; simp at hj⟩), HI⟩
        · have hlt2 := HAF.out.2.1 hx0
          have hnv := HVC.out
          have hs := HSL.out
          rw [HN.out] at hs
          rcases hs with ⟨e, _⟩ | ⟨ad, cap, e, hcell⟩
          · simp at e; have := HN.out; omega
          · simp at e
            obtain ⟨e1, e2⟩ := e
            obtain ⟨g, off, spot⟩ := ad
            have hspot : spot = none := by
              have h0 := hcell 0 (by have := HN.out; omega)
              simpa [Addr.add] using World.cell?_spot h0
            subst hspot
            have q1 : a ≤ n := by omega
            have q2 : (a : Int) ≤ (n : Int) := by omega
            have q3 : (n : Int) ≤ (vc : Int) := by omega
            have q4 : a < vc := by omega
            have q5 : (a : Int) < (vc : Int) := by omega
            have HR : Hid (SlC wr (.slice (some ⟨g, off + a, none⟩) dl (vc - a)) (xs.drop a)) := Lib.hid (.inr ⟨⟨g, off + a, none⟩, vc - a, by rw [List.length_drop, HDL.out, HN.out], fun j hj => by
              rw [add_lit]
              have := hcell (a + j) (by simp at hj; omega)
              rw [add_lit] at this
              rw [Nat.add_assoc, this]
              congr 3
              simp [List.getD_eq_getElem?_getD]⟩)
            have HD2 : Hid (dl ≤ vc - a) := Lib.hid (by rw [HDL.out]; omega)
            have HD3 : Hid (n - a = dl) := Lib.hid HDL.out.symm
            clear HSL HAF HV HVC HX HFT HCN HC hcell hlt2 hnv hx0 e2
            subst e1
            go_wp2
            try rw [HD3.out]
            go_meet
            exact ⟨_, _, rfl, HD2.out, HR, HI⟩
      obtain ⟨po, pc, rfl, hpc, HP, HI2⟩ := hcut
      clear HI HSL
      obtain ⟨dt, hdt⟩ : ∃ dt, dt = pieceN xs k := ⟨_, rfl⟩
      have hdt2 : dt = (xs.drop a).take 50 := by rw [hdt, pieceN, HA.out]
      have hdd : (xs.drop a).length = dl := by rw [List.length_drop, HDL.out, HN.out]
      have HDT := Lib.hid hdt
      have HD2 := Lib.hid hdt2
      have HDD := Lib.hid hdd
      have hd50 : dt.length ≤ 50 := by rw [hdt2]; simp; omega
      have HD50 := Lib.hid hd50
      clear hdt hdt2 hdd hd50
      go_upto_if 25 with (fail)
      go_cut [8] (fun s wx => ∃ (po : Option Addr) (pc : Nat), s = .slice po dt.length pc ∧ Hid (SlC wx (.slice po dt.length pc) dt) ∧ Hid (SecI w wx id xs k (.slice lo k lc)))
      case first =>
        by_cases h50 : 50 < dl
        · have h50I : (50 : Int) < (dl : Int) := by omega
          have h50B : decide ((50 : Int) < (dl : Int)) = true := by simpa using h50I
          have hl50 : dt.length = 50 := by rw [HD2.out, List.length_take, HDD.out]; omega
          rcases HP.out with ⟨e, e2⟩ | ⟨ad, cap, e, hcell⟩
          · have := HDD.out
            rw [e2] at this
            simp at this
            omega
          · simp at e
            obtain ⟨e1, e2, e3⟩ := e
            subst e1 e3
            obtain ⟨g, off, spot⟩ := ad
            have hspot : spot = none := by
              have h0 := hcell 0 (by rw [HDD.out]; omega)
              simpa [Addr.add] using World.cell?_spot h0
            subst hspot
            have HR : Hid (SlC wc (.slice (some ⟨g, off, none⟩) dt.length pc) dt) := Lib.hid (.inr ⟨⟨g, off, none⟩, pc, rfl, fun j hj => by
              have := hcell j (by rw [HDD.out]; omega)
              rw [this]
              congr 3
              rw [HD2.out]
              simp [List.getD_eq_getElem?_getD, List.getElem?_take, show j < 50 by omega]⟩)
            have q1 : (50 : Int) ≤ (pc : Int) := by omega
            have q2 : 50 ≤ pc := by omega
            have HL50 := Lib.hid hl50
            clear HP hcell e2 hl50
            go_wp2
            go_meet
            exact ⟨_, _, by rw [HL50.out], HR, HI2⟩
        · have h50I : ¬ (50 : Int) < (dl : Int) := by omega
          have h50B : decide ((50 : Int) < (dl : Int)) = false := by simpa using h50I
          have hde : dt = xs.drop a := by rw [HD2.out]; exact List.take_of_length_le (by rw [HDD.out]; omega)
          have HDE : Hid (dt.length = dl) := Lib.hid (by rw [hde]; exact HDD.out)
          have HR : Hid (SlC wc (.slice po dt.length pc) dt) := Lib.hid (by rw [HDE.out, hde]; exact HP.out)
          clear hde
          go_wp2
          go_meet
          exact ⟨po, pc, by rw [HDE.out], HR, HI2⟩
      obtain ⟨po, pc, rfl, HP, HI⟩ := hcut
      clear HI2 hpc HDD HDL HD2
      obtain ⟨wq, hwq⟩ : ∃ wq, wq = wc := ⟨_, rfl⟩
      rw [← hwq] at HP HI ⊢
      clear hwq
      have HEK : Hid (IntKind.u64.wrap (k : Int) = (k : Int)) := by show _ = _; rw [IntKind.wrap_u64]; omega
      have HEC : Hid (IntKind.u64.wrap (c : Int) = (c : Int)) := by show _ = _; rw [IntKind.wrap_u64]; have := HM.out; omega
      have HED : Hid (IntKind.u64.wrap (dt.length : Int) = (dt.length : Int)) := by show _ = _; rw [IntKind.wrap_u64]; have := HD50.out; omega
      go_wp2_with fail
      have HO0 := Lib.hid (ROc.start wq)
      obtain ⟨op, hop⟩ : ∃ op, op = wq.heap.size := ⟨_, rfl⟩
      rw [← hop] at HO0 ⊢
      clear hop
      refine (R.putNumber op id 8 _ [] _ HO0.out.out (by omega) HID.out (by simp)).mono ?_
      rintro e w1 ⟨rfl, v1, hV1, hr1, ho1⟩
      have HO1 := Lib.hid (HO0.out.put hV1 hr1 ho1)
      clear HO0 hV1 hr1 ho1
      go_wp2_with fail
      try rw [HEK.out]
      refine (R.putNumber op k 2 _ _ _ HO1.out.out (by omega) (by omega) (by simp [beB_length])).mono ?_
      rintro e w2 ⟨rfl, v2, hV2, hr2, ho2⟩
      have HO2 := Lib.hid (HO1.out.put hV2 hr2 ho2)
      clear HO1 hV2 hr2 ho2
      go_wp2_with fail
      try rw [HEC.out]
      refine (R.putNumber op c 2 _ _ _ HO2.out.out (by omega) (by have := HM.out; omega) (by simp [beB_length])).mono ?_
      rintro e w3 ⟨rfl, v3, hV3, hr3, ho3⟩
      have HO3 := Lib.hid (HO2.out.put hV3 hr3 ho3)
      clear HO2 hV3 hr3 ho3
      go_wp2_with fail
      try rw [HED.out]
      refine (R.putNumber op dt.length 2 _ _ _ HO3.out.out (by omega) (by have := HD50.out; omega) (by simp [beB_length])).mono ?_
      rintro e w4 ⟨rfl, v4, hV4, hr4, ho4⟩
      have ho := HO3.out.put hV4 hr4 ho4
      obtain ⟨ys, hys⟩ : ∃ ys, ys = ((([] ++ beB 8 id) ++ beB 2 k) ++ beB 2 c) ++ beB 2 dt.length := ⟨_, rfl⟩
      rw [← hys] at ho
      have hyl : ys.length = 14 := by rw [hys]; simp [beB_length]
      have hout : ys ++ dt = (partAt id xs k).out := by
        rw [hys, HDT.out]
        simp only [Part.out, partAt, txtB, ← HN.out, ← HC.out]
        simp
      obtain ⟨yo, yc, hv4⟩ := own_shape ho.out.own
      have c0 := ho.out.cell
      rw [hv4] at c0
      have hrow := own_rebase ho.out.own ho.row
      rw [hv4] at hrow
      have HROW := Lib.hid hrow
      have HONL := Lib.hid ho.only
      have HYL := Lib.hid hyl
      have HOUT := Lib.hid hout
      have HPW := Lib.hid (HP.out.keep ho.only)
      clear HO3 hV4 hr4 ho4 ho hys hyl hout hv4 hrow
      go_upto_region 14 with fail
      go_wp2_with (with_reducible refine wp_more _ wq.heap.size HONL.out.size _ ys HROW.out _ dt HPW.out (by have := HYL.out; have := HD50.out; omega) rfl (.tmp 49) (.tmp 50) rfl rfl rfl (14 + dt.length) (by rw [List.length_append, HYL.out]) ?_; intro bo bc w5 hb5 hg5)
      have hO5 : Only (fun _ => False) wq w5 := HONL.out.grown hg5.out (fun q hq e => by have := (HROW.out.lt q e).1; omega)
      have hown5 : w5.ownsRow wq.heap.size 5 1 (.slice bo (14 + dt.length) bc) (14 + dt.length) (u8s ((partAt id xs k).out ++ List.replicate 0 0)) := by
        have := hb5.out
        rw [HOUT.out] at this
        simpa using this
      have HB5 := Lib.hid hown5
      have HO5 := Lib.hid hO5
      clear hb5 hg5 hO5 hown5 HPW HROW HONL c0
      go_wp2_with fail
      go_loopw [10] (fun bv wz => ∃ (m : Nat) (ao : Option Addr) (cap : Nat), m ≤ 50 - dt.length ∧ bv = .slice ao (14 + dt.length + m) cap ∧ Hid (wz.ownsRow wq.heap.size 5 1 (.slice ao (14 + dt.length + m) cap) (14 + dt.length + m) (u8s ((partAt id xs k).out ++ List.replicate m 0))) ∧ Hid (Only (fun _ => False) wq wz)) (fun bv _ => 64 - lenOf (some bv))
      case atStart => exact ⟨0, bo, bc, Nat.zero_le _, rfl, HB5, HO5⟩
      case round =>
        clear HB5 HO5
        obtain ⟨m, zo, zc, hm, rfl, HZ, HZO⟩ := hrel
        obtain ⟨bl, hbl⟩ : ∃ bl, bl = 14 + dt.length + m := ⟨_, rfl⟩
        have hol : ((partAt id xs k).out ++ List.replicate m 0).length = bl := by rw [List.length_append, Part.out_length, hbl, List.length_replicate, HDT.out]; rfl
        rw [← hbl] at HZ ⊢
        have HBL := Lib.hid hbl
        have HOL := Lib.hid hol
        clear hbl hol
        by_cases h64 : bl < 64
        · have h64I : (bl : Int) < 64 := by omega
          have hza : SlC (wr.alloc (.cells #[.int .u8 0] 5)) (.slice (some ⟨wr.heap.size, 0, none⟩) 1 1) [0] := row_bytes' (heap_alloc_new wr _) rfl
          have HZA := Lib.hid hza
          have hzr : (wr.alloc (.cells #[.int .u8 0] 5)).ownsRow wq.heap.size 5 1 (.slice zo bl zc) ((partAt id xs k).out ++ List.replicate m 0).length (u8s ((partAt id xs k).out ++ List.replicate m 0)) := by
            rw [HOL.out]
            exact own_keep HZ.out ((Only.refl _ wr).alloc _)
          have HZR := Lib.hid hzr
          have H64 := Lib.hid h64
          clear hza hzr h64 hm
          go_wp2_with (at_builtin; refine wp_more (wr.alloc (.cells #[.int .u8 0] 5)) wq.heap.size (HZO.out.alloc _).size _ ((partAt id xs k).out ++ List.replicate m 0) HZR.out _ [0] HZA.out (by rw [HOL.out]; have := H64.out; simp; omega) rfl (.tmp 55) (.tmp 56) rfl rfl rfl (bl + 1) (by rw [List.length_append, HOL.out]; rfl) ?_; intro bo2 bc2 w6 hb6 hg6)
          have hO6 : Only (fun _ => False) wq w6 := (HZO.out.alloc _).grown hg6.out (fun q hq e => by have := (HZR.out.lt q e).1; omega)
          have HO6 := Lib.hid hO6
          have HB6 : Hid (w6.ownsRow wq.heap.size 5 1 (.slice bo2 (14 + dt.length + (m + 1)) bc2) (14 + dt.length + (m + 1)) (u8s ((partAt id xs k).out ++ List.replicate (m + 1) 0))) := Lib.hid (by
            have := hb6.out
            rw [show 14 + dt.length + (m + 1) = bl + 1 by rw [HBL.out]; omega, List.replicate_succ', ← List.append_assoc]
            exact this)
          clear hb6 hg6 hO6 HZ HZO HZA HZR
          go_wp2
          go_roundw
          case rel => exact ⟨m + 1, bo2, bc2, by have := H64.out; have := HBL.out; omega, by rw [HBL.out]; rfl, HB6, HO6⟩
          case measure => have := H64.out; simp [lenOf]; omega
        · have hbe : bl = 64 := by have := HBL.out; have := HD50.out; omega
          have hpad : (partAt id xs k).out ++ List.replicate m 0 = pad (partAt id xs k).out := by
            unfold pad
            congr 2
            rw [Part.out_length]
            have h1 := HBL.out
            have h2 : (partAt id xs k).data.length = dt.length := by rw [HDT.out]; rfl
            omega
          subst hbe
          have HB : Hid (wr.ownsRow wq.heap.size 5 1 (.slice zo 64 zc) 64 (u8s (pad (partAt id xs k).out))) := Lib.hid (by rw [← hpad]; exact HZ.out)
          obtain ⟨vs, hvs, hvl, hvr⟩ := (HI.out.quiet HZO.out).ex
          have HVS := Lib.hid hvs
          have HVL := Lib.hid hvl
          have HVR := Lib.hid hvr
          have HON := Lib.hid (HI.out.only.trans HZO.out (fun _ _ h => h))
          have HBW := Lib.hid (own_base HB.out HI.out.only.size)
          have hal := (Only.refl (fun _ => False) wr).alloc (.cells #[.slice zo 64 zc] 31)
          have HVL2 := Lib.hid (own_keep hvl hal)
          have hcel : ∀ j u, [Value.slice zo 64 zc][j]? = some u → (wr.alloc (.cells #[.slice zo 64 zc] 31)).cell? ((⟨wr.heap.size, 0, none⟩ : Addr).add j) = some u := fun j u hu => by
            match j, hu with
            | 0, hu =>
              simp at hu
              subst hu
              rw [add_lit, cell_of_row _ _ _ _ _ _ (heap_alloc_new wr (.cells #[.slice zo 64 zc] 31))]
              rfl
          have HCEL := Lib.hid hcel
          obtain ⟨i0, hi0, hz0, hz1, hz2⟩ := info_parts Try.infoSlB
          have h64I : ¬ ((64 : Nat) : Int) < 64 := by omega
          clear hvs hvl hvr hal hcel HZ hpad h64
          go_wp2_with (at_builtin; refine wpList_append_lies _ rfl (.tmp 58) (.tmp 60) 44 rfl w.heap.size 31 i0 (.slice none 0 0) 1 24 Try.underlying44 hi0 hz0 hz1 hz2 rfl (by decide) (.slice lo k lc) k vs rfl HVL2.out ⟨wr.heap.size, 0, none⟩ 1 1 [.slice zo 64 zc] rfl rfl HCEL.out (by simp [Value.oneCell']) (by decide) (by unfold maxLen; omega) (by omega) (by have := HON.out.size; simp; omega) _ rfl ?_; intro g6 c6 w6 ho6 hg6 _ _)
          have hnew : Hid (SecI w w6 id xs (k + 1) (.slice (some ⟨g6, 0, none⟩) (k + 1) c6)) := Lib.hid (SecI.grow (HON.out.alloc (.cells #[.slice zo 64 zc] 31)) HVS.out
            (fun j hj => own_keep (HVR.out j hj) ((Only.refl (fun _ => False) wr).alloc _)) ⟨_, _, HVL2.out⟩ (own_keep HBW.out ((Only.refl (fun _ => False) wr).alloc _)) ho6 hg6)
          clear ho6 hg6
          constructor
          · exact ⟨k + 1, some ⟨g6, 0, none⟩, c6, HLT.out, by go_num, rfl, hnew⟩
          · have := HLT.out; simp [intOf]; omega
    · have hkc : c = k := by omega
      subst hkc
      have hltI : ¬ (c : Int) < (c : Int) := by omega
      go_wp2
      go_ret
      exact ⟨lo, lc, by rw [← HN.out, ← HC.out]; rfl, by rw [← HN.out, ← HC.out]; exact HI.out⟩

end Go.Proofs.Ytidkeglldmbfeaa
