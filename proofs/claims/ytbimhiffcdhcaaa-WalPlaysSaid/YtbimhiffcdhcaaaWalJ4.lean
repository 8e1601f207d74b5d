/-
  Joined: WalR3 Wal1 InR Wal5 Raw DiskRef1 DiskRef2 DiskRef3 DiskRef4 DiskRef5 DiskRef6 DiskRef7.
-/
import Derived.Test.YtbimhiffcdhcaaaWalJ3
import Derived.Deep.DeepCutAuto
import Derived.Deep.CutBlock
import Derived.Laws.BitsAllLaws
import Derived.StillTailTactics
import Derived.Deep.RegionHeld3
import Derived.Laws.AppendOwnNone
import Derived.ArgAppend

namespace Go.Proofs.Ytbimhiffcdhcaaa
open Go Go.RowKit Go.Lib
set_option linter.unusedVariables false
set_option linter.unusedSimpArgs false
set_option maxRecDepth 100000

def flagsV (n k : Nat) : List Value := (List.range k).map fun j => .int .i64 (wFlag n j : Int)
theorem flagsV_succ (n k : Nat) : flagsV n (k + 1) = flagsV n k ++ [.int .i64 (wFlag n k : Int)] := by simp [flagsV, List.range_succ]
/-- The first k pieces: their data, as slices of what was handed in, and their flags. -/
structure PcsI (wb w wr : World) (xs : List UInt8) (k : Nat) (vl vf : Value) (vs : List Value) : Prop where
  len : vs.length = k
  one : ∀ u ∈ vs, u.oneCell' = true
  own : Own w wr (Sep (RowV 48 1 vl k vs) (Sep (RowV 3 1 vf k (flagsV (cntN xs.length) k)) Emp))
  sl : ∀ j, j < k → SlC wb (vs.getD j (.slice none 0 0)) (pieceN xs j)
theorem PcsI.start (wb w : World) (xs : List UInt8) : PcsI wb w w xs 0 (.slice none 0 0) (.slice none 0 0) [] :=
  ⟨rfl, fun u hu => by simp at hu, ((Own.start w).row_nil _ _).row_nil _ _, fun j hj => by omega⟩

set_option maxRecDepth 100000 in
set_option maxHeartbeats 8000000 in
theorem rpieces (v : Value) (xs : List UInt8) (wb w : World) (hv : SlN wb v xs) (hx : xs.length ≤ 32768) :
    Calls Try.prog 46 #[v] w fun e w' => ∃ lo lc fo fc vs, e = .returned (.tuple #[.slice lo (cntN xs.length) lc, .slice fo (cntN xs.length) fc]) ∧ PcsI wb w w' xs (cntN xs.length) (.slice lo (cntN xs.length) lc) (.slice fo (cntN xs.length) fc) vs := by
  obtain ⟨vo, vc, rfl, hvc⟩ := hv.2
  obtain ⟨n, hn⟩ : ∃ n, n = xs.length := ⟨_, rfl⟩
  have hcn : (cnt (n : Int) : Int) = (cntN n : Int) := by rw [cnt_nat (by omega)]
  obtain ⟨c, hc⟩ : ∃ c, c = cntN n := ⟨_, rfl⟩
  have hft := cntN_fits n
  have hm := cntN_max (n := n) (by omega)
  rw [← hc] at hcn hft hm
  have hv1 := hv.1
  rw [← hn] at hv1 hvc hx ⊢
  have hxc : cntN xs.length = c := by rw [← hn, ← hc]
  rw [← hc]
  have HCN := Lib.hid hcn
  have HC := Lib.hid hc
  have HXC := Lib.hid hxc
  have HFT := Lib.hid hft
  have HM := Lib.hid hm
  have HN := Lib.hid hn
  have HV := Lib.hid hv1
  have HVC := Lib.hid hvc
  have HX := Lib.hid hx
  have HS0 : Hid (∃ vs, PcsI wb w w xs 0 (.slice none 0 0) (.slice none 0 0) vs) := Lib.hid ⟨[], PcsI.start wb w xs⟩
  clear hv hv1 hvc hn hcn hc hft hm hx hxc
  go_enter Try.func46, Try.ntmps46
  go_wp2_with fail
  refine (rcount_all (n : Int) w).mono ?_
  rintro e w' ⟨rfl, rfl⟩
  rw [HCN.out]
  go_wp2_with fail
  go_loopw [5, 6, 7] (fun ov fv iv wr => ∃ (k : Nat) (lo fo : Option Addr) (lc fc : Nat), k ≤ c ∧ iv = .int .i64 k ∧ ov = .slice lo k lc ∧ fv = .slice fo k fc ∧ Hid (∃ vs, PcsI wb w wr xs k (.slice lo k lc) (.slice fo k fc) vs)) (fun _ _ iv _ => c - (intOf iv).toNat)
  case atStart => exact ⟨0, none, none, 0, 0, Nat.zero_le _, rfl, rfl, rfl, HS0⟩
  case round =>
    clear HS0
    obtain ⟨k, lo, fo, lc, fc, hk, rfl, rfl, rfl, HI⟩ := hrel
    by_cases hlt : k < c
    · have hltI : (k : Int) < (c : Int) := by omega
      have hk0 : (0 : Int) ≤ (k : Int) := by omega
      have hk6 : (k : Int) ≤ 656 := by have := HM.out; omega
      have HLT := Lib.hid hlt
      clear hlt hk
      obtain ⟨a, ha⟩ : ∃ a : Nat, a = k * 50 := ⟨_, rfl⟩
      have s1 : (50 : Int) * (k : Int) = (a : Int) := by omega
      have haf : a ≤ n ∧ (n ≠ 0 → a < n) ∧ (n = 0 → a = 0) := by
        have h1 := HFT.out
        have h2 := HLT.out
        have h3 := HC.out
        refine ⟨?_, ?_, ?_⟩
        · by_cases e : n = 0
          · subst e
            have : c = 1 := by rw [h3]; rfl
            omega
          · by_cases hk : k = 0
            · omega
            · have := h1.2 (by omega); omega
        · intro e
          by_cases hk : k = 0
          · omega
          · have := h1.2 (by omega); omega
        · intro e
          subst e
          have : c = 1 := by rw [h3]; rfl
          omega
      obtain ⟨dl, hdl⟩ : ∃ dl, dl = n - a := ⟨_, rfl⟩
      have hmore : 50 < dl ↔ ¬ k + 1 = c := by
        have h1 := HFT.out
        have h2 := HLT.out
        constructor
        · intro h e
          have := h1.1
          omega
        · intro h
          have := h1.2 (by omega)
          omega
      have HMORE := Lib.hid hmore
      have HA := Lib.hid ha
      have HAF := Lib.hid haf
      have HDL := Lib.hid hdl
      clear ha haf hdl hmore
      go_upto_region 7 with fail
      go_cut [8] (fun s wx => ∃ (po : Option Addr) (pc : Nat), s = .slice po dl pc ∧ dl ≤ pc ∧ Hid (SlC wb (.slice po dl pc) (xs.drop a)) ∧ Hid (wx = wr))
      case first =>
        by_cases hx0 : n = 0
        · have ha0 := HAF.out.2.2 hx0
          have hxs : xs = [] := List.eq_nil_of_length_eq_zero (by rw [← HN.out]; exact hx0)
          have hd0 : dl = 0 := by rw [HDL.out]; omega
          rcases HV.out with ⟨e, _⟩ | ⟨ad, cap, e, _⟩
          · simp at e
            obtain ⟨e1, e2, e3⟩ := e
            clear HAF HDL HV HVC HN HX HFT HCN HC HXC HMORE
            subst e1 e3 hx0 ha0 hd0
            go_wp2
            go_meet
            exact ⟨none, 0, rfl, Nat.le_refl _, Lib.hid (.inl ⟨rfl, by rw [hxs]; rfl⟩), Lib.hid rfl⟩
          · simp at e
            obtain ⟨e1, e2, e3⟩ := e
            clear HAF HDL HV HVC HN HX HFT HCN HC HXC HMORE e2 e3
            subst e1 hx0 ha0 hd0
            go_wp2
            go_meet
            exact ⟨_, _, rfl, Nat.zero_le _, Lib.hid (.inr ⟨_, _, by rw [hxs]; rfl, fun j hj => by rw [hxs] at hj; simp at hj⟩), Lib.hid rfl⟩
        · have hlt2 := HAF.out.2.1 hx0
          have hnv := HVC.out
          have hs := HV.out
          rw [HN.out] at hs
          rcases hs with ⟨e, _⟩ | ⟨ad, cap, e, hcell⟩
          · simp at e; have := HN.out; omega
          · simp at e
            obtain ⟨e1, e2⟩ := e
            obtain ⟨g, off, spot⟩ := ad
            have hspot : spot = none := by
              have h0 := hcell 0 (by have := HN.out; omega)
              simpa [Addr.add] using World.cell?_spot h0
            subst hspot
            have q1 : a ≤ n := by omega
            have q2 : (a : Int) ≤ (n : Int) := by omega
            have q3 : (n : Int) ≤ (vc : Int) := by omega
            have q4 : a < vc := by omega
            have q5 : (a : Int) < (vc : Int) := by omega
            have HR : Hid (SlC wb (.slice (some ⟨g, off + a, none⟩) dl (vc - a)) (xs.drop a)) := Lib.hid (.inr ⟨⟨g, off + a, none⟩, vc - a, by rw [List.length_drop, HDL.out, HN.out], fun j hj => by
              rw [add_lit]
              have := hcell (a + j) (by simp at hj; omega)
              rw [add_lit] at this
              rw [Nat.add_assoc, this]
              congr 3
              simp [List.getD_eq_getElem?_getD]⟩)
            have HD2 : Hid (dl ≤ vc - a) := Lib.hid (by rw [HDL.out]; omega)
            have HD3 : Hid (n - a = dl) := Lib.hid HDL.out.symm
            clear HAF HV HVC HX HFT HCN HC hcell hlt2 hnv hx0 e2
            subst e1
            go_wp2
            try rw [HD3.out]
            go_meet
            exact ⟨_, _, rfl, HD2.out, HR, Lib.hid rfl⟩
      obtain ⟨po, pc, rfl, hpc, HP, HW⟩ := hcut
      obtain rfl := HW.out
      clear HW
      obtain ⟨dt, hdt⟩ : ∃ dt, dt = pieceN xs k := ⟨_, rfl⟩
      have hdt2 : dt = (xs.drop a).take 50 := by rw [hdt, pieceN, HA.out]
      have hdd : (xs.drop a).length = dl := by rw [List.length_drop, HDL.out, HN.out]
      have HDT := Lib.hid hdt
      have HD2 := Lib.hid hdt2
      have HDD := Lib.hid hdd
      have hd50 : dt.length ≤ 50 := by rw [hdt2]; simp; omega
      have HD50 := Lib.hid hd50
      obtain ⟨ef, hef⟩ : ∃ ef : Nat, ef = (if k + 1 = c then 2 else 0) := ⟨_, rfl⟩
      have HEF := Lib.hid hef
      clear hdt hdt2 hdd hd50 hef
      go_upto_if 24 with (fail)
      go_cut [8, 9] (fun s f wx => f = .int .i64 ef ∧ ∃ (po : Option Addr) (pc : Nat), s = .slice po dt.length pc ∧ Hid (SlC wb (.slice po dt.length pc) dt) ∧ Hid (wx = wc))
      case first =>
        by_cases h50 : 50 < dl
        · have h50I : (50 : Int) < (dl : Int) := by omega
          have h50B : decide ((50 : Int) < (dl : Int)) = true := by simpa using h50I
          have hl50 : dt.length = 50 := by rw [HD2.out, List.length_take, HDD.out]; omega
          have he0 : ef = 0 := by rw [HEF.out, if_neg (HMORE.out.1 h50)]
          have hpcI : (50 : Int) ≤ (pc : Int) := by omega
          have hpcN : 50 ≤ pc := by omega
          rcases HP.out with ⟨e, e2⟩ | ⟨ad, cap, e, hcell⟩
          · have := HDD.out; rw [e2] at this; simp at this; omega
          · simp at e
            obtain ⟨e1, e2, e3⟩ := e
            obtain ⟨g, off, spot⟩ := ad
            have hspot : spot = none := by
              have h0 := hcell 0 (by rw [HDD.out]; omega)
              simpa [Addr.add] using World.cell?_spot h0
            subst hspot
            have HR : Hid (SlC wb (.slice (some ⟨g, off, none⟩) dt.length pc) dt) := Lib.hid (.inr ⟨⟨g, off, none⟩, pc, rfl, fun j hj => by
              have := hcell j (by rw [HDD.out]; omega)
              rw [this]
              congr 3
              rw [HD2.out]
              simp [List.getD_eq_getElem?_getD, List.getElem?_take, show j < 50 by omega]⟩)
            have HL50 := Lib.hid hl50
            clear hcell hl50 HP e2 HV HVC HX HFT HCN HC HXC HMORE
            subst e1 e3 he0
            go_wp2
            go_meet
            exact ⟨rfl, _, _, by rw [HL50.out], HR, Lib.hid rfl⟩
        · have h50I : ¬ (50 : Int) < (dl : Int) := by omega
          have h50B : decide ((50 : Int) < (dl : Int)) = false := by simpa using h50I
          have hde : dt = xs.drop a := by rw [HD2.out]; exact List.take_of_length_le (by rw [HDD.out]; omega)
          have HDE : Hid (dt.length = dl) := Lib.hid (by rw [hde]; exact HDD.out)
          have HR : Hid (SlC wb (.slice po dt.length pc) dt) := Lib.hid (by rw [HDE.out, hde]; exact HP.out)
          have hkc : k + 1 = c := Classical.byContradiction fun h => h50 (HMORE.out.2 h)
          have he2 : ef = 2 := by rw [HEF.out, if_pos hkc]
          clear hde hkc HEF
          subst he2
          go_wp2
          go_meet
          exact ⟨rfl, po, pc, by rw [HDE.out], HR, Lib.hid rfl⟩
      obtain ⟨rfl, po, pc, rfl, HP2, HW⟩ := hcut
      obtain rfl := HW.out
      clear HW HP hpc HDD HDL HD2
      -- the flag of the first one
      obtain ⟨fl, hfl⟩ : ∃ fl : Nat, fl = wFlag c k := ⟨_, rfl⟩
      have hfe : fl = (if k = 0 then 1 else 0) + ef := by rw [hfl, HEF.out]; rfl
      have HFL := Lib.hid hfl
      have HFE := Lib.hid hfe
      clear hfl hfe
      go_upto_if 28 with (fail)
      go_cut [9] (fun f wx => f = .int .i64 fl ∧ Hid (wx = wc))
      case first =>
        by_cases hk00 : k = 0
        · have hkB : ((k : Int) == 0) = true := by simp; exact hk00
          have he : (ef : Int) + 1 = (fl : Int) := by rw [HFE.out, if_pos hk00]; omega
          have hef4 : (ef : Int) ≤ 4 := by rw [HEF.out]; split <;> omega
          have hef0 : (0 : Int) ≤ (ef : Int) := by omega
          go_wp2_with fail
          try rw [he]
          go_meet
          exact ⟨rfl, Lib.hid rfl⟩
        · have hkB : ((k : Int) == 0) = false := by simp; exact hk00
          have he : ef = fl := by rw [HFE.out, if_neg hk00]; omega
          rw [he]
          go_wp2_with fail
          go_meet
          exact ⟨rfl, Lib.hid rfl⟩
      obtain ⟨rfl, HW⟩ := hcut
      obtain rfl := HW.out
      clear HW
      obtain ⟨vs, hp⟩ := HI.out
      have HP := Lib.hid hp
      clear hp HI
      have HNXT : Hid (flagsV (cntN xs.length) (k + 1) = flagsV (cntN xs.length) k ++ [.int .i64 (fl : Int)]) := Lib.hid (by rw [flagsV_succ, HFL.out, HXC.out])
      have HSLX : Hid (∀ j, j < k + 1 → SlC wb ((vs ++ [Value.slice po dt.length pc]).getD j (.slice none 0 0)) (pieceN xs j)) := Lib.hid (fun j hj => by
        have hl := HP.out.len
        by_cases e : j < k
        · rw [List.getD_eq_getElem?_getD, List.getElem?_append_left (by omega), ← List.getD_eq_getElem?_getD]
          exact HP.out.sl j e
        · obtain rfl : j = k := by omega
          rw [List.getD_eq_getElem?_getD, List.getElem?_append_right (by omega), hl, Nat.sub_self, ← HDT.out]
          exact HP2.out)
      have HLN : Hid ((vs ++ [Value.slice po dt.length pc]).length = k + 1) := Lib.hid (by rw [List.length_append, HP.out.len]; rfl)
      have HONE : Hid (∀ u ∈ vs ++ [Value.slice po dt.length pc], u.oneCell' = true) := Lib.hid (fun u hu => by
        rcases List.mem_append.1 hu with hu | hu
        · exact HP.out.one u hu
        · rw [List.mem_singleton.1 hu]; rfl)
      obtain ⟨i0, hi0, hz0, hz1, hz2⟩ := info_parts Try.infoSlB
      have HRW := Lib.hid (HP.out.own.owns.alloc (.cells #[.slice po dt.length pc] 48))
      have HA0 := Lib.hid ((HP.out.own.alloc (.cells #[.slice po dt.length pc] 48)).swap)
      obtain ⟨kk, hkk⟩ : ∃ kk, kk = flagsV (cntN xs.length) k := ⟨_, rfl⟩
      rw [← hkk] at HA0 HNXT
      clear hkk HP HP2 HFE HEF HFL HMORE HAF HC HV HVC
      go_wp2_with (first | (at_builtin; refine wpList_append_lies _ rfl (.tmp 31) (.tmp 33) 62 rfl 0 48 i0 _ 1 24 Try.underlying62 hi0 hz0 hz1 hz2 rfl (by decide) (.slice lo k lc) k vs rfl HRW.out ⟨wc.heap.size, 0, none⟩ 1 1 [.slice po dt.length pc] rfl rfl (World.news_of_block (heap_alloc_new wc _)) ?_ Nat.zero_lt_one ?_ ?_ (Nat.zero_le _) (wc.heap.size + 1) ?_ ?_))
      · intro u hu
        rw [List.mem_singleton.1 hu]; rfl
      · unfold maxLen; omega
      · omega
      · simp
      · intro g5 cap5 w5 hown hgrow hat hlt5
        have h5 := HA0.out.appended hown hgrow (hat.imp (fun h => h) (fun h => by simp; omega))
        have H5 : Hid (Own w w5 (Sep (RowV 3 1 (.slice fo k fc) k kk) (Sep (RowV 48 1 (.slice (some ⟨g5, 0, none⟩) (k + 1) cap5) (k + 1) (vs ++ [Value.slice po dt.length pc])) Emp))) := Lib.hid (h5.swap.snd.swap)
        clear hown hgrow hat hlt5 h5 HA0 HRW hi0 hz0 hz1 hz2
        obtain ⟨i1, hi1, hy0, hy1, hy2⟩ := info_parts Try.infoInt
        have HRX := Lib.hid (H5.out.owns.alloc (.cells #[.int .i64 (fl : Int)] 3))
        have HA1 := Lib.hid ((H5.out.alloc (.cells #[.int .i64 (fl : Int)] 3)).swap)
        go_wp2_with (first | (at_builtin; refine wpList_append_lies _ rfl (.tmp 35) (.tmp 37) 49 rfl 0 3 i1 _ 1 8 Try.underlying49 hi1 hy0 hy1 hy2 rfl (by decide) (.slice fo k fc) k kk rfl HRX.out ⟨w5.heap.size, 0, none⟩ 1 1 [.int .i64 (fl : Int)] rfl rfl (World.news_of_block (heap_alloc_new w5 _)) ?_ Nat.zero_lt_one ?_ ?_ (Nat.zero_le _) (w5.heap.size + 1) ?_ ?_))
        · intro u hu
          rw [List.mem_singleton.1 hu]; rfl
        · unfold maxLen; omega
        · omega
        · simp
        · intro g6 cap6 w6 hown hgrow hat hlt6
          have h6 := HA1.out.appended hown hgrow (hat.imp (fun h => h) (fun h => by simp; omega))
          have H6 : Hid (∃ vs, PcsI wb w w6 xs (k + 1) (.slice (some ⟨g5, 0, none⟩) (k + 1) cap5) (.slice (some ⟨g6, 0, none⟩) (k + 1) cap6) vs) := Lib.hid ⟨_, HLN.out, HONE.out, by
            rw [HNXT.out]
            exact h6.swap.snd.swap, HSLX.out⟩
          clear hown hgrow hat hlt6 h6 H5 HA1 HRX hi1 hy0 hy1 hy2
          go_wp2_with fail
          go_roundw
          case rel => exact ⟨k + 1, some ⟨g5, 0, none⟩, some ⟨g6, 0, none⟩, cap5, cap6, HLT.out, by go_num, rfl, rfl, H6⟩
          case measure => have := HLT.out; simp [intOf]; omega
    · have hkc : c = k := by omega
      subst hkc
      have hltI : ¬ (c : Int) < (c : Int) := by omega
      obtain ⟨vs, hp⟩ := HI.out
      have HP := Lib.hid hp
      clear hp
      go_wp2_with fail
      go_ret2
      exact ⟨lo, lc, fo, fc, rfl, vs, HP.out⟩

end Go.Proofs.Ytbimhiffcdhcaaa

namespace Go.Proofs.Ytbimhiffcdhcaaa
open Go Go.RowKit Go.Lib
set_option linter.unusedVariables false
set_option linter.unusedSimpArgs false
set_option maxRecDepth 100000

/-- The log in memory. -/
def wlogO (p base size M head nxt : Nat) : Obj := .cells #[.pointer (some ⟨p, 0, none⟩), .int .i64 base, .int .i64 size, .int .u32 M, .int .u64 head, .int .u64 nxt] 81 (0, 0)
abbrev WLogR (q p base size M head nxt : Nat) : Res := Blk q (wlogO p base size M head nxt)
theorem wlog_cells {w : World} {q p base size M head nxt : Nat} (h : w.heap[q]? = some (wlogO p base size M head nxt)) :
    w.cell? ⟨q, 0, none⟩ = some (.pointer (some ⟨p, 0, none⟩)) ∧ w.cell? ⟨q, 1, none⟩ = some (.int .i64 base) ∧ w.cell? ⟨q, 2, none⟩ = some (.int .i64 size) ∧ w.cell? ⟨q, 3, none⟩ = some (.int .u32 M) ∧ w.cell? ⟨q, 4, none⟩ = some (.int .u64 head) ∧ w.cell? ⟨q, 5, none⟩ = some (.int .u64 nxt) := by
  simp [World.cell?, h, wlogO]

/-- Count. -/
theorem wcount_any (z : Int) (w : World) :
    Calls Try.prog 10 #[.int .i64 z] w fun e w' => e = .returned (.int .i64 (cnt z)) ∧ w = w' := by
  by_cases h0 : z < 0
  · have e : cnt z = 0 := (cnt_zero z).2 (.inl h0)
    rw [e]
    go_enter Try.func10, Try.ntmps10
    go_wp2
    go_ret
    exact ⟨rfl, rfl⟩
  · by_cases h1 : 32768 < z
    · have e : cnt z = 0 := (cnt_zero z).2 (.inr h1)
      rw [e]
      go_enter Try.func10, Try.ntmps10
      go_wp2
      go_ret
      exact ⟨rfl, rfl⟩
    · have hz0 : 0 ≤ z := by omega
      have hz1 : z ≤ 32768 := by omega
      have e : (cnt z : Int) = max 1 ((z + 50 - 1) / 50) := by
        obtain ⟨n, rfl⟩ := Int.eq_ofNat_of_zero_le hz0
        rw [cnt_nat (by omega)]
        unfold cntN
        split <;> omega
      have HE := Lib.hid e
      clear e
      go_enter Try.func10, Try.ntmps10
      go_wp2
      all_goals
        go_ret
        refine ⟨?_, rfl⟩
        show Ending.returned (.int .i64 _) = Ending.returned (.int .i64 _)
        congr 2
        have := HE.out
        omega

/-- A nil log. -/
theorem wroom_nil (w : World) : Calls Try.prog 21 #[.pointer none] w fun e w' => e = .returned (.int .i64 0) ∧ w = w' := by
  go_enter Try.func21, Try.ntmps21
  go_wp2
  go_ret
  exact ⟨rfl, rfl⟩
theorem whead_nil (w : World) : Calls Try.prog 19 #[.pointer none] w fun e w' => e = .returned (.int .u64 0) ∧ w = w' := by
  go_enter Try.func19, Try.ntmps19
  go_wp2
  go_ret
  exact ⟨rfl, rfl⟩
theorem wnext_nil (w : World) : Calls Try.prog 20 #[.pointer none] w fun e w' => e = .returned (.int .u64 0) ∧ w = w' := by
  go_enter Try.func20, Try.ntmps20
  go_wp2
  go_ret
  exact ⟨rfl, rfl⟩
theorem wtrim_nil (t : Nat) (w : World) : Calls Try.prog 18 #[.pointer none, .int .u64 t] w fun e w' => e = .returned (.int .i64 11) ∧ w = w' := by
  go_enter Try.func18, Try.ntmps18
  go_wp2
  go_ret
  exact ⟨rfl, rfl⟩
theorem wappend_nil (v : Value) (w : World) : Calls Try.prog 17 #[.pointer none, v] w fun e w' => e = .returned (.tuple #[.int .u64 0, .int .i64 11]) ∧ w = w' := by
  go_enter Try.func17, Try.ntmps17
  go_wp2
  go_ret2
  exact ⟨rfl, rfl⟩

theorem whead_any {w : World} {q p base size M head nxt : Nat} (h : w.heap[q]? = some (wlogO p base size M head nxt)) :
    Calls Try.prog 19 #[.pointer (some ⟨q, 0, none⟩)] w fun e w' => e = .returned (.int .u64 head) ∧ w = w' := by
  obtain ⟨_, _, _, _, c4, _⟩ := wlog_cells h
  clear h
  go_enter Try.func19, Try.ntmps19
  go_wp2
  go_ret
  exact ⟨rfl, rfl⟩
theorem wnext_any {w : World} {q p base size M head nxt : Nat} (h : w.heap[q]? = some (wlogO p base size M head nxt)) :
    Calls Try.prog 20 #[.pointer (some ⟨q, 0, none⟩)] w fun e w' => e = .returned (.int .u64 nxt) ∧ w = w' := by
  obtain ⟨_, _, _, _, _, c5⟩ := wlog_cells h
  clear h
  go_enter Try.func20, Try.ntmps20
  go_wp2
  go_ret
  exact ⟨rfl, rfl⟩

set_option maxHeartbeats 1000000 in
theorem wroom_any {w : World} {q p base size M head nxt : Nat} (h : w.heap[q]? = some (wlogO p base size M head nxt)) (hh : head ≤ nxt) (hn : nxt < 9223372036854775808) (hs : size ≤ 4096) :
    Calls Try.prog 21 #[.pointer (some ⟨q, 0, none⟩)] w fun e w' => e = .returned (.int .i64 ((size : Int) - ((nxt : Int) - (head : Int)))) ∧ ∃ n, w' = w.drewN n := by
  obtain ⟨_, _, c2, _, c4, c5⟩ := wlog_cells h
  have e1 : IntKind.u64.wrap ((nxt : Int) - (head : Int)) = ((nxt : Int) - (head : Int)) := by rw [IntKind.wrap_u64]; omega
  obtain ⟨z, hz⟩ : ∃ z : Int, z = (nxt : Int) - (head : Int) := ⟨_, rfl⟩
  rw [← hz] at e1 ⊢
  have e2 : IntKind.i64.wrap z = z := IntWalk.i64_in _ (by omega)
  have e3 : IntKind.i64.wrap ((size : Int) - z) = (size : Int) - z := IntWalk.i64_in _ (by omega)
  have HZ := Lib.hid hz
  clear h
  rw [hz] at e1
  go_enter Try.func21, Try.ntmps21
  go_wp2_with fail
  go_quiet (fail)
  go_wp2_with fail
  go_ret
  refine ⟨?_, _, rfl⟩
  rw [HZ.out]
  rfl

set_option maxHeartbeats 1000000 in
theorem wsector_any {w : World} {q p base size M head nxt : Nat} (h : w.heap[q]? = some (wlogO p base size M head nxt)) (sn : Nat) (hn : sn < 18446744073709551616) (h0 : 0 < size) (hs : base + size ≤ 4096) :
    Calls Try.prog 44 #[.pointer (some ⟨q, 0, none⟩), .int .u64 sn] w fun e w' => e = .returned (.int .i64 (ringS base size sn : Nat)) ∧ ∃ n, w' = w.drewN n := by
  obtain ⟨_, c1, c2, _, _, _⟩ := wlog_cells h
  obtain ⟨rm, hrm⟩ : ∃ rm, rm = sn % size := ⟨_, rfl⟩
  obtain ⟨rg, hrg⟩ : ∃ rg, rg = ringS base size sn := ⟨_, rfl⟩
  have hrl : rg < base + size := by rw [hrg]; exact ring_lt h0 (Nat.le_refl _)
  have hre : base + rm = rg := by rw [hrg, hrm]; rfl
  have q3 : IntKind.u64.wrap (size : Int) = (size : Int) := by rw [IntKind.wrap_u64]; omega
  have q4 : (sn : Int).tmod (size : Int) = (rm : Int) := by rw [hrm]; rfl
  have q5 : IntKind.u64.wrap (rm : Int) = (rm : Int) := by rw [IntKind.wrap_u64]; omega
  have q6 : IntKind.i64.wrap (rm : Int) = (rm : Int) := IntWalk.i64_in _ (by omega)
  have q7 : IntKind.i64.wrap ((base : Int) + (rm : Int)) = (rg : Int) := by rw [IntWalk.i64_in _ (by omega)]; omega
  have q8 : ((size : Int) == 0) = false := by simp; omega
  have q9 : ¬ size = 0 := by omega
  have q10 : ¬ (size : Int) = 0 := by omega
  have q11 : sn % size = rm := hrm.symm
  rw [← hrg]
  clear h hrm hrg
  go_enter Try.func44, Try.ntmps44
  go_wp2_with fail
  go_quiet (fail)
  go_wp2_with fail
  go_ret
  exact ⟨rfl, _, rfl⟩

set_option maxHeartbeats 1000000 in
theorem wtrim_any {w0 w : World} {q p base size M head nxt : Nat} {J : Res} [Stab J] (h : Own w0 w (Sep (WLogR q p base size M head nxt) J)) (tn : Nat) :
    Calls Try.prog 18 #[.pointer (some ⟨q, 0, none⟩), .int .u64 tn] w fun e w' => e = .returned (.int .i64 (if tn < head ∨ nxt < tn then 1 else 0 : Nat)) ∧ Own w0 w' (Sep (WLogR q p base size M (if tn < head ∨ nxt < tn then head else tn) nxt) J) := by
  have hb := h.held
  obtain ⟨_, _, _, _, c4, c5⟩ := wlog_cells hb
  have f4 : w.frozen? ⟨q, 4, none⟩ = false := blk_free hb 4
  have HS := Lib.hid (h.store 4 (.int .u64 tn))
  have H := Lib.hid h
  clear h hb
  by_cases h1 : tn < head
  · have h1I : (tn : Int) < (head : Int) := by omega
    have h1d : decide ((tn : Int) < (head : Int)) = true := decide_eq_true h1I
    rw [if_pos (.inl h1), if_pos (.inl h1)]
    clear h1
    go_enter Try.func18, Try.ntmps18
    go_wp2_with fail
    go_ret
    exact ⟨rfl, H.out⟩
  · have h1I : ¬ (tn : Int) < (head : Int) := by omega
    have h1d : decide ((tn : Int) < (head : Int)) = false := decide_eq_false h1I
    by_cases h2 : nxt < tn
    · have h2I : (nxt : Int) < (tn : Int) := by omega
      have h2d : decide ((nxt : Int) < (tn : Int)) = true := decide_eq_true h2I
      rw [if_pos (.inr h2), if_pos (.inr h2)]
      clear h1 h2
      go_enter Try.func18, Try.ntmps18
      go_wp2_with fail
      go_ret
      exact ⟨rfl, H.out⟩
    · have h2I : ¬ (nxt : Int) < (tn : Int) := by omega
      have h2d : decide ((nxt : Int) < (tn : Int)) = false := decide_eq_false h2I
      rw [if_neg (fun e => e.elim h1 h2), if_neg (fun e => e.elim h1 h2)]
      clear h1 h2
      go_enter Try.func18, Try.ntmps18
      go_wp2_with fail
      go_ret
      exact ⟨rfl, HS.out⟩

/-- A piece by value. -/
abbrev pcV (n m f : Nat) (dv : Value) : Value := .agg #[.int .u64 n, .int .u32 m, .int .u8 f, dv]
abbrev pcO (n m f : Nat) (dv : Value) : Obj := .cells #[.int .u64 n, .int .u32 m, .int .u8 f, dv] 90 (0, 0)

theorem and1 : ∀ f : Fin 256, bits .and .u8 ((f : Nat) : Int) 1 = (((f : Nat) % 2 : Nat) : Int) := by decide
theorem and2 : ∀ f : Fin 256, bits .and .u8 ((f : Nat) : Int) 2 = ((2 * ((f : Nat) / 2 % 2) : Nat) : Int) := by decide

theorem whas1 (n m f : Nat) (dv : Value) (hf : f < 256) (w : World) :
    Calls Try.prog 58 #[pcV n m f dv, .int .u8 1] w fun e w' => e = .returned (.bool (decide (f % 2 = 1))) ∧ Only (fun _ => False) w w' := by
  have e1 := and1 ⟨f, hf⟩
  simp only at e1
  have e2 : (((f % 2 : Nat) : Int) != 0) = decide (f % 2 = 1) := by rcases Nat.mod_two_eq_zero_or_one f with h | h <;> simp [h]
  obtain ⟨x, hx⟩ : ∃ x : Nat, x = f % 2 := ⟨_, rfl⟩
  obtain ⟨b, hb⟩ : ∃ b : Bool, b = decide (f % 2 = 1) := ⟨_, rfl⟩
  rw [← hb] at e2 ⊢
  rw [← hx] at e1 e2
  have HO := Lib.hid ((Only.refl (fun _ => False) w).alloc (pcO n m f dv))
  unfold pcV
  clear hb hx
  go_enter Try.func58, Try.ntmps58
  go_wp2
  go_ret
  exact ⟨rfl, HO.out⟩
theorem whas2 (n m f : Nat) (dv : Value) (hf : f < 256) (w : World) :
    Calls Try.prog 58 #[pcV n m f dv, .int .u8 2] w fun e w' => e = .returned (.bool (decide (f / 2 % 2 = 1))) ∧ Only (fun _ => False) w w' := by
  have e1 := and2 ⟨f, hf⟩
  simp only at e1
  have e2 : (((2 * (f / 2 % 2) : Nat) : Int) != 0) = decide (f / 2 % 2 = 1) := by rcases Nat.mod_two_eq_zero_or_one (f / 2) with h | h <;> simp [h]
  obtain ⟨x, hx⟩ : ∃ x : Nat, x = 2 * (f / 2 % 2) := ⟨_, rfl⟩
  obtain ⟨b, hb⟩ : ∃ b : Bool, b = decide (f / 2 % 2 = 1) := ⟨_, rfl⟩
  rw [← hb] at e2 ⊢
  rw [← hx] at e1 e2
  have HO := Lib.hid ((Only.refl (fun _ => False) w).alloc (pcO n m f dv))
  unfold pcV
  clear hb hx
  go_enter Try.func58, Try.ntmps58
  go_wp2
  go_ret
  exact ⟨rfl, HO.out⟩

/-- The form of a piece. -/
def Pc.form (x : Pc) : Bool := decide (x.f ≤ 3) && (decide (2 ≤ x.f) || decide (x.d.length = 50)) && decide (x.d.length ≤ 50) && (decide (x.f = 3) || decide (0 < x.d.length))
def formN (f n : Nat) : Bool := decide (f ≤ 3) && (decide (2 ≤ f) || decide (n = 50)) && decide (n ≤ 50) && (decide (f = 3) || decide (0 < n))

set_option maxHeartbeats 1000000 in
theorem wholds (n m f : Nat) (dv : Value) (hf : f < 256) (s : Nat) (hs : s < 256) (w : World) :
    Calls Try.prog 65 #[pcV n m f dv, .int .i64 s] w fun e w' => e = .returned (.bool (formN f s)) ∧ Only (fun _ => False) w w' := by
  have H1 := Lib.hid (whas1 n m f dv hf)
  have H2 := Lib.hid (whas2 n m f dv hf)
  have HO := Lib.hid ((Only.refl (fun _ => False) w).alloc (pcO n m f dv))
  unfold pcV at H1 H2 ⊢
  by_cases h1 : 4 ≤ f
  · have h1d : decide ((4 : Int) ≤ (f : Int)) = true := decide_eq_true (by omega)
    have hI : ¬ (f : Int) < 4 := by omega
    have e : formN f s = false := by simp [formN]; omega
    rw [e]
    go_enter Try.func65, Try.ntmps65
    go_wp2
    go_ret
    exact ⟨rfl, HO.out⟩
  · have hI : (f : Int) < 4 := by omega
    by_cases h2 : 50 < s
    · have h2I : (50 : Int) < (s : Int) := by omega
      have e : formN f s = false := by simp [formN]; omega
      rw [e]
      go_enter Try.func65, Try.ntmps65
      go_wp2
      go_ret
      exact ⟨rfl, HO.out⟩
    · have h2I : ¬ (50 : Int) < (s : Int) := by omega
      by_cases h3 : 2 ≤ f
      · have e3 : decide (f / 2 % 2 = 1) = true := decide_eq_true (by omega)
        rw [e3] at H2
        by_cases h4 : 0 < s
        · have h4I : (0 : Int) < (s : Int) := by omega
          have e : formN f s = true := by simp [formN]; omega
          rw [e]
          go_enter Try.func65, Try.ntmps65
          go_wp2_with fail
          refine (H2.out _).mono ?_
          rintro e w' ⟨rfl, ho⟩
          have HO2 := Lib.hid (HO.out.trans ho (fun _ _ h => h))
          clear ho
          go_wp2_with fail
          go_ret
          exact ⟨rfl, HO2.out⟩
        · have h4I : ¬ (0 : Int) < (s : Int) := by omega
          have e : formN f s = decide (f % 2 = 1) := by
            rcases (show f = 2 ∨ f = 3 by omega) with rfl | rfl <;> simp [formN] <;> omega
          rw [e]
          go_enter Try.func65, Try.ntmps65
          go_wp2_with fail
          refine (H2.out _).mono ?_
          rintro e w1 ⟨rfl, ho⟩
          have HO2 := Lib.hid (HO.out.trans ho (fun _ _ h => h))
          have hk := ho.keep (heap_alloc_new w (pcO n m f dv)) (fun h => h)
          have d0 := blk_cell hk 0 rfl
          have d1 := blk_cell hk 1 rfl
          have d2 := blk_cell hk 2 rfl
          have d3 := blk_cell hk 3 rfl
          clear ho hk
          go_wp2_with fail
          refine (H1.out _).mono ?_
          rintro e w2 ⟨rfl, ho⟩
          have HO3 := Lib.hid (HO2.out.trans ho (fun _ _ h => h))
          clear ho
          obtain ⟨b, hb⟩ : ∃ b : Bool, b = decide (f % 2 = 1) := ⟨_, rfl⟩
          rw [← hb]
          go_wp2_with fail
          go_ret
          exact ⟨rfl, HO3.out⟩
      · have e3 : decide (f / 2 % 2 = 1) = false := decide_eq_false (by omega)
        rw [e3] at H2
        have e : formN f s = decide (s = 50) := by
          by_cases e5 : s = 50
          · subst e5; rcases (show f = 0 ∨ f = 1 by omega) with rfl | rfl <;> rfl
          · rcases (show f = 0 ∨ f = 1 by omega) with rfl | rfl <;> simp [formN, e5]
        rw [e]
        obtain ⟨b, hb⟩ : ∃ b : Bool, b = decide (s = 50) := ⟨_, rfl⟩
        have hb2 : ((s : Int) == 50) = b := by
          rw [hb]
          by_cases e5 : s = 50
          · subst e5; rfl
          · have : ¬ (s : Int) = 50 := by omega
            simp [e5, this]
        rw [← hb]
        clear hb e
        go_enter Try.func65, Try.ntmps65
        go_wp2_with fail
        refine (H2.out _).mono ?_
        rintro e w' ⟨rfl, ho⟩
        have HO2 := Lib.hid (HO.out.trans ho (fun _ _ h => h))
        clear ho
        go_wp2_with fail
        go_ret
        exact ⟨rfl, HO2.out⟩

end Go.Proofs.Ytbimhiffcdhcaaa

namespace Go.Proofs.Ytbimhiffcdhcaaa
open Go Go.RowKit
set_option linter.unusedVariables false
set_option linter.unusedSimpArgs false
set_option maxRecDepth 100000

def blkV : Value → Option Nat
  | .slice (some a) _ _ => some a.block
  | _ => none
/-- The second lies in the first's block. -/
def SameB (v v' : Value) : Prop := ∀ k, blkV v' = some k → blkV v = some k

/-- An In of one's own. -/
def InR (p : Nat) (xs : List UInt8) (bad : Bool) : Res := fun w F => ∃ v, InV w p v xs bad ∧ ∀ k, F k ↔ k = p ∨ blkV v = some k
theorem SlB.blk {w : World} {v : Value} {xs : List UInt8} (h : SlB w v xs) {k : Nat} (hk : blkV v = some k) : ∃ cur, w.heap[k]? = some (.cells cur 5 (0, 0)) := by
  rcases h with ⟨rfl, _⟩ | ⟨g, off, cap, cur, rfl, _, _, h3, _⟩
  · cases hk
  · simp [blkV] at hk
    subst hk
    exact ⟨cur, h3⟩
instance {p : Nat} {xs : List UInt8} {bad : Bool} : Stab (InR p xs bad) where
  lt := by
    rintro w F ⟨v, h, hF⟩ k hk
    rcases (hF k).1 hk with rfl | hk
    · exact h.lt
    · obtain ⟨cur, hc⟩ := h.sl.blk hk
      exact lt_of_some hc
  keep := by
    rintro w w' F ⟨v, h, hF⟩ hk
    refine ⟨v, ⟨(hk p ((hF p).2 (.inl rfl))).trans h.at', ?_⟩, hF⟩
    rcases h.sl with h0 | ⟨g, off, cap, cur, rfl, h1, h2, h3, h4⟩
    · exact .inl h0
    · exact .inr ⟨g, off, cap, cur, rfl, h1, h2, (hk g ((hF g).2 (.inr rfl))).trans h3, h4⟩

def UPostB (k : IntKind) (w : World) (p n : Nat) (v : Value) (xs : List UInt8) (bad : Bool) (e : Ending) (w' : World) : Prop :=
  ∃ v', e = .returned (.int k (numB (nextR n xs bad))) ∧ InV w' p v' (nextL n xs bad) (!can n xs bad) ∧ Only (fun k => k = p) w w' ∧ SameB v v'
def ToPostB (w : World) (xs : List UInt8) (e : Ending) (w' : World) : Prop :=
  ∃ p v, e = .returned (.pointer (some ⟨p, 0, none⟩)) ∧ InV w' p v xs false ∧ w.heap.size ≤ p ∧ Only (fun _ => False) w w' ∧ ∀ k, blkV v = some k → w.heap.size ≤ k
theorem next_blk (p n : Nat) (v : Value) (xs : List UInt8) (bad : Bool) (w : World) (hI : InV w p v xs bad) :
    Calls Try.prog 70 #[.pointer (some ⟨p, 0, none⟩), .int .i64 n] w fun e w' => ∃ r v', e = .returned r ∧ SlB w' r (nextR n xs bad) ∧ InV w' p v' (nextL n xs bad) (!can n xs bad) ∧ Only (fun k => k = p) w w' ∧ SameB v v' := by
  cases bad with
  | true =>
    refine (next_bad p n w hI.cell1).mono ?_
    rintro e w' ⟨rfl, rfl⟩
    refine ⟨_, v, rfl, .inl ⟨rfl, by simp [nextR, can]⟩, by simpa [nextL, can] using hI, Only.refl _ _, fun k h => h⟩
  | false =>
    by_cases hn : n ≤ xs.length
    · have hcan : can n xs false = true := by simp [can, hn]
      rcases hI.sl with ⟨rfl, rfl⟩ | ⟨g, off, cap, cur, rfl, h1, h2, h3, h4⟩
      · obtain rfl : n = 0 := by simpa using hn
        refine (next_ok0 p w hI.cell1 hI.cell0 (hI.free 0)).mono ?_
        rintro e w' ⟨rfl, rfl⟩
        refine ⟨_, .slice none 0 0, rfl, .inl ⟨rfl, by simp [nextR]⟩, ?_, Only.cell w p _ _, fun k h => h⟩
        rw [hcan]
        simpa [nextL] using hI.set0 (u := .slice none 0 0) (ys := []) (.inl ⟨rfl, rfl⟩)
      · refine (next_ok p g off xs.length cap n w hI.cell1 hI.cell0 (hI.free 0) hn h1 (by unfold maxLen at h2; omega)).mono ?_
        rintro e w' ⟨rfl, rfl⟩
        have ht := (SlB.take h1 h2 h3 h4 hn).setCell hI.at' (by decide) 0 (.slice (some (if n < cap then ⟨g, off + n, none⟩ else ⟨g, off, none⟩)) (xs.length - n) (cap - n))
        have hd := hI.set0 (SlB.drop h1 h2 h3 h4 hn)
        refine ⟨_, _, rfl, by simpa [nextR, hcan] using ht, by simpa [nextL, hcan] using hd, Only.cell w p _ _, fun k h => by simp only [blkV] at h ⊢; split at h <;> exact h⟩
    · have hcan : can n xs false = false := by simp [can]; omega
      obtain ⟨ao, cap, rfl, _⟩ := hI.sl.shape
      refine (next_short p ao xs.length cap n w hI.cell1 hI.cell0 (hI.free 1) (by omega)).mono ?_
      rintro e w' ⟨rfl, rfl⟩
      refine ⟨_, _, rfl, .inl ⟨rfl, by simp [nextR, hcan]⟩, by simpa [nextL, hcan] using hI.set1 true, Only.cell w p _ _, fun k h => h⟩

set_option maxHeartbeats 400000 in
theorem number_blk (p n : Nat) (v : Value) (xs : List UInt8) (bad : Bool) (w : World) (hI : InV w p v xs bad) (hn8 : n ≤ 8) :
    Calls Try.prog 69 #[.pointer (some ⟨p, 0, none⟩), .int .i64 n] w (UPostB .u64 w p n v xs bad) := by
  go_enter Try.func69, Try.ntmps69
  go_wp2_with fail
  refine (next_blk p n v xs bad w hI).mono ?_
  rintro e w1 ⟨r, v', rfl, hr, hI', ho, hsb⟩
  obtain ⟨ys, hys⟩ : ∃ ys, ys = nextR n xs bad := ⟨_, rfl⟩
  rw [← hys] at hr
  have hl8 : ys.length ≤ 8 := by rw [hys]; unfold nextR; split <;> simp; omega
  obtain ⟨ao, cap, hre, hlc, hcm⟩ := hr.shape
  have HSB := Lib.hid hsb; clear hsb
  have HR := Lib.hid hr; clear hr
  have HY := Lib.hid hys; clear hys
  have HI' := Lib.hid hI'; clear hI'
  have HO := Lib.hid ho; clear ho
  have HI := Lib.hid hI; clear hI
  subst hre
  go_wp2_with fail
  go_loop [5, 12] (fun x i => ∃ k : Nat, k ≤ ys.length ∧ i = .int .i64 k ∧ x = .int .u64 (numB (ys.take k))) (fun _ i => ys.length - (intOf i).toNat)
  case atStart => exact ⟨0, Nat.zero_le _, rfl, rfl⟩
  case round =>
    obtain ⟨k, hk, rfl, rfl⟩ := hrel
    by_cases hlt : k < ys.length
    · obtain ⟨g, off, hao, hcell⟩ := HR.out.cells hlt
      have hbd : (ys.getD k 0).toNat < 256 := (ys.getD k 0).toNat_lt
      have hnb := Lib.hid (numB_take_lt ys k hlt hl8)
      have hnb' := hnb.out
      have hbd' := Lib.hid hbd
      have HT := Lib.hid (take_snoc8 ys k hlt)
      have HG : Hid (ys.getD k 0 = ys[k]) := by simp [Hid, hlt]
      subst hao
      go_wp2
      go_round
      case rel =>
        refine ⟨k + 1, by omega, by go_num, ?_⟩
        rw [← HG.out, or_step _ _ hnb.out hbd'.out, HT.out, numB_snoc]
      case measure => simp [intOf]; omega
    · have hke : k = ys.length := by omega
      go_wp2
      go_ret
      refine ⟨v', ?_, HI'.out, HO.out, HSB.out⟩
      rw [← HY.out]
      rfl

set_option maxHeartbeats 400000 in
theorem inU64_blk (p : Nat) (v : Value) (xs : List UInt8) (bad : Bool) (w : World) (hI : InV w p v xs bad) :
    Calls Try.prog 62 #[.pointer (some ⟨p, 0, none⟩)] w (UPostB .u64 w p 8 v xs bad) := by
  go_enter Try.func62, Try.ntmps62
  go_wp2_with fail
  refine (number_blk p 8 v xs bad w hI (by omega)).mono ?_
  rintro e w1 ⟨v', rfl, hI', ho, hsb⟩
  have HI' := Lib.hid hI'; clear hI'
  have HO := Lib.hid ho; clear ho
  have HSB := Lib.hid hsb; clear hsb
  go_wp2
  go_ret
  exact ⟨v', rfl, HI'.out, HO.out, HSB.out⟩

theorem own_inU64 {w0 w : World} {p : Nat} {xs : List UInt8} {bad : Bool} {J : Res} [Stab J] (h : Own w0 w (Sep (InR p xs bad) J)) :
    Calls Try.prog 62 #[.pointer (some ⟨p, 0, none⟩)] w fun e w' => e = .returned (.int .u64 (numB (nextR 8 xs bad))) ∧ Own w0 w' (Sep (InR p (nextL 8 xs bad) (!can 8 xs bad)) J) := by
  refine (Own.call (val := fun _ : Unit => .int .u64 (numB (nextR 8 xs bad))) (Q := fun _ => InR p (nextL 8 xs bad) (!can 8 xs bad)) h ?_).mono ?_
  · rintro F B ⟨v, hI, hF⟩ hJ hd h0
    refine (inU64_blk p v xs bad w hI).mono ?_
    rintro e w' ⟨v', rfl, hI', ho, hs⟩
    refine ⟨(), fun k => k = p ∨ blkV v' = some k, rfl, ⟨v', hI', fun k => Iff.rfl⟩, fun k hk => .inl ((hF k).2 (hk.imp id (hs k))), ho.mono fun k _ e => (hF k).2 (.inl e)⟩
  · rintro e w' ⟨_, rfl, hq⟩
    exact ⟨rfl, hq⟩

set_option maxHeartbeats 400000 in
theorem inU32_blk (p : Nat) (v : Value) (xs : List UInt8) (bad : Bool) (w : World) (hI : InV w p v xs bad) :
    Calls Try.prog 63 #[.pointer (some ⟨p, 0, none⟩)] w (UPostB .u32 w p 4 v xs bad) := by
  go_enter Try.func63, Try.ntmps63
  go_wp2_with fail
  refine (number_blk p 4 v xs bad w hI (by omega)).mono ?_
  rintro e w1 ⟨v', rfl, hI', ho, hsb⟩
  have HI' := Lib.hid hI'; clear hI'
  have HO := Lib.hid ho; clear ho
  have HSB := Lib.hid hsb; clear hsb
  have HN := Lib.hid (numN_lt 4 xs bad)
  go_wp2
  go_ret
  refine ⟨v', ?_, HI'.out, HO.out, HSB.out⟩
  have := HN.out
  simp
  omega

theorem own_inU32 {w0 w : World} {p : Nat} {xs : List UInt8} {bad : Bool} {J : Res} [Stab J] (h : Own w0 w (Sep (InR p xs bad) J)) :
    Calls Try.prog 63 #[.pointer (some ⟨p, 0, none⟩)] w fun e w' => e = .returned (.int .u32 (numB (nextR 4 xs bad))) ∧ Own w0 w' (Sep (InR p (nextL 4 xs bad) (!can 4 xs bad)) J) := by
  refine (Own.call (val := fun _ : Unit => .int .u32 (numB (nextR 4 xs bad))) (Q := fun _ => InR p (nextL 4 xs bad) (!can 4 xs bad)) h ?_).mono ?_
  · rintro F B ⟨v, hI, hF⟩ hJ hd h0
    refine (inU32_blk p v xs bad w hI).mono ?_
    rintro e w' ⟨v', rfl, hI', ho, hs⟩
    refine ⟨(), fun k => k = p ∨ blkV v' = some k, rfl, ⟨v', hI', fun k => Iff.rfl⟩, fun k hk => .inl ((hF k).2 (hk.imp id (hs k))), ho.mono fun k _ e => (hF k).2 (.inl e)⟩
  · rintro e w' ⟨_, rfl, hq⟩
    exact ⟨rfl, hq⟩

set_option maxHeartbeats 400000 in
theorem inU8_blk (p : Nat) (v : Value) (xs : List UInt8) (bad : Bool) (w : World) (hI : InV w p v xs bad) :
    Calls Try.prog 64 #[.pointer (some ⟨p, 0, none⟩)] w (UPostB .u8 w p 1 v xs bad) := by
  go_enter Try.func64, Try.ntmps64
  go_wp2_with fail
  refine (number_blk p 1 v xs bad w hI (by omega)).mono ?_
  rintro e w1 ⟨v', rfl, hI', ho, hsb⟩
  have HI' := Lib.hid hI'; clear hI'
  have HO := Lib.hid ho; clear ho
  have HSB := Lib.hid hsb; clear hsb
  have HN := Lib.hid (numN_lt 1 xs bad)
  go_wp2
  go_ret
  refine ⟨v', ?_, HI'.out, HO.out, HSB.out⟩
  have := HN.out
  simp
  omega

theorem own_inU8 {w0 w : World} {p : Nat} {xs : List UInt8} {bad : Bool} {J : Res} [Stab J] (h : Own w0 w (Sep (InR p xs bad) J)) :
    Calls Try.prog 64 #[.pointer (some ⟨p, 0, none⟩)] w fun e w' => e = .returned (.int .u8 (numB (nextR 1 xs bad))) ∧ Own w0 w' (Sep (InR p (nextL 1 xs bad) (!can 1 xs bad)) J) := by
  refine (Own.call (val := fun _ : Unit => .int .u8 (numB (nextR 1 xs bad))) (Q := fun _ => InR p (nextL 1 xs bad) (!can 1 xs bad)) h ?_).mono ?_
  · rintro F B ⟨v, hI, hF⟩ hJ hd h0
    refine (inU8_blk p v xs bad w hI).mono ?_
    rintro e w' ⟨v', rfl, hI', ho, hs⟩
    refine ⟨(), fun k => k = p ∨ blkV v' = some k, rfl, ⟨v', hI', fun k => Iff.rfl⟩, fun k hk => .inl ((hF k).2 (hk.imp id (hs k))), ho.mono fun k _ e => (hF k).2 (.inl e)⟩
  · rintro e w' ⟨_, rfl, hq⟩
    exact ⟨rfl, hq⟩

set_option maxHeartbeats 400000 in
theorem to_blk (v : Value) (xs : List UInt8) (w : World) (h : SlC w v xs) (hlen : xs.length ≤ 140737488355328) :
    Calls Try.prog 61 #[v] w (ToPostB w xs) := by
  have HC := Lib.hid h
  clear h
  go_enter Try.func61, Try.ntmps61
  go_wp2_with fail
  refine (clone_any v xs w HC.out hlen).mono ?_
  rintro e w1 ⟨r, rfl, hr, ho⟩
  obtain ⟨ao, cap, rfl⟩ := own_shape hr
  have HR := Lib.hid hr; clear hr
  have HO := Lib.hid ho; clear ho
  go_wp2
  go_ret
  exact ⟨w1.heap.size, _, rfl, ⟨heap_alloc_new w1 _, (own_toB HR.out).alloc _⟩, HO.out.size, HO.out.alloc _, fun k hk => (HR.out.lt k (by rw [← hk]; rfl)).1⟩

theorem own_to {w0 w : World} {I : Res} [Stab I] (h : Own w0 w I) (v : Value) (xs : List UInt8) (hv : SlC w v xs) (hlen : xs.length ≤ 140737488355328) :
    Calls Try.prog 61 #[v] w fun e w' => ∃ p, e = .returned (.pointer (some ⟨p, 0, none⟩)) ∧ Own w0 w' (Sep (InR p xs false) I) := by
  refine (to_blk v xs w hv hlen).mono ?_
  rintro e w' ⟨p, u, rfl, hI, hp, ho, hb⟩
  exact ⟨p, rfl, h.fresh ho (B := fun k => k = p ∨ blkV u = some k) ⟨u, hI, fun k => Iff.rfl⟩ (fun k hk => hk.elim (fun e => e ▸ hp) (hb k))⟩

theorem InR.state {w0 w : World} {p : Nat} {xs : List UInt8} {bad : Bool} {J : Res} (h : Own w0 w (Sep (InR p xs bad) J)) : ∃ v, InV w p v xs bad := by
  obtain ⟨F, ⟨v, hI, _⟩, _⟩ := h.fst
  exact ⟨v, hI⟩
theorem own_bad {w0 w : World} {p : Nat} {xs : List UInt8} {bad : Bool} {J : Res} (h : Own w0 w (Sep (InR p xs bad) J)) :
    Calls Try.prog 66 #[.pointer (some ⟨p, 0, none⟩)] w fun e w' => e = .returned (.bool bad) ∧ w = w' := by
  obtain ⟨v, hI⟩ := InR.state h
  exact bad_any p bad w hI.cell1
theorem own_left {w0 w : World} {p : Nat} {xs : List UInt8} {bad : Bool} {J : Res} (h : Own w0 w (Sep (InR p xs bad) J)) :
    Calls Try.prog 67 #[.pointer (some ⟨p, 0, none⟩)] w fun e w' => e = .returned (.int .i64 xs.length) ∧ w = w' := by
  obtain ⟨v, hI⟩ := InR.state h
  obtain ⟨ao, cap, rfl, _⟩ := hI.sl.shape
  exact left_any p ao xs.length cap w hI.cell0
theorem own_done {w0 w : World} {p : Nat} {xs : List UInt8} {bad : Bool} {J : Res} (h : Own w0 w (Sep (InR p xs bad) J)) :
    Calls Try.prog 68 #[.pointer (some ⟨p, 0, none⟩)] w fun e w' => e = .returned (.bool (!bad && xs.isEmpty)) ∧ w = w' := by
  obtain ⟨v, hI⟩ := InR.state h
  exact inDone p v xs bad w hI

end Go.Proofs.Ytbimhiffcdhcaaa

namespace Go.Proofs.Ytbimhiffcdhcaaa
open Go Go.RowKit Go.Lib
set_option linter.unusedVariables false
set_option linter.unusedSimpArgs false
set_option maxRecDepth 100000

def zerosB (l : List UInt8) : Bool := l.all (· == 0)
def wF (b : List UInt8) : Nat := numB ((b.drop 12).take 1)
def wN (b : List UInt8) : Nat := numB ((b.drop 13).take 1)
def tkOk (sn : Nat) (b : List UInt8) : Bool := decide (numB (b.take 8) = sn) && formN (wF b) (wN b) && zerosB (b.drop (14 + wN b))

theorem InV.len {w : World} {p : Nat} {v : Value} {xs : List UInt8} {bad : Bool} (h : InV w p v xs bad) : lenOf (w.cell? ⟨p, 0, none⟩) = xs.length := by
  rw [h.cell0]
  obtain ⟨ao, cap, e, _⟩ := h.sl.shape
  rw [e]; rfl

/-- What take holds: the In, the piece, its result, and the piece's bytes. -/
abbrev TkR (ip bp br a m f : Nat) (ys : List UInt8) (bad : Bool) (dv : Value) (xs : List UInt8) (I : Res) : Res :=
  Sep (InR ip ys bad) (Sep (Blk bp (pcO a m f dv)) (Sep (Blk br (pcO 0 0 0 (.slice none 0 0))) (Sep (OwnB dv xs) I)))
theorem OwnB.nil' (w : World) : OwnB (.slice none 0 0) [] w (fun _ => False) := ⟨World.ownsRow_nil _ _ _ _, fun k => by simp [Value.ownBlock]⟩
theorem Own.ownB_nil {w0 w : World} {I : Res} (h : Own w0 w I) : Own w0 w (Sep (OwnB (.slice none 0 0) []) I) := by
  obtain ⟨F, h1, h2, h3⟩ := h
  exact ⟨F, ⟨fun _ => False, F, OwnB.nil' w, h1, fun _ h => h.elim, fun k => by simp⟩, h2, h3⟩

theorem Own.store4 {w0 w : World} {k : Nat} {t : TypeId} {a0 a1 a2 a3 : Value} {J : Res} [Stab J] (h : Own w0 w (Sep (Blk k (.cells #[a0, a1, a2, a3] t (0, 0))) J)) (u0 u1 u2 u3 : Value) :
    Own w0 ((((w.setCell ⟨k, 0, none⟩ u0).setCell ⟨k, 1, none⟩ u1).setCell ⟨k, 2, none⟩ u2).setCell ⟨k, 3, none⟩ u3) (Sep (Blk k (.cells #[u0, u1, u2, u3] t (0, 0))) J) :=
  (((h.store 0 u0).store 1 u1).store 2 u2).store 3 u3
theorem blk_cells4 {w : World} {k : Nat} {t : TypeId} {a0 a1 a2 a3 : Value} (h : w.heap[k]? = some (.cells #[a0, a1, a2, a3] t (0, 0))) :
    w.cell? ⟨k, 0, none⟩ = some a0 ∧ w.cell? ⟨k, 1, none⟩ = some a1 ∧ w.cell? ⟨k, 2, none⟩ = some a2 ∧ w.cell? ⟨k, 3, none⟩ = some a3 ∧
    w.frozen? ⟨k, 0, none⟩ = false ∧ w.frozen? ⟨k, 1, none⟩ = false ∧ w.frozen? ⟨k, 2, none⟩ = false ∧ w.frozen? ⟨k, 3, none⟩ = false :=
  ⟨blk_cell h 0 rfl, blk_cell h 1 rfl, blk_cell h 2 rfl, blk_cell h 3 rfl, blk_free h 0, blk_free h 1, blk_free h 2, blk_free h 3⟩
theorem TkR.box {w0 w : World} {ip bp br a m f : Nat} {ys xs : List UInt8} {bad : Bool} {dv : Value} {I : Res} (h : Own w0 w (TkR ip bp br a m f ys bad dv xs I)) :
    w.heap[bp]? = some (.cells #[.int .u64 a, .int .u32 m, .int .u8 f, dv] 90 (0, 0)) ∧ w.heap[br]? = some (.cells #[.int .u64 0, .int .u32 0, .int .u8 0, .slice none 0 0] 90 (0, 0)) := ⟨h.snd.held, h.snd.snd.held⟩
/-- The result is stored: the rest is let go. -/
theorem TkR.give {w0 w : World} {ip bp br a m f : Nat} {ys xs : List UInt8} {bad : Bool} {dv : Value} {I : Res} [Stab I] (h : Own w0 w (TkR ip bp br a m f ys bad dv xs I)) (u0 u1 u2 u3 : Value) :
    Own w0 ((((w.setCell ⟨br, 0, none⟩ u0).setCell ⟨br, 1, none⟩ u1).setCell ⟨br, 2, none⟩ u2).setCell ⟨br, 3, none⟩ u3) (Sep (OwnB dv xs) I) := (Own.store4 h.snd.snd u0 u1 u2 u3).snd

/-- The piece has one byte more. -/
theorem TkR.grow {w0 w14 w15 : World} {ip bp br a m f : Nat} {ys xs : List UInt8} {bad : Bool} {dv : Value} {I : Res} [Stab I] (h : Own w0 w14 (TkR ip bp br a m f ys bad dv xs I)) (b : UInt8) (o : Obj) {g cap n : Nat}
    (hown : w15.ownsRow 0 5 1 (.slice (some ⟨g, 0, none⟩) n cap) n (u8s (xs ++ [b]))) (hn : n = (xs ++ [b]).length) (hg : (w14.alloc o).grownBy w15 dv.ownBlock) (hat : dv.ownBlock = some g ∨ (w14.alloc o).heap.size ≤ g) :
    w15.cell? ⟨bp, 3, none⟩ = some dv ∧ w15.frozen? ⟨bp, 3, none⟩ = false ∧ Own w0 (w15.setCell ⟨bp, 3, none⟩ (.slice (some ⟨g, 0, none⟩) n cap)) (TkR ip bp br a m f ys bad (.slice (some ⟨g, 0, none⟩) n cap) (xs ++ [b]) I) := by
  have h1 := h.alloc o
  have h2 : Own w0 (w14.alloc o) (Sep (RowV 5 1 dv xs.length (u8s xs)) (Sep (Blk bp (pcO a m f dv)) (Sep (InR ip ys bad) (Sep (Blk br (pcO 0 0 0 (.slice none 0 0))) (Sep (Blk w14.heap.size o) I))))) :=
    h1.ac (by show Sep _ (Sep _ (Sep _ (Sep _ (Sep (RowV 5 1 dv xs.length (u8s xs)) I)))) = _; ac_rfl)
  have h3 := h2.appended hown hg hat
  have h4 := h3.swap
  have hb := h4.held
  refine ⟨blk_cell hb 3 rfl, blk_free hb 3, ?_⟩
  have h5 := h4.store 3 (.slice (some ⟨g, 0, none⟩) n cap)
  have h6 : Own w0 (w15.setCell ⟨bp, 3, none⟩ (.slice (some ⟨g, 0, none⟩) n cap)) (Sep (Blk w14.heap.size o) (Sep (InR ip ys bad) (Sep (Blk bp (pcO a m f (.slice (some ⟨g, 0, none⟩) n cap))) (Sep (Blk br (pcO 0 0 0 (.slice none 0 0))) (Sep (RowV 5 1 (.slice (some ⟨g, 0, none⟩) n cap) n (u8s (xs ++ [b]))) I))))) := h5.ac (by show Sep (Blk bp (pcO a m f (.slice (some ⟨g, 0, none⟩) n cap))) _ = _; ac_rfl)
  subst hn
  exact h6.snd

def TkPost (w0 : World) (sn : Nat) (b : List UInt8) (I : Res) (e : Ending) (w' : World) : Prop :=
  ∃ a m f dv xs, e = .returned (.tuple #[pcV a m f dv, .bool (tkOk sn b)]) ∧ (tkOk sn b = true → a = sn ∧ (⟨m, f, xs⟩ : Pc) = secPc b) ∧ Own w0 w' (Sep (OwnB dv xs) I)

set_option maxRecDepth 100000 in
set_option maxHeartbeats 8000000 in
theorem own_take {w0 w : World} {q p base size M head nxt : Nat} {D : DS} {J : Res} [Stab J] (h : Own w0 w (Sep (WLogR q p base size M head nxt) (Sep (DiskR p D) J))) (sn : Nat) (hn : sn < 18446744073709551616) (h0 : 0 < size) (hl : base + size ≤ D.n) (h4 : D.n ≤ 4096) :
    Calls Try.prog 57 #[.pointer (some ⟨q, 0, none⟩), .int .u64 sn] w (TkPost w0 sn (sec D.N (ringS base size sn)) (Sep (WLogR q p base size M head nxt) (Sep (DiskR p D) J))) := by
  have hrl : ringS base size sn < D.n := ring_lt h0 hl
  have hN : D.N.length = D.n * 64 := by obtain ⟨gn, gk, vw, hD⟩ := h.snd.disk; exact hD.ok.N
  have hsl : (sec D.N (ringS base size sn)).length = 64 := sec_length hN hrl
  have HBS : Hid (base + size ≤ 4096) := Lib.hid (by omega)
  obtain ⟨rg, hrg⟩ : ∃ rg, rg = ringS base size sn := ⟨_, rfl⟩
  rw [← hrg] at hrl hsl ⊢
  obtain ⟨s, hs⟩ : ∃ s, s = sec D.N rg := ⟨_, rfl⟩
  rw [← hs] at hsl ⊢
  have HN := Lib.hid hn
  have HRG := Lib.hid hrg
  have HRL := Lib.hid hrl
  have HS := Lib.hid hs
  have HL := Lib.hid hsl
  obtain ⟨br, hbr⟩ : ∃ br, br = w.heap.size := ⟨_, rfl⟩
  have h1 := h.alloc (.cells #[.int .u64 0, .int .u32 0, .int .u8 0, .slice none 0 0] 90 (0, 0))
  rw [← hbr] at h1
  obtain ⟨W1, hW1⟩ : ∃ W1, W1 = w.alloc (.cells #[.int .u64 0, .int .u32 0, .int .u8 0, .slice none 0 0] 90) := ⟨_, rfl⟩
  have h1 : Own w0 W1 (Sep (DiskR p D) (Sep (WLogR q p base size M head nxt) (Sep (Blk br (.cells #[.int .u64 0, .int .u32 0, .int .u8 0, .slice none 0 0] 90 (0, 0))) J))) := by rw [hW1]; exact h1.ac (by ac_rfl)
  have HQd := Lib.hid h1.drew
  have HBR := Lib.hid hbr
  have HW1 := Lib.hid hW1
  have HC1 : Hid (∀ (W : World), Own w0 W (Sep (DiskR p D) (Sep (WLogR q p base size M head nxt) (Sep (Blk br (.cells #[.int .u64 0, .int .u32 0, .int .u8 0, .slice none 0 0] 90 (0, 0))) J))) →
      Calls Try.prog 44 #[.pointer (some ⟨q, 0, none⟩), .int .u64 sn] W fun e w' => e = .returned (.int .i64 rg) ∧ Own w0 w' (Sep (DiskR p D) (Sep (WLogR q p base size M head nxt) (Sep (Blk br (.cells #[.int .u64 0, .int .u32 0, .int .u8 0, .slice none 0 0] 90 (0, 0))) J)))) := Lib.hid (by
    intro W hW
    refine (wsector_any hW.snd.held sn HN.out h0 HBS.out).mono ?_
    rintro e w' ⟨rfl, n, rfl⟩
    exact ⟨by rw [HRG.out], hW.drewN n⟩)
  have HC2 : Hid (∀ (W : World), Own w0 W (Sep (DiskR p D) (Sep (WLogR q p base size M head nxt) (Sep (Blk br (.cells #[.int .u64 0, .int .u32 0, .int .u8 0, .slice none 0 0] 90 (0, 0))) J))) →
      Calls Try.prog 35 #[.pointer (some ⟨p, 0, none⟩), .int .i64 rg] W fun e w' => ∃ g, e = .returned (.tuple #[.slice (some ⟨g, 0, none⟩) 64 64, .int .i64 0]) ∧ Own w0 w' (Sep (Row g 97 s) (Sep (DiskR p D) (Sep (WLogR q p base size M head nxt) (Sep (Blk br (.cells #[.int .u64 0, .int .u32 0, .int .u8 0, .slice none 0 0] 90 (0, 0))) J))))) := Lib.hid (by
    intro W hW
    rw [HS.out]
    exact own_read hW rg HRL.out)
  have HCL : Hid (∀ (W : World), Own w0 W (Sep (WLogR q p base size M head nxt) (Sep (Blk br (.cells #[.int .u64 0, .int .u32 0, .int .u8 0, .slice none 0 0] 90 (0, 0))) J)) → W.cell? ⟨q, 0, none⟩ = some (.pointer (some ⟨p, 0, none⟩))) := Lib.hid fun W hW => (wlog_cells hW.held).1
  clear h hn hrg hrl hs hsl hl h4 hN hbr h1 hW1
  go_enter Try.func57, Try.ntmps57
  go_upto_region 1 with fail
  rw [← HW1.out, ← HBR.out]
  go_region_held3 (fun w' => w'.cell? ⟨q, 0, none⟩ = some (.pointer (some ⟨p, 0, none⟩)))
    (first
      | exact HCL.out _ HA2.out.snd.snd
      | exact HCL.out _ HA1.out.snd
      | exact HCL.out _ HQd.out.snd)
    (first
      | (go_at_call 44; (with_reducible refine (HC1.out _ HQd.out).mono ?_); rintro e w5 ⟨rfl, ha⟩; have HA1 := Lib.hid ha; clear ha)
      | (go_at_call 35; (with_reducible refine (HC2.out _ HA1.out).mono ?_); rintro e w6 ⟨g, rfl, ha⟩; have HA2 := Lib.hid ha; clear ha))
  clear HC1 HC2 HCL HQd HA1
  have HI : Hid (Own w0 w6 (Sep (Blk br (.cells #[.int .u64 0, .int .u32 0, .int .u8 0, .slice none 0 0] 90 (0, 0))) (Sep (WLogR q p base size M head nxt) (Sep (DiskR p D) J)))) := Lib.hid (HA2.out.snd.ac (by ac_rfl))
  have HSC : Hid (SlC w6 (.slice (some ⟨g, 0, none⟩) 64 64) s) := Lib.hid (row_bytes' HA2.out.fst.row HL.out.symm)
  clear HA2
  go_wp2_with fail
  refine (own_to HI.out _ s HSC.out (by have := HL.out; omega)).mono ?_
  rintro e w7 ⟨ip, rfl, h7⟩
  have H7 := Lib.hid h7
  clear h7 HI HSC
  go_wp2_with fail
  refine (own_inU64 H7.out).mono ?_
  rintro e w8 ⟨rfl, h8⟩
  obtain ⟨n1, n2, n3⟩ := next_ok_eq (n := 8) (xs := s) (by have := HL.out; omega)
  rw [n1]
  rw [n2, n3] at h8
  have H8 := Lib.hid h8
  clear n1 n2 n3 h8 H7
  go_wp2_with fail
  refine (own_inU32 H8.out).mono ?_
  rintro e w9 ⟨rfl, h9⟩
  obtain ⟨n1, n2, n3⟩ := next_ok_eq (n := 4) (xs := s.drop 8) (by have := HL.out; simp; omega)
  rw [n1]
  rw [n2, n3, List.drop_drop] at h9
  have H9 := Lib.hid h9
  clear n1 n2 n3 h9 H8
  go_wp2_with fail
  refine (own_inU8 H9.out).mono ?_
  rintro e w10 ⟨rfl, h10⟩
  obtain ⟨n1, n2, n3⟩ := next_ok_eq (n := 1) (xs := s.drop (8 + 4)) (by have := HL.out; simp; omega)
  rw [n1]
  rw [n2, n3, List.drop_drop] at h10
  obtain ⟨a, ha⟩ : ∃ a, a = numB (s.take 8) := ⟨_, rfl⟩
  obtain ⟨m, hm⟩ : ∃ m, m = numB ((s.drop 8).take 4) := ⟨_, rfl⟩
  obtain ⟨f, hf⟩ : ∃ f, f = numB ((s.drop (8 + 4)).take 1) := ⟨_, rfl⟩
  rw [← ha, ← hm, ← hf]
  have hf8 : f < 256 := by rw [hf]; exact numB_le 1 _ (by simp; omega)
  have HA := Lib.hid ha
  have HM := Lib.hid hm
  have HF := Lib.hid hf
  have HF8 := Lib.hid hf8
  obtain ⟨bp, hbp⟩ : ∃ bp, bp = w10.heap.size := ⟨_, rfl⟩
  have h11 := h10.alloc (.cells #[.int .u64 a, .int .u32 m, .int .u8 f, .slice none 0 0] 90 (0, 0))
  rw [← hbp] at h11
  obtain ⟨w11, hw11⟩ : ∃ W1, W1 = w10.alloc (.cells #[.int .u64 a, .int .u32 m, .int .u8 f, .slice none 0 0] 90) := ⟨_, rfl⟩
  have H11 : Hid (Own w0 w11 (TkR ip bp br a m f (s.drop (8 + 4 + 1)) false (.slice none 0 0) [] (Sep (WLogR q p base size M head nxt) (Sep (DiskR p D) J)))) := Lib.hid (by rw [hw11]; exact h11.ownB_nil.ac (by unfold TkR pcO; ac_rfl))
  have HBP := Lib.hid hbp
  have HW11 := Lib.hid hw11
  clear n1 n2 n3 h10 H9 ha hm hf hf8 hbp h11 hw11
  go_upto_region 6 with fail
  rw [← HW11.out, ← HBP.out]
  go_wp2_with fail
  refine (own_inU8 H11.out).mono ?_
  rintro e w12 ⟨rfl, h12⟩
  obtain ⟨n1, n2, n3⟩ := next_ok_eq (n := 1) (xs := s.drop (8 + 4 + 1)) (by have := HL.out; simp; omega)
  rw [n1]
  rw [n2, n3, List.drop_drop] at h12
  obtain ⟨n, hn⟩ : ∃ n, n = numB ((s.drop (8 + 4 + 1)).take 1) := ⟨_, rfl⟩
  rw [← hn]
  have hn8 : n < 256 := by rw [hn]; exact numB_le 1 _ (by simp; omega)
  have HNN := Lib.hid hn
  have HNB := Lib.hid hn8
  have H12 := Lib.hid h12
  have hiw : IntKind.i64.wrap (n : Int) = (n : Int) := IntWalk.i64_in _ (by omega)
  clear n1 n2 n3 h12 H11 hn hn8
  obtain ⟨c0, c1, c2, c3, f0, f1, f2, f3⟩ := blk_cells4 (TkR.box H12.out).1
  obtain ⟨d0, d1, d2, d3, k0, k1, k2, k3⟩ := blk_cells4 (TkR.box H12.out).2
  have HTK : Hid (tkOk sn s = (decide (a = sn) && formN f n && zerosB (s.drop (14 + n)))) := Lib.hid (by rw [HA.out, HF.out, HNN.out]; rfl)
  by_cases hasn : a = sn
  case neg =>
    have hI : ¬ (a : Int) = (sn : Int) := by omega
    have hB : ((a : Int) != (sn : Int)) = true := by simpa using hI
    have hg := Lib.hid (TkR.give H12.out (.int .u64 0) (.int .u32 0) (.int .u8 0) (.slice none 0 0))
    have hno : Hid (tkOk sn s = false) := Lib.hid (by rw [HTK.out, decide_eq_false hasn]; rfl)
    clear H12
    go_wp2_with fail
    refine bodyPost_ret (v := .tuple #[pcV 0 0 0 (.slice none 0 0), .bool false]) (by simp [results, Try.results57, go_sem, pcV, d0, d1, d2, d3]) rfl ?_
    exact ⟨0, 0, 0, .slice none 0 0, [], by rw [hno.out], (fun h => by rw [hno.out] at h; cases h), hg.out⟩
  case pos =>
    subst hasn
    have hB : ((a : Int) != (a : Int)) = false := by simp
    have HWH := Lib.hid (wholds a m f (.slice none 0 0) HF8.out n HNB.out)
    unfold pcV at HWH
    obtain ⟨fm, hfm⟩ : ∃ fm, fm = formN f n := ⟨_, rfl⟩
    rw [← hfm] at HWH HTK
    have HFM := Lib.hid hfm
    clear hfm
    go_wp2_with fail
    refine (HWH.out _).mono ?_
    rintro e w13 ⟨rfl, ho⟩
    have H13 := Lib.hid (H12.out.quiet ho)
    clear ho H12 c0 c1 c2 c3 f0 f1 f2 f3 d0 d1 d2 d3 k0 k1 k2 k3 HWH
    cases fm with
    | false =>
      obtain ⟨d0, d1, d2, d3, k0, k1, k2, k3⟩ := blk_cells4 (TkR.box H13.out).2
      have hg := Lib.hid (TkR.give H13.out (.int .u64 0) (.int .u32 0) (.int .u8 0) (.slice none 0 0))
      have hno : Hid (tkOk a s = false) := Lib.hid (by rw [HTK.out]; simp)
      clear H13
      go_wp2_with fail
      refine bodyPost_ret (v := .tuple #[pcV 0 0 0 (.slice none 0 0), .bool false]) (by simp [results, Try.results57, go_sem, pcV, d0, d1, d2, d3]) rfl ?_
      exact ⟨0, 0, 0, .slice none 0 0, [], by rw [hno.out], (fun h => by rw [hno.out] at h; cases h), hg.out⟩
    | true =>
      have hn50 : n ≤ 50 := by have := HFM.out; simp [formN] at this; omega
      have HN50 := Lib.hid hn50
      have hnI : (n : Int) ≤ 50 := by omega
      have HTK2 : Hid (tkOk a s = zerosB (s.drop (14 + n))) := Lib.hid (by rw [HTK.out]; simp)
      have HK0 : Hid (∃ dv, Own w0 w13 (TkR ip bp br a m f (s.drop (14 + 0)) false dv ((s.drop 14).take 0) (Sep (WLogR q p base size M head nxt) (Sep (DiskR p D) J)))) := Lib.hid ⟨_, by simpa using H13.out⟩
      clear H13 HTK hn50
      go_wp2_with fail
      go_loopw [49] (fun i wr => ∃ k : Nat, k ≤ n ∧ i = .int .i64 k ∧ Hid (∃ dv, Own w0 wr (TkR ip bp br a m f (s.drop (14 + k)) false dv ((s.drop 14).take k) (Sep (WLogR q p base size M head nxt) (Sep (DiskR p D) J))))) (fun i _ => n - (intOf i).toNat)
      case atStart => exact ⟨0, Nat.zero_le _, rfl, HK0⟩
      case round =>
        clear HK0
        obtain ⟨k, hk, rfl, HQ⟩ := hrel
        by_cases hlt : k < n
        · have hltI : (k : Int) < (n : Int) := by omega
          have hk0 : (0 : Int) ≤ (k : Int) := by omega
          have HLT := Lib.hid hlt
          obtain ⟨dv, hq⟩ := HQ.out
          have hkl : ((s.drop 14).take k).length = k := by have := HL.out; have := HN50.out; simp; omega
          obtain ⟨ao, cap, hdv⟩ : ∃ ao cap, dv = .slice ao k cap := by
            obtain ⟨F, ⟨A, B, hA, _⟩, _⟩ := hq.snd.snd.snd
            obtain ⟨ao, cap, e⟩ := own_shapeN hA.1
            exact ⟨ao, cap, by rw [e, hkl]⟩
          subst hdv
          obtain ⟨c0, c1, c2, c3, f0, f1, f2, f3⟩ := blk_cells4 (TkR.box hq).1
          obtain ⟨b, hb⟩ : ∃ b, b = (s.drop 14).getD k 0 := ⟨_, rfl⟩
          have hcl : Hid (∀ W, Own w0 W (TkR ip bp br a m f (s.drop (14 + k)) false (.slice ao k cap) ((s.drop 14).take k) (Sep (WLogR q p base size M head nxt) (Sep (DiskR p D) J))) →
              Calls Try.prog 64 #[.pointer (some ⟨ip, 0, none⟩)] W fun e w' => e = .returned (.int .u8 b.toNat) ∧ Own w0 w' (TkR ip bp br a m f (s.drop (14 + (k + 1))) false (.slice ao k cap) ((s.drop 14).take k) (Sep (WLogR q p base size M head nxt) (Sep (DiskR p D) J)))) := Lib.hid (by
            intro W hW
            refine (own_inU8 hW).mono ?_
            rintro e w' ⟨rfl, h'⟩
            have hlen : 14 + k < s.length := by have := HL.out; have := HN50.out; omega
            obtain ⟨n1, n2, n3⟩ := next_ok_eq (n := 1) (xs := s.drop (14 + k)) (by simp; omega)
            rw [n2, n3, List.drop_drop] at h'
            refine ⟨?_, h'⟩
            rw [n1, hb]
            have : (s.drop (14 + k)).take 1 = [(s.drop 14).getD k 0] := by
              have e : (s.drop 14).getD k 0 = s[14 + k] := by simp [List.getD_eq_getElem?_getD, List.getElem?_drop, hlen]
              rw [e, List.drop_eq_getElem_cons hlen]
              rfl
            rw [this]
            simp [numB])
          have HTS := Lib.hid (take_snoc8 (s.drop 14) k (by have := HL.out; have := HN50.out; simp; omega))
          have HKL := Lib.hid hkl
          rw [← hb] at HTS
          have HQ2 := Lib.hid hq.drew
          obtain ⟨acc, hacc⟩ : ∃ acc, acc = (s.drop 14).take k := ⟨_, rfl⟩
          rw [← hacc] at HTS HKL HQ2 hcl
          obtain ⟨i0, hi, hz0, hz1, hz2⟩ := info_parts Try.infoU8
          clear hq HQ hlt hk hkl hb hacc
          go_upto_region 11 with fail
          go_region_law (first
            | (refine step_append_lies (P := Try.prog) (w14.alloc (.cells #[.int .u8 b.toNat] 5)) rfl (.tmp 52) (.tmp 55) 48 rfl 0 5 i0 (.int .u8 0) 1 1 Try.underlying48 hi hz0 hz1 hz2 rfl (by decide) (.slice ao k cap) k (u8s acc) ?_ HRW.out ⟨w14.heap.size, 0, none⟩ 1 1 (u8s [b]) ?_ rfl (World.news_of_block (heap_alloc_new w14 _)) (u8s_oneCell _) Nat.zero_lt_one ?_ ?_ (Nat.zero_le _) (w14.heap.size + 1) (by simp) ?_; (go_must (simp [Act.eval])); (go_must (simp [Act.eval])); (go_must (unfold maxLen; omega)); (go_must (omega)); (go_must (intro g5 cap5 w15 hown hgrow hat hlt15; rw [← u8s_append] at hown; obtain ⟨y1, y2, y3⟩ := TkR.grow H14.out b _ hown (by rw [List.length_append, HKL.out]; rfl) hgrow (hat.imp (fun h => h) (fun h => by simp; omega)); have H15 := Lib.hid y3; clear y3 hown hgrow hat)))
            | (go_simp; go_at_call 64; refine (hcl.out _ HQ2.out).mono ?_; rintro e w14 ⟨rfl, h14⟩; have H14 := Lib.hid h14; have HRW := Lib.hid ((Own.owns (e := 5) (size := 1) (v := .slice ao k cap) (n := acc.length) (xs := u8s acc) h14.snd.snd.snd).alloc (.cells #[.int .u8 b.toNat] 5)); rw [HKL.out] at HRW; obtain ⟨x0, x1, x2, x3, y0, y1, y2, y3⟩ := blk_cells4 (TkR.box h14).1; obtain ⟨t0, t1, t2, t3, _⟩ := blk_cells4 (TkR.box (h14.alloc (.cells #[.int .u8 b.toNat] 5)).snd).1; clear h14))
          all_goals
            have HN5 : Hid (∃ dv, Own w0 (w15.setCell ⟨bp, 3, none⟩ (.slice (some ⟨g5, 0, none⟩) (k + 1) cap5)) (TkR ip bp br a m f (s.drop (14 + (k + 1))) false dv ((s.drop 14).take (k + 1)) (Sep (WLogR q p base size M head nxt) (Sep (DiskR p D) J)))) := Lib.hid ⟨_, by rw [HTS.out]; exact H15.out⟩
            clear H15 H14 HRW HQ2 hcl HTS HKL y1 y2 hi hz0 hz1 hz2
            go_wp2_with fail
            go_roundw
            case rel => exact ⟨k + 1, HLT.out, by go_num, HN5⟩
            case measure => have := HLT.out; simp [intOf]; omega
        · have hkn : k = n := by omega
          subst hkn
          have hltI : ¬ (k : Int) < (k : Int) := by omega
          obtain ⟨dv, hq⟩ := HQ.out
          have hkl : ((s.drop 14).take k).length = k := by have := HL.out; have := HN50.out; simp; omega
          obtain ⟨ao, cap, hdv⟩ : ∃ ao cap, dv = .slice ao k cap := by
            obtain ⟨F, ⟨A, B, hA, _⟩, _⟩ := hq.snd.snd.snd
            obtain ⟨ao, cap, e⟩ := own_shapeN hA.1
            exact ⟨ao, cap, by rw [e, hkl]⟩
          subst hdv
          obtain ⟨acc, hacc⟩ : ∃ acc, acc = (s.drop 14).take k := ⟨_, rfl⟩
          rw [← hacc] at hq
          have HACC := Lib.hid hacc
          have HE0 : Hid (∃ ys, zerosB ys = zerosB (s.drop (14 + k)) ∧ Own w0 wr (TkR ip bp br a m f ys false (.slice ao k cap) acc (Sep (WLogR q p base size M head nxt) (Sep (DiskR p D) J)))) := Lib.hid ⟨_, rfl, hq⟩
          clear hq HQ hkl hacc hk hlt
          go_wp2_with fail
          go_loopw [5] (fun b wr => b = .bool false ∧ ∃ ys, Hid (zerosB ys = zerosB (s.drop (14 + k)) ∧ Own w0 wr (TkR ip bp br a m f ys false (.slice ao k cap) acc (Sep (WLogR q p base size M head nxt) (Sep (DiskR p D) J))))) (fun _ wr => lenOf (wr.cell? ⟨ip, 0, none⟩))
          case atStart =>
            obtain ⟨ys, hz, hq⟩ := HE0.out
            exact ⟨rfl, ys, Lib.hid ⟨hz, hq⟩⟩
          case round =>
            clear HE0
            obtain ⟨rfl, ys, HI⟩ := hrel
            have hlen : lenOf (wr.cell? ⟨ip, 0, none⟩) = ys.length := by
              obtain ⟨v, hv⟩ := InR.state HI.out.2
              exact hv.len
            have HLN := Lib.hid hlen
            clear hlen
            obtain ⟨d0, d1, d2, d3, k0, k1, k2, k3⟩ := blk_cells4 (TkR.box HI.out.2).2
            cases ys with
            | nil =>
              obtain ⟨c0, c1, c2, c3, f0, f1, f2, f3⟩ := blk_cells4 (TkR.box HI.out.2).1
              have HB := Lib.hid (own_bad HI.out.2)
              have HLF := Lib.hid (own_left HI.out.2)
              have HDN := Lib.hid (own_done HI.out.2.drew)
              simp only [List.length_nil] at HLF
              simp only [Bool.not_false, List.isEmpty_nil, Bool.and_self] at HDN
              have hg := Lib.hid (TkR.give HI.out.2.drew (.int .u64 a) (.int .u32 m) (.int .u8 f) (.slice ao k cap))
              have hyes : Hid (tkOk a s = true) := Lib.hid (by rw [HTK2.out, ← HI.out.1]; rfl)
              have hpc : Hid ((⟨m, f, acc⟩ : Pc) = secPc s) := Lib.hid (by rw [HM.out, HF.out, HACC.out, HNN.out]; rfl)
              clear HI
              go_wp2_with fail
              refine HB.out.mono ?_
              rintro e w' ⟨rfl, rfl⟩
              go_wp2_with fail
              refine HLF.out.mono ?_
              rintro e w' ⟨rfl, rfl⟩
              go_upto_region 16 with fail
              go_still_tail 3, (by kernel_rfl)
              still_call (HDN.out.mono (fun _ _ ⟨a, b⟩ => ⟨a, b.symm⟩))
              refine wpStill_nil ?_
              change wpList _ _ _ _ _ wr.drew
              go_wp2
              refine bodyPost_ret (v := .tuple #[pcV a m f (.slice ao k cap), .bool true]) (by simp [results, Try.results57, go_sem, pcV, d0, d1, d2, d3]) rfl ?_
              exact ⟨a, m, f, .slice ao k cap, acc, by rw [hyes.out], fun _ => ⟨rfl, hpc.out⟩, hg.out⟩
            | cons y t =>
              have HB := Lib.hid (own_bad HI.out.2)
              have HLF := Lib.hid (own_left HI.out.2)
              simp only [List.length_cons] at HLF
              have hlc : (0 : Int) < ((t.length + 1 : Nat) : Int) := by omega
              go_wp2_with fail
              refine HB.out.mono ?_
              rintro e w' ⟨rfl, rfl⟩
              go_wp2_with fail
              refine HLF.out.mono ?_
              rintro e w' ⟨rfl, rfl⟩
              go_wp2_with fail
              refine (own_inU8 HI.out.2).mono ?_
              rintro e w16 ⟨rfl, h16⟩
              obtain ⟨n1, n2, n3⟩ := next_ok_eq (n := 1) (xs := y :: t) (by simp)
              have hny : numB (List.take 1 (y :: t)) = y.toNat := by simp [numB]
              rw [n1, hny]
              rw [n2, n3] at h16
              simp only [List.drop_one, List.tail_cons] at h16
              have HZ := Lib.hid HI.out.1
              have H16 := Lib.hid h16
              clear n1 n2 n3 hny h16 HI HB HLF d0 d1 d2 d3 k0 k1 k2 k3
              by_cases hy : y.toNat = 0
              · have hy0 : y = 0 := by rw [← UInt8.toNat_inj]; exact hy
                have hyI : (y.toNat : Int) = 0 := by omega
                rw [hyI]
                have HNX : Hid (zerosB t = zerosB (s.drop (14 + k)) ∧ Own w0 w16 (TkR ip bp br a m f t false (.slice ao k cap) acc (Sep (WLogR q p base size M head nxt) (Sep (DiskR p D) J)))) := Lib.hid ⟨by rw [← HZ.out, hy0]; simp [zerosB], H16.out⟩
                have hl8 : lenOf (w16.cell? ⟨ip, 0, none⟩) = t.length := by
                  obtain ⟨v, hv⟩ := InR.state H16.out
                  exact hv.len
                have HL8 := Lib.hid hl8
                clear hy hy0 hyI hl8 H16 HZ
                go_wp2_with fail
                go_roundw
                case rel => exact ⟨rfl, t, HNX⟩
                case measure => rw [HLN.out, HL8.out]; simp
              · have hyI : ¬ (y.toNat : Int) = 0 := by omega
                have hyB : ((y.toNat : Int) == 0) = false := by simpa using hyI
                have hyC : ((y.toNat : Int) != 0) = true := by simpa using hyI
                have hno : Hid (tkOk a s = false) := Lib.hid (by
                  rw [HTK2.out, ← HZ.out]
                  have : (y == 0) = false := by
                    cases hb : (y == 0)
                    · rfl
                    · have : y = 0 := by simpa using hb
                      subst this
                      exact absurd rfl hy
                  simp [zerosB, this])
                obtain ⟨d0, d1, d2, d3, k0, k1, k2, k3⟩ := blk_cells4 (TkR.box H16.out).2
                have hg := Lib.hid (TkR.give H16.out (.int .u64 0) (.int .u32 0) (.int .u8 0) (.slice none 0 0))
                clear HZ H16
                go_wp2_with fail
                refine bodyPost_ret (v := .tuple #[pcV 0 0 0 (.slice none 0 0), .bool false]) (by simp [results, Try.results57, go_sem, pcV, d0, d1, d2, d3]) rfl ?_
                exact ⟨0, 0, 0, .slice none 0 0, [], by rw [hno.out], (fun h => by rw [hno.out] at h; cases h), hg.out.snd.ownB_nil⟩

end Go.Proofs.Ytbimhiffcdhcaaa

namespace Go.Proofs.Ytbimhiffcdhcaaa
open Go Go.RowKit Go.Lib
set_option linter.unusedVariables false
set_option linter.unusedSimpArgs false
set_option maxRecDepth 100000

set_option maxHeartbeats 400000 in
theorem raw_copy (v : Value) (xs : List UInt8) (w : World) (h : SlC w v xs) (hlen : xs.length ≤ 140737488355328) :
    Calls Try.prog 37 #[v] w fun e w' => ∃ v', e = .returned v' ∧ w'.ownsRow w.heap.size 5 1 v' xs.length (u8s xs) ∧ Only (fun _ => False) w w' := by
  obtain ⟨vo, vc, rfl⟩ := h.shape
  have HC := Lib.hid h; clear h
  go_enter Try.func37, Try.ntmps37
  go_wp2_with (at_builtin; refine wp_fresh w _ xs HC.out hlen rfl (.tmp 3) (.tmp 4) rfl rfl rfl ?_; intro ao cap w1 HW HO)
  go_ret
  exact ⟨_, rfl, HW.out, HO.out⟩

def LentAt (w : World) (xs : List UInt8) (e : Ending) (w' : World) : Prop :=
  ∃ g cap, e = .returned (.slice (some ⟨g, 0, none⟩) xs.length cap) ∧ w'.ownsRow w.heap.size 5 1 (.slice (some ⟨g, 0, none⟩) (xs.length + 2) cap) (xs.length + 2) (u8s (xs ++ [71, 72])) ∧ Only (fun _ => False) w w'

set_option maxHeartbeats 400000 in
theorem raw_lent (v : Value) (xs : List UInt8) (w : World) (h : SlC w v xs) (hlen : xs.length + 2 ≤ 140737488355328) :
    Calls Try.prog 22 #[v] w (LentAt w xs) := by
  obtain ⟨i0, hi, hz0, hz1, hz2⟩ := info_parts Try.infoU8
  obtain ⟨vo, vc, rfl⟩ := h.shape
  have HC := Lib.hid h; clear h
  go_enter Try.func22, Try.ntmps22
  go_upto_region 2 with (at_builtin; refine wp_fresh w _ xs HC.out (by omega) rfl (.tmp 4) (.tmp 5) rfl rfl rfl ?_; intro ao cap w1 HW HO)
  go_wp2_with (at_builtin; refine wpList_append_lies _ rfl (.tmp 7) (.tmp 8) 48 rfl w.heap.size 5 i0 (.int .u8 0) 1 1 Try.underlying48 hi hz0 hz1 hz2 rfl (by decide) _ xs.length (u8s xs) rfl (HW.out.alloc _) ⟨w1.heap.size, 0, none⟩ 2 2 (u8s [71, 72]) rfl rfl (World.news_of_block (heap_alloc_new w1 _)) (u8s_oneCell _) (by decide) ?c1 ?c2 ?c3 (w1.heap.size + 1) ?c4 ?_)
  case c1 => unfold maxLen; omega
  case c2 => omega
  case c3 => have := HO.out.size; simp; omega
  case c4 => simp
  intro g cap2 w2 hown hgrow hat hlt
  have hcap : xs.length + 2 ≤ cap2 := by
    rcases hown.2 with ⟨hv, _⟩ | ⟨g', cap', cur, hv, _, _, hc, _⟩
    · simp at hv
    · simp at hv; omega
  have HW2 := Lib.hid hown; clear hown
  have hge : ∀ k, k < w.heap.size → (Value.slice ao xs.length cap).ownBlock = some k → False := fun k hk e => by
    have := (HW.out.lt k e).1
    omega
  have HO2 := Lib.hid ((HO.out.alloc (.cells #[.int .u8 71, .int .u8 72] 5)).grown hgrow hge)
  clear hgrow hat hlt hge
  go_wp2
  go_ret
  exact ⟨g, cap2, rfl, by rw [u8s_append]; exact HW2.out, HO2.out⟩

set_option maxHeartbeats 400000 in
theorem raw_kept (B g cap : Nat) (v : Value) (xs : List UInt8) (w : World) (hown : w.ownsRow B 5 1 (.slice (some ⟨g, 0, none⟩) (xs.length + 2) cap) (xs.length + 2) (u8s (xs ++ [71, 72]))) (h : SlC w v xs) (hlen : xs.length + 2 ≤ 140737488355328) :
    Calls Try.prog 24 #[.slice (some ⟨g, 0, none⟩) xs.length cap, v] w fun e w' => e = .returned (.bool true) ∧ w = w' := by
  have hcb := run_strC h
  obtain ⟨vo, vc, rfl⟩ := h.shape
  have hcap : xs.length + 2 ≤ cap := by
    rcases hown.2 with ⟨hv, _⟩ | ⟨g', cap', cur, hv, _, _, hc, _⟩
    · simp at hv
    · simp at hv; omega
  have hcell : ∀ j, j < xs.length + 2 → w.cell? ⟨g, j, none⟩ = some (.int .u8 ((xs ++ [71, 72]).getD j 0).toNat) := fun j hj => by
    rw [hown.cellAt j (by omega)]
    exact u8s_at (by simp; omega)
  have hm : SlC w (.slice (some ⟨g, 0, none⟩) xs.length cap) xs := .inr ⟨_, cap, rfl, fun j hj => by
    rw [add_lit, Nat.zero_add, hcell j (by omega)]
    congr 3
    simp [List.getD_eq_getElem?_getD, List.getElem?_append, hj]⟩
  have hcm := run_strC hm
  have h71 : w.cell? ⟨g, xs.length, none⟩ = some (.int .u8 71) := by
    rw [hcell _ (by omega)]
    simp [List.getD_eq_getElem?_getD]
  have h72 : w.cell? ⟨g, xs.length + 1, none⟩ = some (.int .u8 72) := by
    rw [hcell _ (by omega)]
    simp [List.getD_eq_getElem?_getD]
  clear hown h hcell hm
  obtain ⟨n, hn⟩ : ∃ n, n = xs.length := ⟨_, rfl⟩
  rw [← hn] at h71 h72 hcap hlen hcb hcm ⊢
  have HN := Lib.hid hn; clear hn
  have hcap' : (n : Int) + 2 ≤ (cap : Int) := by omega
  have hge : ¬ (cap : Int) < (n : Int) + 2 := by omega
  go_enter Try.func24, Try.ntmps24
  go_wp2
  go_ret
  exact ⟨rfl, rfl⟩

set_option maxHeartbeats 400000 in
theorem raw_bytes (a b : Value) (xs : List UInt8) (w : World) (ha : SlC w a xs) (hb : SlC w b xs) :
    Calls Try.prog 36 #[a, b] w fun e w' => e = .returned (.bool true) ∧ w = w' := by
  have hca := run_strC ha
  have hcb := run_strC hb
  obtain ⟨ao, ac, rfl⟩ := ha.shape
  obtain ⟨bo, bc, rfl⟩ := hb.shape
  clear ha hb
  go_enter Try.func36, Try.ntmps36
  go_wp2
  go_ret
  exact ⟨rfl, rfl⟩

end Go.Proofs.Ytbimhiffcdhcaaa

namespace Go.Proofs.Ytbimhiffcdhcaaa
open Go Go.RowKit
set_option linter.unusedVariables false
set_option linter.unusedSimpArgs false
set_option maxRecDepth 100000

/-- A sector's slice. -/
def sl64 (b : Nat) : Value := .slice (some ⟨b, 0, none⟩) 64 64
def wputs (L : List (Nat × Nat)) : List Value := L.flatMap fun x => [.int .i64 x.1, sl64 x.2]
/-- Block b holds the bytes s. -/
def HasB (w : World) (b : Nat) (s : List UInt8) : Prop := w.heap[b]? = some (.cells (u8s s).toArray 5 (0, 0)) ∧ s.length = 64
theorem HasB.slc {w : World} {b : Nat} {s : List UInt8} (h : HasB w b s) : SlC w (sl64 b) s := by
  refine .inr ⟨⟨b, 0, none⟩, 64, by simp [sl64, h.2], fun j hj => ?_⟩
  rw [add_lit, Nat.zero_add]
  simp only [World.cell?, h.1]
  simpa using u8s_at hj

/-- The reference's disk in memory: its struct in block r, the rows of its two pictures (blocks gk and gs), the row of what waits; kb, sb and wb are the blocks of the sectors. -/
structure RefM (w : World) (r gk gs ck cs : Nat) (vw : Value) (f : Int) (dn : Bool) (wr sy n m : Nat) (kb sb : List Nat) (wb : List (Nat × Nat)) : Prop where
  at' : w.heap[r]? = some (.cells #[.slice (some ⟨gk, 0, none⟩) n ck, .slice (some ⟨gs, 0, none⟩) n cs, vw, .int .i64 f, .bool dn, .int .i64 wr, .int .i64 sy] 65 (0, 0))
  lk : kb.length = n
  ls : sb.length = n
  lw : wb.length = m
  kept : w.ownsRow 0 48 1 (.slice (some ⟨gk, 0, none⟩) n ck) n (kb.map sl64)
  seen : w.ownsRow 0 48 1 (.slice (some ⟨gs, 0, none⟩) n cs) n (sb.map sl64)
  row : w.ownsRow 0 102 2 vw m (wputs wb)
  ne : gk ≠ gs
structure RefAt (w : World) (r gk gs ck cs : Nat) (vw : Value) (f : Int) (kb sb : List Nat) (wb : List (Nat × Nat)) (D : DS) : Prop where
  ok : D.Ok
  m : RefM w r gk gs ck cs vw f D.down D.wr D.sy D.n D.W.length kb sb wb
  fuse : D.down = false → f = if D.fuse < 0 then -1 else D.fuse
  hk : ∀ j, j < D.n → HasB w (kb.getD j 0) (sec D.K j)
  hs : ∀ j, j < D.n → HasB w (sb.getD j 0) (sec D.N j)
  hw : ∀ j, j < D.W.length → (wb.getD j default).1 = (D.W.getD j default).1 ∧ HasB w (wb.getD j default).2 (D.W.getD j default).2

def RCore (r gk gs : Nat) (vw : Value) (k : Nat) : Prop := k = r ∨ k = gk ∨ k = gs ∨ vw.ownBlock = some k
theorem RefM.keep {w w' : World} {r gk gs ck cs : Nat} {vw : Value} {f : Int} {dn : Bool} {wr sy n m : Nat} {kb sb : List Nat} {wb : List (Nat × Nat)} (h : RefM w r gk gs ck cs vw f dn wr sy n m kb sb wb)
    (hk : ∀ k, RCore r gk gs vw k → w'.heap[k]? = w.heap[k]?) : RefM w' r gk gs ck cs vw f dn wr sy n m kb sb wb := by
  refine ⟨(hk r (.inl rfl)).trans h.at', h.lk, h.ls, h.lw, own_keepAt h.kept (fun k e => hk k ?_), own_keepAt h.seen (fun k e => hk k ?_), own_keepAt h.row (fun k e => hk k (.inr (.inr (.inr e)))), h.ne⟩
  · simp [Value.ownBlock] at e; exact .inr (.inl e.symm)
  · simp [Value.ownBlock] at e; exact .inr (.inr (.inl e.symm))
theorem RefM.lt {w : World} {r gk gs ck cs : Nat} {vw : Value} {f : Int} {dn : Bool} {wr sy n m : Nat} {kb sb : List Nat} {wb : List (Nat × Nat)} (h : RefM w r gk gs ck cs vw f dn wr sy n m kb sb wb) {k : Nat} (hk : RCore r gk gs vw k) : k < w.heap.size := by
  rcases hk with rfl | rfl | rfl | hk
  · exact lt_of_some h.at'
  · exact own_lt h.kept rfl
  · exact own_lt h.seen rfl
  · exact own_lt h.row hk
/-- A block of bytes is none of the struct's own. -/
theorem RefM.bytes {w : World} {r gk gs ck cs : Nat} {vw : Value} {f : Int} {dn : Bool} {wr sy n m : Nat} {kb sb : List Nat} {wb : List (Nat × Nat)} (h : RefM w r gk gs ck cs vw f dn wr sy n m kb sb wb) {k : Nat} {cu : Array Value} {fr : Nat × Nat} (hb : w.heap[k]? = some (.cells cu 5 fr)) : ¬ RCore r gk gs vw k := by
  rintro (rfl | rfl | rfl | hk)
  · rw [h.at'] at hb; simp at hb
  · exact own_type h.kept hb (by decide) rfl
  · exact own_type h.seen hb (by decide) rfl
  · exact own_type h.row hb (by decide) hk
theorem RefM.apart {w : World} {r gk gs ck cs : Nat} {vw : Value} {f : Int} {dn : Bool} {wr sy n m : Nat} {kb sb : List Nat} {wb : List (Nat × Nat)} (h : RefM w r gk gs ck cs vw f dn wr sy n m kb sb wb) : r ≠ gk ∧ r ≠ gs ∧ vw.ownBlock ≠ some r ∧ vw.ownBlock ≠ some gk ∧ vw.ownBlock ≠ some gs := by
  have hr := own_type h.kept h.at' (by decide)
  have hr2 := own_type h.seen h.at' (by decide)
  have hr3 := own_type h.row h.at' (by decide)
  refine ⟨fun e => hr (by simp [Value.ownBlock, e]), fun e => hr2 (by simp [Value.ownBlock, e]), hr3, ?_, ?_⟩
  · rcases h.kept.2 with ⟨e, _⟩ | ⟨g, cap, cur, e, _, hg, _⟩
    · cases e
    · simp at e
      obtain ⟨rfl, _⟩ := e
      exact own_type h.row hg (by decide)
  · rcases h.seen.2 with ⟨e, _⟩ | ⟨g, cap, cur, e, _, hg, _⟩
    · cases e
    · simp at e
      obtain ⟨rfl, _⟩ := e
      exact own_type h.row hg (by decide)
/-- A store of a number or a flag into the struct. -/
theorem RefM.set {w : World} {r gk gs ck cs : Nat} {vw : Value} {f f' : Int} {dn dn' : Bool} {wr sy wr' sy' n m : Nat} {kb sb : List Nat} {wb : List (Nat × Nat)} (h : RefM w r gk gs ck cs vw f dn wr sy n m kb sb wb) (j : Nat) (u : Value)
    (hc : (#[.slice (some ⟨gk, 0, none⟩) n ck, .slice (some ⟨gs, 0, none⟩) n cs, vw, .int .i64 f, .bool dn, .int .i64 wr, .int .i64 sy] : Array Value).setIfInBounds j u =
      #[.slice (some ⟨gk, 0, none⟩) n ck, .slice (some ⟨gs, 0, none⟩) n cs, vw, .int .i64 f', .bool dn', .int .i64 wr', .int .i64 sy']) : RefM (w.setCell ⟨r, j, none⟩ u) r gk gs ck cs vw f' dn' wr' sy' n m kb sb wb := by
  obtain ⟨n1, n2, n3, _, _⟩ := h.apart
  have hk : ∀ k, k ≠ r → (w.setCell ⟨r, j, none⟩ u).heap[k]? = w.heap[k]? := fun k hk => Below.heap_setCell _ _ _ _ hk
  refine ⟨by rw [heap_set h.at', hc], h.lk, h.ls, h.lw, own_keepAt h.kept (fun k e => hk k ?_), own_keepAt h.seen (fun k e => hk k ?_), own_keepAt h.row (fun k e => hk k (fun e2 => n3 (e2 ▸ e))), h.ne⟩
  · rintro rfl; simp [Value.ownBlock] at e; exact n1 e.symm
  · rintro rfl; simp [Value.ownBlock] at e; exact n2 e.symm
/-- What waits is put aside. -/
theorem RefM.calm {w : World} {r gk gs ck cs : Nat} {vw : Value} {f : Int} {dn : Bool} {wr sy n m : Nat} {kb sb : List Nat} {wb : List (Nat × Nat)} (h : RefM w r gk gs ck cs vw f dn wr sy n m kb sb wb) :
    RefM (w.setCell ⟨r, 2, none⟩ (.slice none 0 0)) r gk gs ck cs (.slice none 0 0) f dn wr sy n 0 kb sb [] := by
  obtain ⟨n1, n2, n3, _, _⟩ := h.apart
  have hk : ∀ k, k ≠ r → (w.setCell ⟨r, 2, none⟩ (.slice none 0 0)).heap[k]? = w.heap[k]? := fun k hk => Below.heap_setCell _ _ _ _ hk
  refine ⟨by rw [heap_set h.at']; rfl, h.lk, h.ls, rfl, own_keepAt h.kept (fun k e => hk k ?_), own_keepAt h.seen (fun k e => hk k ?_), ⟨rfl, .inl ⟨rfl, rfl⟩⟩, h.ne⟩
  · rintro rfl; simp [Value.ownBlock] at e; exact n1 e.symm
  · rintro rfl; simp [Value.ownBlock] at e; exact n2 e.symm
theorem own_cell_put {w : World} {B : Nat} {t : TypeId} {g n cap : Nat} {xs : List Value} (h : w.ownsRow B t 1 (.slice (some ⟨g, 0, none⟩) n cap) n xs) {k : Nat} (hk : k < n) (u : Value) :
    (w.setCell ⟨g, k, none⟩ u).ownsRow B t 1 (.slice (some ⟨g, 0, none⟩) n cap) n (xs.set k u) ∧ w.frozen? ⟨g, k, none⟩ = false := by
  obtain ⟨hl, hr⟩ := h
  rcases hr with ⟨e, _⟩ | ⟨g', cap', cur, e, hb, hg, hc, hm, hs, ht⟩
  · cases e
  · simp at e
    obtain ⟨rfl, rfl⟩ := e
    refine ⟨⟨by simpa using hl, .inr ⟨g, cap, cur.setIfInBounds k u, rfl, hb, heap_set hg k u, hc, hm, by simpa using hs, ?_⟩⟩, by simp [World.frozen?, hg]⟩
    simp only [Array.toList_setIfInBounds]
    rw [List.take_set, ht]
theorem RefM.putKept {w : World} {r gk gs ck cs : Nat} {vw : Value} {f : Int} {dn : Bool} {wr sy n m : Nat} {kb sb : List Nat} {wb : List (Nat × Nat)} (h : RefM w r gk gs ck cs vw f dn wr sy n m kb sb wb) {j : Nat} (hj : j < n) (b : Nat) :
    RefM (w.setCell ⟨gk, j, none⟩ (sl64 b)) r gk gs ck cs vw f dn wr sy n m (kb.set j b) sb wb ∧ w.frozen? ⟨gk, j, none⟩ = false := by
  obtain ⟨n1, n2, n3, n4, n5⟩ := h.apart
  have hk : ∀ k, k ≠ gk → (w.setCell ⟨gk, j, none⟩ (sl64 b)).heap[k]? = w.heap[k]? := fun k hk => Below.heap_setCell _ _ _ _ hk
  obtain ⟨h1, h2⟩ := own_cell_put h.kept hj (sl64 b)
  refine ⟨⟨(hk r n1).trans h.at', by simpa using h.lk, h.ls, h.lw, by rw [List.map_set]; exact h1, own_keepAt h.seen (fun k e => hk k ?_), own_keepAt h.row (fun k e => hk k (fun e2 => n4 (e2 ▸ e))), h.ne⟩, h2⟩
  rintro rfl; simp [Value.ownBlock] at e; exact h.ne e.symm
theorem RefM.putSeen {w : World} {r gk gs ck cs : Nat} {vw : Value} {f : Int} {dn : Bool} {wr sy n m : Nat} {kb sb : List Nat} {wb : List (Nat × Nat)} (h : RefM w r gk gs ck cs vw f dn wr sy n m kb sb wb) {j : Nat} (hj : j < n) (b : Nat) :
    RefM (w.setCell ⟨gs, j, none⟩ (sl64 b)) r gk gs ck cs vw f dn wr sy n m kb (sb.set j b) wb ∧ w.frozen? ⟨gs, j, none⟩ = false := by
  obtain ⟨n1, n2, n3, n4, n5⟩ := h.apart
  have hk : ∀ k, k ≠ gs → (w.setCell ⟨gs, j, none⟩ (sl64 b)).heap[k]? = w.heap[k]? := fun k hk => Below.heap_setCell _ _ _ _ hk
  obtain ⟨h1, h2⟩ := own_cell_put h.seen hj (sl64 b)
  refine ⟨⟨(hk r n2).trans h.at', h.lk, by simpa using h.ls, h.lw, own_keepAt h.kept (fun k e => hk k ?_), by rw [List.map_set]; exact h1, own_keepAt h.row (fun k e => hk k (fun e2 => n5 (e2 ▸ e))), h.ne⟩, h2⟩
  rintro rfl; simp [Value.ownBlock] at e; exact h.ne e

def RFoot (r gk gs : Nat) (vw : Value) (kb sb : List Nat) (wb : List (Nat × Nat)) (k : Nat) : Prop := k = r ∨ k = gk ∨ k = gs ∨ vw.ownBlock = some k ∨ k ∈ kb ∨ k ∈ sb ∨ k ∈ wb.map (·.2)
def RefR (r : Nat) (D : DS) : Res := fun w F => ∃ gk gs ck cs vw f kb sb wb, RefAt w r gk gs ck cs vw f kb sb wb D ∧ ∀ k, F k ↔ RFoot r gk gs vw kb sb wb k

theorem at_mem {α : Type} {l : List α} {x d : α} (h : x ∈ l) : ∃ j, j < l.length ∧ l.getD j d = x := by
  obtain ⟨j, hj, rfl⟩ := List.getElem_of_mem h
  exact ⟨j, hj, by simp [List.getD_eq_getElem?_getD, hj]⟩
theorem mem_at {α : Type} {l : List α} {j : Nat} {d : α} (h : j < l.length) : l.getD j d ∈ l := by
  simp [List.getD_eq_getElem?_getD, h]
theorem RefAt.keep {w w' : World} {r gk gs ck cs : Nat} {vw : Value} {f : Int} {kb sb : List Nat} {wb : List (Nat × Nat)} {D : DS} (h : RefAt w r gk gs ck cs vw f kb sb wb D)
    (hk : ∀ k, RFoot r gk gs vw kb sb wb k → w'.heap[k]? = w.heap[k]?) : RefAt w' r gk gs ck cs vw f kb sb wb D := by
  refine ⟨h.ok, h.m.keep (fun k e => hk k ?_), h.fuse, fun j hj => ⟨(hk _ ?_).trans (h.hk j hj).1, (h.hk j hj).2⟩, fun j hj => ⟨(hk _ ?_).trans (h.hs j hj).1, (h.hs j hj).2⟩, fun j hj => ⟨(h.hw j hj).1, (hk _ ?_).trans (h.hw j hj).2.1, (h.hw j hj).2.2⟩⟩
  · rcases e with e | e | e | e
    · exact .inl e
    · exact .inr (.inl e)
    · exact .inr (.inr (.inl e))
    · exact .inr (.inr (.inr (.inl e)))
  · exact .inr (.inr (.inr (.inr (.inl (mem_at (by rw [h.m.lk]; exact hj))))))
  · exact .inr (.inr (.inr (.inr (.inr (.inl (mem_at (by rw [h.m.ls]; exact hj)))))))
  · exact .inr (.inr (.inr (.inr (.inr (.inr (List.mem_map.2 ⟨_, mem_at (by rw [h.m.lw]; exact hj), rfl⟩))))))
theorem RefAt.lt {w : World} {r gk gs ck cs : Nat} {vw : Value} {f : Int} {kb sb : List Nat} {wb : List (Nat × Nat)} {D : DS} (h : RefAt w r gk gs ck cs vw f kb sb wb D) {k : Nat} (hk : RFoot r gk gs vw kb sb wb k) : k < w.heap.size := by
  rcases hk with rfl | rfl | rfl | hk | hk | hk | hk
  · exact lt_of_some h.m.at'
  · exact own_lt h.m.kept rfl
  · exact own_lt h.m.seen rfl
  · exact own_lt h.m.row hk
  · obtain ⟨j, hj, e⟩ := at_mem (d := 0) hk
    have := (h.hk j (by rw [← h.m.lk]; exact hj)).1
    rw [e] at this
    exact lt_of_some this
  · obtain ⟨j, hj, e⟩ := at_mem (d := 0) hk
    have := (h.hs j (by rw [← h.m.ls]; exact hj)).1
    rw [e] at this
    exact lt_of_some this
  · obtain ⟨x, hx, rfl⟩ := List.mem_map.1 hk
    obtain ⟨j, hj, e⟩ := at_mem (d := default) hx
    have := (h.hw j (by rw [← h.m.lw]; exact hj)).2.1
    rw [e] at this
    exact lt_of_some this
instance {r : Nat} {D : DS} : Stab (RefR r D) where
  lt := by
    rintro w F ⟨gk, gs, ck, cs, vw, f, kb, sb, wb, h, hF⟩ k hk
    exact h.lt ((hF k).1 hk)
  keep := by
    rintro w w' F ⟨gk, gs, ck, cs, vw, f, kb, sb, wb, h, hF⟩ hk
    exact ⟨gk, gs, ck, cs, vw, f, kb, sb, wb, h.keep (fun k e => hk k ((hF k).2 e)), hF⟩

theorem RefAt.cell {w : World} {r gk gs ck cs : Nat} {vw : Value} {f : Int} {kb sb : List Nat} {wb : List (Nat × Nat)} {D : DS} (h : RefAt w r gk gs ck cs vw f kb sb wb D) (j : Nat) :
    w.cell? ⟨r, j, none⟩ = (#[.slice (some ⟨gk, 0, none⟩) D.n ck, .slice (some ⟨gs, 0, none⟩) D.n cs, vw, .int .i64 f, .bool D.down, .int .i64 D.wr, .int .i64 D.sy] : Array Value)[j]? := by
  simp [World.cell?, h.m.at']
theorem RefAt.free {w : World} {r gk gs ck cs : Nat} {vw : Value} {f : Int} {kb sb : List Nat} {wb : List (Nat × Nat)} {D : DS} (h : RefAt w r gk gs ck cs vw f kb sb wb D) (j : Nat) : w.frozen? ⟨r, j, none⟩ = false := by
  simp [World.frozen?, h.m.at']
theorem RefAt.seenAt {w : World} {r gk gs ck cs : Nat} {vw : Value} {f : Int} {kb sb : List Nat} {wb : List (Nat × Nat)} {D : DS} (h : RefAt w r gk gs ck cs vw f kb sb wb D) {j : Nat} (hj : j < D.n) : w.cell? ⟨gs, j, none⟩ = some (sl64 (sb.getD j 0)) := by
  rw [h.m.seen.cellAt j (by simpa using hj)]
  simp [List.getD_eq_getElem?_getD, h.m.ls, hj]
theorem RefAt.keptAt {w : World} {r gk gs ck cs : Nat} {vw : Value} {f : Int} {kb sb : List Nat} {wb : List (Nat × Nat)} {D : DS} (h : RefAt w r gk gs ck cs vw f kb sb wb D) {j : Nat} (hj : j < D.n) : w.cell? ⟨gk, j, none⟩ = some (sl64 (kb.getD j 0)) := by
  rw [h.m.kept.cellAt j (by simpa using hj)]
  simp [List.getD_eq_getElem?_getD, h.m.lk, hj]

end Go.Proofs.Ytbimhiffcdhcaaa

namespace Go.Proofs.Ytbimhiffcdhcaaa
open Go Go.RowKit
set_option linter.unusedVariables false
set_option linter.unusedSimpArgs false
set_option maxRecDepth 100000



theorem HasB.hold {w w' : World} {b : Nat} {s : List UInt8} (hb : HasB w b s) {r gk gs ck cs : Nat} {vw : Value} {f : Int} {dn : Bool} {wr sy n m : Nat} {kb sb : List Nat} {wb : List (Nat × Nat)} (h : RefM w r gk gs ck cs vw f dn wr sy n m kb sb wb)
    (ho : Only (RCore r gk gs vw) w w') : HasB w' b s := ⟨(ho.block b (lt_of_some hb.1) (h.bytes hb.1)).trans hb.1, hb.2⟩

set_option maxHeartbeats 400000 in
theorem ref_fuse {w : World} {r gk gs ck cs : Nat} {vw : Value} {f : Int} {kb sb : List Nat} {wb : List (Nat × Nat)} {D : DS} (h : RefAt w r gk gs ck cs vw f kb sb wb D) (n : Int) (hn : -9223372036854775808 ≤ n ∧ n ≤ 9223372036854775807) :
    Calls Try.prog 29 #[.pointer (some ⟨r, 0, none⟩), .int .i64 n] w fun e w' => e = .returned (.tuple #[]) ∧ (∃ f', RefAt w' r gk gs ck cs vw f' kb sb wb (D.fused n)) ∧ Only (RCore r gk gs vw) w w' := by
  have hc : w.cell? ⟨r, 4, none⟩ = some (.bool D.down) := h.cell 4
  have hc3 : w.cell? ⟨r, 3, none⟩ = some (.int .i64 f) := h.cell 3
  have hf := h.free 3
  by_cases hd : D.down = true
  · have H := Lib.hid h
    have HL : Hid (D.fused n = D) := Lib.hid (by simp [DS.fused, hd])
    rw [hd] at hc
    clear h hd
    go_enter Try.func29, Try.ntmps29
    go_wp2
    refine bodyPost_ret (results_none rfl _ _ _) rfl ⟨rfl, ⟨f, ?_⟩, Only.refl _ _⟩
    rw [HL.out]
    exact H.out
  · have hd' : D.down = false := by simpa using hd
    have HL : Hid (D.fused n = { D with fuse := n }) := Lib.hid (by simp [DS.fused, hd'])
    have HA : Hid (∀ w' f', RefM w' r gk gs ck cs vw f' D.down D.wr D.sy D.n D.W.length kb sb wb → Only (RCore r gk gs vw) w w' → (f' = if n < 0 then -1 else n) → RefAt w' r gk gs ck cs vw f' kb sb wb (D.fused n)) := Lib.hid (fun w' f' hm ho e => by
      rw [HL.out]
      exact ⟨⟨h.ok.n, h.ok.N, h.ok.K, h.ok.W, hn⟩, hm, fun _ => e, fun j hj => (h.hk j hj).hold h.m ho, fun j hj => (h.hs j hj).hold h.m ho, fun j hj => ⟨(h.hw j hj).1, (h.hw j hj).2.hold h.m ho⟩⟩)
    have HM := Lib.hid h.m
    rw [hd'] at hc
    clear h hd hd' HL
    have hO1 : Only (RCore r gk gs vw) w (w.setCell ⟨r, 3, none⟩ (.int .i64 n)) := (Only.cell w r 3 (.int .i64 n)).mono (fun k _ e => .inl e)
    have HO1 := Lib.hid hO1
    have HM1 := Lib.hid (HM.out.set (f' := n) (dn' := D.down) (wr' := D.wr) (sy' := D.sy) 3 (.int .i64 n) rfl)
    clear hO1
    by_cases h0 : n < 0
    · have hf1 : (w.setCell ⟨r, 3, none⟩ (.int .i64 n)).frozen? ⟨r, 3, none⟩ = false := by simp [World.frozen?, HM1.out.at']
      have hc1 : (w.setCell ⟨r, 3, none⟩ (.int .i64 n)).cell? ⟨r, 3, none⟩ = some (.int .i64 n) := by simp [World.cell?, HM1.out.at']
      have HM2 := Lib.hid (HM1.out.set (f' := -1) (dn' := D.down) (wr' := D.wr) (sy' := D.sy) 3 (.int .i64 (-1)) rfl)
      have HO2 := Lib.hid (HO1.out.setCell (p := ⟨r, 3, none⟩) (fun _ => .inl rfl) (.int .i64 (-1)))
      go_enter Try.func29, Try.ntmps29
      go_wp2
      go_end0
      exact ⟨rfl, ⟨_, HA.out _ _ HM2.out HO2.out (by rw [if_pos h0])⟩, HO2.out⟩
    · go_enter Try.func29, Try.ntmps29
      go_wp2
      go_end0
      exact ⟨rfl, ⟨_, HA.out _ _ HM1.out HO1.out (by rw [if_neg (by omega)])⟩, HO1.out⟩

end Go.Proofs.Ytbimhiffcdhcaaa

namespace Go.Proofs.Ytbimhiffcdhcaaa
open Go Go.RowKit
set_option linter.unusedVariables false
set_option linter.unusedSimpArgs false
set_option maxRecDepth 100000

theorem RefM.keptCell {w : World} {r gk gs ck cs : Nat} {vw : Value} {f : Int} {dn : Bool} {wr sy n m : Nat} {kb sb : List Nat} {wb : List (Nat × Nat)} (h : RefM w r gk gs ck cs vw f dn wr sy n m kb sb wb) {j : Nat} (hj : j < n) : w.cell? ⟨gk, j, none⟩ = some (sl64 (kb.getD j 0)) := by
  rw [h.kept.cellAt j (by simpa using hj)]
  simp [List.getD_eq_getElem?_getD, h.lk, hj]
theorem RefM.seenCell {w : World} {r gk gs ck cs : Nat} {vw : Value} {f : Int} {dn : Bool} {wr sy n m : Nat} {kb sb : List Nat} {wb : List (Nat × Nat)} (h : RefM w r gk gs ck cs vw f dn wr sy n m kb sb wb) {j : Nat} (hj : j < n) : w.cell? ⟨gs, j, none⟩ = some (sl64 (sb.getD j 0)) := by
  rw [h.seen.cellAt j (by simpa using hj)]
  simp [List.getD_eq_getElem?_getD, h.ls, hj]
theorem RefM.cell {w : World} {r gk gs ck cs : Nat} {vw : Value} {f : Int} {dn : Bool} {wr sy n m : Nat} {kb sb : List Nat} {wb : List (Nat × Nat)} (h : RefM w r gk gs ck cs vw f dn wr sy n m kb sb wb) (j : Nat) :
    w.cell? ⟨r, j, none⟩ = (#[.slice (some ⟨gk, 0, none⟩) n ck, .slice (some ⟨gs, 0, none⟩) n cs, vw, .int .i64 f, .bool dn, .int .i64 wr, .int .i64 sy] : Array Value)[j]? := by
  simp [World.cell?, h.at']
theorem RefM.free {w : World} {r gk gs ck cs : Nat} {vw : Value} {f : Int} {dn : Bool} {wr sy n m : Nat} {kb sb : List Nat} {wb : List (Nat × Nat)} (h : RefM w r gk gs ck cs vw f dn wr sy n m kb sb wb) (j : Nat) : w.frozen? ⟨r, j, none⟩ = false := by
  simp [World.frozen?, h.at']
theorem set_take_drop {α : Type} {xs ys : List α} {k : Nat} {d : α} (hl : xs.length = ys.length) (hk : k < xs.length) : (ys.take k ++ xs.drop k).set k (ys.getD k d) = ys.take (k + 1) ++ xs.drop (k + 1) := by
  have h1 : (ys.take k).length = k := by simp; omega
  rw [List.set_append_right _ _ (by omega), h1, Nat.sub_self, List.drop_eq_getElem_cons hk, List.set_cons_zero, List.take_succ_eq_append_getElem (by omega), List.append_assoc]
  simp [List.getD_eq_getElem?_getD, show k < ys.length by omega]

set_option maxHeartbeats 400000 in
theorem ref_sync_gone {w : World} {r gk gs ck cs : Nat} {vw : Value} {f : Int} {kb sb : List Nat} {wb : List (Nat × Nat)} {D : DS} (h : RefAt w r gk gs ck cs vw f kb sb wb D) (hd : D.down = true) :
    Calls Try.prog 27 #[.pointer (some ⟨r, 0, none⟩)] w fun e w' => e = .returned (.int .i64 4) ∧ w = w' := by
  have hc : w.cell? ⟨r, 4, none⟩ = some (.bool D.down) := h.cell 4
  rw [hd] at hc
  clear h hd
  go_enter Try.func27, Try.ntmps27
  go_wp2
  go_ret
  exact ⟨rfl, rfl⟩

set_option maxRecDepth 100000 in
set_option maxHeartbeats 1000000 in
theorem ref_sync_ok {w : World} {r gk gs ck cs : Nat} {vw : Value} {f : Int} {kb sb : List Nat} {wb : List (Nat × Nat)} {D : DS} (h : RefAt w r gk gs ck cs vw f kb sb wb D) (hcoh : Coh D) (hd : D.down = false) (hsy : D.sy ≤ 1000000) :
    Calls Try.prog 27 #[.pointer (some ⟨r, 0, none⟩)] w fun e w' => e = .returned (.int .i64 0) ∧ RefAt w' r gk gs ck cs (.slice none 0 0) f sb sb [] D.sync ∧ Only (RCore r gk gs vw) w w' := by
  have HA : Hid (∀ w', RefM w' r gk gs ck cs (.slice none 0 0) f false D.wr (D.sy + 1) D.n 0 sb sb [] → Only (RCore r gk gs vw) w w' → RefAt w' r gk gs ck cs (.slice none 0 0) f sb sb [] D.sync) := Lib.hid (fun w' hm ho => by
    have e : D.sync = { D with K := D.N, W := [], sy := D.sy + 1 } := by simp [DS.sync, hd]; exact hcoh.symm
    rw [e]
    refine ⟨⟨h.ok.n, h.ok.N, h.ok.N, fun x hx => by simp at hx, h.ok.fuse⟩, by rw [hd]; exact hm, fun _ => h.fuse hd, fun j hj => (h.hs j hj).hold h.m ho, fun j hj => (h.hs j hj).hold h.m ho, fun j hj => by simp at hj⟩)
  have hm := h.m
  rw [hd] at hm
  have hn := h.ok.n
  obtain ⟨n, en⟩ : ∃ n, n = D.n := ⟨_, rfl⟩
  obtain ⟨m, em⟩ : ∃ m, m = D.W.length := ⟨_, rfl⟩
  obtain ⟨sy, es⟩ : ∃ sy, sy = D.sy := ⟨_, rfl⟩
  obtain ⟨wrn, ew⟩ : ∃ wrn, wrn = D.wr := ⟨_, rfl⟩
  rw [← en] at HA hm hn
  rw [← em] at hm
  rw [← es] at HA hm hsy
  rw [← ew] at HA hm
  clear h hd hcoh en em es ew
  have hc4 := hm.cell 4
  have hlk := hm.lk
  have hls := hm.ls
  have HM0 := Lib.hid hm
  have HL := Lib.hid (show kb.length = sb.length by rw [hlk, hls])
  have HLk := Lib.hid hlk
  have HLs := Lib.hid hls
  clear hm hlk hls
  simp only [List.getElem?_toArray, List.getElem?_cons_succ, List.getElem?_cons_zero] at hc4
  go_enter Try.func27, Try.ntmps27
  go_wp2_with fail
  clear hc4
  go_loopw [3] (fun i wr => ∃ k : Nat, k ≤ n ∧ i = .int .i64 k ∧ Hid (RefM wr r gk gs ck cs vw f false wrn sy n m (sb.take k ++ kb.drop k) sb wb) ∧ Hid (Only (RCore r gk gs vw) w wr)) (fun i _ => n - (intOf i).toNat)
  case atStart => exact ⟨0, Nat.zero_le _, rfl, Lib.hid (by simpa using HM0.out), Lib.hid (Only.refl _ _)⟩
  case round =>
    clear HM0
    obtain ⟨k, hk, rfl, HM, HO⟩ := hrel
    have hc0 := HM.out.cell 0
    have hc1 := HM.out.cell 1
    simp only [List.getElem?_toArray, List.getElem?_cons_succ, List.getElem?_cons_zero] at hc0 hc1
    by_cases hlt : k < n
    · have hd1 := HM.out.seenCell hlt
      rw [sl64] at hd1
      have hd0 := HM.out.keptCell hlt
      obtain ⟨hm2, hfz⟩ := HM.out.putKept hlt (sb.getD k 0)
      rw [set_take_drop HL.out (by rw [HLk.out]; exact hlt)] at hm2
      rw [sl64] at hm2
      obtain ⟨b, hb⟩ : ∃ b, b = sb.getD k 0 := ⟨_, rfl⟩
      rw [← hb] at hm2 hd1
      have HM2 := Lib.hid hm2
      have HO2 := Lib.hid (HO.out.setCell (p := ⟨gk, k, none⟩) (fun _ => .inr (.inl rfl)) (.slice (some ⟨b, 0, none⟩) 64 64))
      have hltI : (k : Int) < (n : Int) := by omega
      have hk0 : (0 : Int) ≤ (k : Int) := by omega
      clear hm2 HM HO hb
      go_upto_region 6 with fail
      go_region
      all_goals
        go_wp2
        go_roundw
        case rel => exact ⟨k + 1, by omega, by go_num, Lib.hid (HM2.out.keep (fun _ _ => rfl)), Lib.hid HO2.out.drew⟩
        case measure => simp [intOf]; omega
    · obtain rfl : k = n := by omega
      have hm2 := HM.out
      rw [List.take_of_length_le (by rw [HLs.out]; exact Nat.le_refl _), List.drop_of_length_le (by rw [HLk.out]; exact Nat.le_refl _), List.append_nil] at hm2
      have hf2 := hm2.free 2
      have hm3 := hm2.calm
      have hf6 := hm3.free 6
      have hc6 := hm3.cell 6
      simp only [List.getElem?_toArray, List.getElem?_cons_succ, List.getElem?_cons_zero] at hc6
      have hc2 := hm2.cell 2
      simp only [List.getElem?_toArray, List.getElem?_cons_succ, List.getElem?_cons_zero] at hc2
      have HM4 := Lib.hid (hm3.set (f' := f) (dn' := false) (wr' := wrn) (sy' := sy + 1) 6 (.int .i64 ((sy : Int) + 1)) rfl)
      have HO4 := Lib.hid ((HO.out.setCell (p := ⟨r, 2, none⟩) (fun _ => .inl rfl) (.slice none 0 0)).setCell (p := ⟨r, 6, none⟩) (fun _ => .inl rfl) (.int .i64 ((sy : Int) + 1)))
      clear hm2 hm3 HM HO hlt hk
      go_wp2_with fail
      go_ret
      exact ⟨rfl, HA.out _ HM4.out HO4.out, HO4.out⟩

end Go.Proofs.Ytbimhiffcdhcaaa

namespace Go.Proofs.Ytbimhiffcdhcaaa
open Go Go.RowKit
set_option linter.unusedVariables false
set_option linter.unusedSimpArgs false
set_option maxRecDepth 100000

set_option maxHeartbeats 1000000 in
theorem ref_write_arg {w : World} {r gk gs ck cs : Nat} {vw : Value} {f : Int} {kb sb : List Nat} {wb : List (Nat × Nat)} {D : DS} (h : RefAt w r gk gs ck cs vw f kb sb wb D) (i : Int) (vo : Option Addr) (l vc : Nat) (hi : D.has i = false ∨ 64 < l) :
    Calls Try.prog 31 #[.pointer (some ⟨r, 0, none⟩), .int .i64 i, .slice vo l vc] w fun e w' => e = .returned (.int .i64 1) ∧ w = w' := by
  have hc1 : w.cell? ⟨r, 1, none⟩ = some (.slice (some ⟨gs, 0, none⟩) D.n cs) := h.cell 1
  have hh : i < 0 ∨ (¬ i < 0 ∧ ¬ i < (D.n : Int)) ∨ (¬ i < 0 ∧ i < (D.n : Int) ∧ (64 : Int) < (l : Int)) := by simp [DS.has] at hi; omega
  clear h hi
  rcases hh with h | ⟨h1, h2⟩ | ⟨h1, h2, h3⟩
  · go_enter Try.func31, Try.ntmps31
    go_wp2
    go_ret
    exact ⟨rfl, rfl⟩
  · go_enter Try.func31, Try.ntmps31
    go_wp2
    go_ret
    exact ⟨rfl, rfl⟩
  · go_enter Try.func31, Try.ntmps31
    go_wp2
    go_ret
    exact ⟨rfl, rfl⟩

set_option maxHeartbeats 1000000 in
/-- The power is gone: whatever the fuse says, nothing is laid. -/
theorem ref_write_gone {w : World} {r gk gs ck cs : Nat} {vw : Value} {f : Int} {kb sb : List Nat} {wb : List (Nat × Nat)} {D : DS} (h : RefAt w r gk gs ck cs vw f kb sb wb D) (i : Nat) (hi : i < D.n) (vo : Option Addr) (l vc : Nat) (hl : l ≤ 64) (hg : D.lastB = false) :
    Calls Try.prog 31 #[.pointer (some ⟨r, 0, none⟩), .int .i64 i, .slice vo l vc] w fun e w' => e = .returned (.int .i64 4) ∧ (∃ f', RefAt w' r gk gs ck cs vw f' kb sb wb D.last) ∧ Only (RCore r gk gs vw) w w' := by
  have hc1 : w.cell? ⟨r, 1, none⟩ = some (.slice (some ⟨gs, 0, none⟩) D.n cs) := h.cell 1
  have hc3 : w.cell? ⟨r, 3, none⟩ = some (.int .i64 f) := h.cell 3
  have hc4 : w.cell? ⟨r, 4, none⟩ = some (.bool D.down) := h.cell 4
  have hf3 := h.free 3
  have hf4 := h.free 4
  have h0 : (0 : Int) ≤ (i : Int) := by omega
  have h1 : (i : Int) < (D.n : Int) := by omega
  have h2 : ¬ (64 : Int) < (l : Int) := by omega
  have hw : D.last = { D with down := true } ∧ (D.down = false → f = 0) := by
    cases hd : D.down with
    | true => exact ⟨by rw [(DS.last_gone hd).2, ← hd], fun e => by cases e⟩
    | false =>
      by_cases hz : D.fuse = 0
      · exact ⟨(DS.last_goes hd hz).2, fun _ => by rw [h.fuse hd, hz]; rfl⟩
      · have : D.lastB = true := by simp [DS.lastB, hd, hz]
        rw [this] at hg; cases hg
  have HA : Hid (∀ w' f', RefM w' r gk gs ck cs vw f' true D.wr D.sy D.n D.W.length kb sb wb → Only (RCore r gk gs vw) w w' → RefAt w' r gk gs ck cs vw f' kb sb wb D.last) := Lib.hid (fun w' f' hm ho => by
    rw [hw.1]
    exact ⟨⟨h.ok.n, h.ok.N, h.ok.K, h.ok.W, h.ok.fuse⟩, hm, (fun e => by cases e), fun j hj => (h.hk j hj).hold h.m ho, fun j hj => (h.hs j hj).hold h.m ho, fun j hj => ⟨(h.hw j hj).1, (h.hw j hj).2.hold h.m ho⟩⟩)
  have HM := Lib.hid h.m
  have HF := Lib.hid hw.2
  clear h hg hw
  by_cases hf : f = 0
  · subst hf
    have HM1 := Lib.hid (HM.out.set (f' := 0) (dn' := true) (wr' := D.wr) (sy' := D.sy) 4 (.bool true) rfl)
    have HM2 := Lib.hid (HM1.out.set (f' := -1) (dn' := true) (wr' := D.wr) (sy' := D.sy) 3 (.int .i64 (-1)) rfl)
    have HO2 := Lib.hid (((Only.refl (RCore r gk gs vw) w).setCell (p := ⟨r, 4, none⟩) (fun _ => .inl rfl) (.bool true)).setCell (p := ⟨r, 3, none⟩) (fun _ => .inl rfl) (.int .i64 (-1)))
    go_enter Try.func31, Try.ntmps31
    go_wp2
    go_ret
    exact ⟨rfl, ⟨_, HA.out _ _ HM2.out HO2.out⟩, HO2.out⟩
  · have hd : D.down = true := by
      cases hd : D.down with
      | true => rfl
      | false => exact absurd (HF.out hd) hf
    rw [hd] at hc4
    have HM0 := Lib.hid (show RefM w r gk gs ck cs vw f true D.wr D.sy D.n D.W.length kb sb wb by rw [← hd]; exact HM.out)
    clear HM HF hd
    go_enter Try.func31, Try.ntmps31
    go_wp2
    go_ret
    exact ⟨rfl, ⟨_, HA.out _ _ HM0.out (Only.refl _ _)⟩, Only.refl _ _⟩

end Go.Proofs.Ytbimhiffcdhcaaa

namespace Go.Proofs.Ytbimhiffcdhcaaa
open Go Go.RowKit
set_option linter.unusedVariables false
set_option linter.unusedSimpArgs false
set_option maxRecDepth 100000

theorem pad_step (b : List UInt8) {k : Nat} (hk : k < b.length) (hb : b.length ≤ 64) : (b.take k ++ List.replicate (64 - k) 0).set k (b.getD k 0) = b.take (k + 1) ++ List.replicate (64 - (k + 1)) 0 := by
  have h1 : (b.take k).length = k := by simp; omega
  rw [List.set_append_right _ _ (by omega), h1, Nat.sub_self, show 64 - k = (64 - (k + 1)) + 1 by omega, List.replicate_succ, List.set_cons_zero, List.take_succ_eq_append_getElem hk, List.append_assoc]
  simp [List.getD_eq_getElem?_getD, hk]

theorem wpList_build_two {P : Program} {ops : Array Oper} {rest : List Oper} {o : Oper} {a : Act} {w : World} {Q : Exit → Act → World → Prop} (hg : o.guard = none) (t : TypeId) (k k2 : Nat) (x x2 : Operand) (ho : o.op = .build t #[(k, x), (k2, x2)])
    (v v2 : Value) (hv : a.eval x = v) (hv2 : a.eval x2 = v2) (cells : Array Value) (hb : P.built t [(k, v), (k2, v2)] = some cells)
    (h : wpList P ops Q rest (a.put o.dst (.agg cells)) w) : wpList P ops Q (o :: rest) a w := by
  have hL : ((#[(k, x), (k2, x2)] : Array (Nat × Operand)).map fun (i, x) => (i, a.eval x)).toList = [(k, v), (k2, v2)] := by simp [hv, hv2]
  refine wpList_build hg t _ ho (by rw [hL, hb]; rfl) ?_
  rw [hL, hb]
  exact h
theorem Try.infoPut : (Try.prog.info? 102).map (fun i => (i.zero, i.size)) = some (some (.agg #[.int .i64 0, .slice none 0 0]), 2) := by kernel_rfl
theorem Try.infoPut3 : (Try.prog.info? 102).map (fun i => (i.zero, i.size, i.bytes)) = some (some (.agg #[.int .i64 0, .slice none 0 0]), 2, 32) := by kernel_rfl
theorem built_put (i : Int) (g : Nat) : Try.prog.built 102 [(0, Value.int .i64 i), (1, .slice (some ⟨g, 0, none⟩) 64 64)] = some #[.int .i64 i, .slice (some ⟨g, 0, none⟩) 64 64] := by kernel_rfl
theorem wputs_snoc (L : List (Nat × Nat)) (i g : Nat) : wputs (L ++ [(i, g)]) = wputs L ++ [.int .i64 i, .slice (some ⟨g, 0, none⟩) 64 64] := by simp [wputs, sl64]
/-- One more write waits: its row has grown, or lies in a new block. -/
theorem RefM.waits {w w' : World} {r gk gs ck cs : Nat} {vw v' : Value} {f : Int} {dn : Bool} {wr sy n m : Nat} {kb sb : List Nat} {wb : List (Nat × Nat)} (h : RefM w r gk gs ck cs vw f dn wr sy n m kb sb wb) (x : Nat × Nat)
    (hown : w'.ownsRow 0 102 2 v' (m + 1) (wputs (wb ++ [x]))) (ho : Only (fun k => vw.ownBlock = some k) w w') (hv : ∀ g, v'.ownBlock = some g → vw.ownBlock = some g ∨ w.heap.size ≤ g) :
    RefM (w'.setCell ⟨r, 2, none⟩ v') r gk gs ck cs v' f dn wr sy n (m + 1) kb sb (wb ++ [x]) ∧ w'.cell? ⟨r, 2, none⟩ = some vw ∧ w'.frozen? ⟨r, 2, none⟩ = false := by
  obtain ⟨n1, n2, n3, n4, n5⟩ := h.apart
  have hr : w'.heap[r]? = w.heap[r]? := ho.block r (h.lt (.inl rfl)) n3
  have hk : ∀ k, k ≠ r → (w'.setCell ⟨r, 2, none⟩ v').heap[k]? = w'.heap[k]? := fun k hk => Below.heap_setCell _ _ _ _ hk
  refine ⟨⟨by rw [heap_set (hr.trans h.at')]; rfl, h.lk, h.ls, by simp [h.lw], own_keepAt h.kept (fun k e => ?_), own_keepAt h.seen (fun k e => ?_), own_keepAt hown (fun k e => hk k ?_), h.ne⟩, ?_, ?_⟩
  · simp [Value.ownBlock] at e
    subst e
    exact (hk _ (Ne.symm n1)).trans (ho.block _ (h.lt (.inr (.inl rfl))) n4)
  · simp [Value.ownBlock] at e
    subst e
    exact (hk _ (Ne.symm n2)).trans (ho.block _ (h.lt (.inr (.inr (.inl rfl)))) n5)
  · rintro rfl
    rcases hv _ e with e | e
    · exact n3 e
    · have := h.lt (.inl rfl); omega
  · simp [World.cell?, hr, h.at']
  · simp [World.frozen?, hr, h.at']

theorem ref_lay {w w' : World} {r gk gs ck cs : Nat} {vw v' : Value} {f f1 : Int} {kb sb : List Nat} {wb : List (Nat × Nat)} {D : DS} (h : RefAt w r gk gs ck cs vw f kb sb wb D) {i g : Nat} {s : List UInt8} (hi : i < D.n) (hs : s.length = 64)
    (hdn : D.last.down = false) (hf : f1 = if D.last.fuse < 0 then -1 else D.last.fuse) (hfr : -9223372036854775808 ≤ D.last.fuse ∧ D.last.fuse ≤ 9223372036854775807) (hm : RefM w' r gk gs ck cs v' f1 false (D.wr + 1) D.sy D.n (D.W.length + 1) kb (sb.set i g) (wb ++ [(i, g)])) (ho : Only (RCore r gk gs vw) w w') (hp : HasB w' g s) :
    RefAt w' r gk gs ck cs v' f1 kb (sb.set i g) (wb ++ [(i, g)]) (D.last.lay i s) := by
  obtain ⟨q1, q2, q3, q4, q5, q6⟩ := DS.last_same D
  have hlay : D.last.lay i s = { n := D.n, N := put D.N i s, K := D.K, W := D.W ++ [(i, s)], fuse := D.last.fuse, down := D.last.down, wr := D.wr + 1, sy := D.sy } := by
    simp only [DS.lay, q1, q2, q3, q4, q5, q6]
  rw [hlay]
  refine ⟨⟨h.ok.n, put_length h.ok.N hi hs, h.ok.K, fun x hx => ?_, hfr⟩, ?_, fun _ => hf, fun j hj => (h.hk j hj).hold h.m ho, fun j hj => ?_, fun j hj => ?_⟩
  · rcases List.mem_append.1 hx with hx | hx
    · exact h.ok.W x hx
    · obtain rfl := List.mem_singleton.1 hx
      exact ⟨hi, hs⟩
  · rw [hdn]
    simp only [List.length_append, List.length_cons, List.length_nil]
    exact hm
  · by_cases e : j = i
    · subst e
      rw [sec_put_same h.ok.N hi hs]
      have : (sb.set j g).getD j 0 = g := by simp [List.getD_eq_getElem?_getD, h.m.ls, hi]
      rw [this]
      exact hp
    · rw [sec_put_other h.ok.N hi hs e]
      have : (sb.set i g).getD j 0 = sb.getD j 0 := by simp [List.getD_eq_getElem?_getD, List.getElem?_set_ne (Ne.symm e)]
      rw [this]
      exact (h.hs j hj).hold h.m ho
  · simp only [List.length_append, List.length_cons, List.length_nil] at hj
    by_cases e : j < D.W.length
    · have e1 : (wb ++ [(i, g)]).getD j default = wb.getD j default := by simp [List.getD_eq_getElem?_getD, List.getElem?_append_left (show j < wb.length by rw [h.m.lw]; exact e)]
      have e2 : (D.W ++ [(i, s)]).getD j default = D.W.getD j default := by simp [List.getD_eq_getElem?_getD, List.getElem?_append_left e]
      rw [e1, e2]
      exact ⟨(h.hw j e).1, (h.hw j e).2.hold h.m ho⟩
    · obtain rfl : j = D.W.length := by omega
      have e1 : (wb ++ [(i, g)]).getD D.W.length default = (i, g) := by rw [← h.m.lw]; simp [List.getD_eq_getElem?_getD]
      have e2 : (D.W ++ [(i, s)]).getD D.W.length default = (i, s) := by simp [List.getD_eq_getElem?_getD]
      rw [e1, e2]
      exact ⟨rfl, hp⟩
theorem ref_lay_foot {w : World} {r gk gs : Nat} {vw v' : Value} {kb sb : List Nat} {wb : List (Nat × Nat)} {i g : Nat} (hv : ∀ k, v'.ownBlock = some k → vw.ownBlock = some k ∨ w.heap.size ≤ k) (hg : w.heap.size ≤ g) (k : Nat) (hk : RFoot r gk gs v' kb (sb.set i g) (wb ++ [(i, g)]) k) :
    RFoot r gk gs vw kb sb wb k ∨ w.heap.size ≤ k := by
  rcases hk with hk | hk | hk | hk | hk | hk | hk
  · exact .inl (.inl hk)
  · exact .inl (.inr (.inl hk))
  · exact .inl (.inr (.inr (.inl hk)))
  · rcases hv k hk with h | h
    · exact .inl (.inr (.inr (.inr (.inl h))))
    · exact .inr h
  · exact .inl (.inr (.inr (.inr (.inr (.inl hk)))))
  · rcases List.mem_or_eq_of_mem_set hk with h | rfl
    · exact .inl (.inr (.inr (.inr (.inr (.inr (.inl h))))))
    · exact .inr hg
  · rw [List.map_append, List.mem_append] at hk
    rcases hk with h | h
    · exact .inl (.inr (.inr (.inr (.inr (.inr (.inr h))))))
    · simp at h; subst h; exact .inr hg

theorem run_make64 (w : World) : (Instr.makeSlice 48 (.int .i64 64) (.int .i64 64)).run Try.prog w = .ok (.slice (some ⟨w.heap.size, 0, none⟩) 64 64) (w.alloc (.cells (u8s (List.replicate 64 0)).toArray 5)) := by
  obtain ⟨i, hi, hz, hs, hb⟩ := info_parts Try.infoU8
  have := run_make (P := Try.prog) w 48 5 i (.int .u8 0) Try.underlying48 hi hz .i64 .i64 64 64 (by omega) (Int.le_refl _) (by rw [hb]; omega) (by omega)
  have e : madeCells #[Value.int .u8 0] 64 = (u8s (List.replicate 64 0)).toArray := Array.toList_inj.1 (by rw [toList_madeCells_one]; rfl)
  rw [this]
  simp only [hs, Value.cells, Nat.mul_one]
  exact congrArg (fun c => Result.ok (Value.slice (some ⟨w.heap.size, 0, none⟩) 64 64) (w.alloc (.cells c 5))) e

end Go.Proofs.Ytbimhiffcdhcaaa

namespace Go.Proofs.Ytbimhiffcdhcaaa
open Go Go.RowKit
set_option linter.unusedVariables false
set_option linter.unusedSimpArgs false
set_option maxRecDepth 100000

set_option maxRecDepth 100000 in
set_option maxHeartbeats 2000000 in
theorem ref_write_ok {w : World} {r gk gs ck cs : Nat} {vw : Value} {f : Int} {kb sb : List Nat} {wb : List (Nat × Nat)} {D : DS} (h : RefAt w r gk gs ck cs vw f kb sb wb D) (i : Nat) (hi : i < D.n) (v : Value) (b : List UInt8) (hb : b.length ≤ 64) (hl : D.lastB = true)
    (hv : SlO w (RCore r gk gs vw) v b) (hW : D.W.length ≤ 1000000) (hwr : D.wr ≤ 1000000) :
    Calls Try.prog 31 #[.pointer (some ⟨r, 0, none⟩), .int .i64 i, v] w fun e w' => e = .returned (.int .i64 0) ∧
      (∃ vw' f' sb' wb', RefAt w' r gk gs ck cs vw' f' kb sb' wb' (D.last.lay i (pad b)) ∧ (∀ k, RFoot r gk gs vw' kb sb' wb' k → RFoot r gk gs vw kb sb wb k ∨ w.heap.size ≤ k)) ∧ Only (RCore r gk gs vw) w w' := by
  obtain ⟨vo, vc, rfl⟩ := hv.1.shape
  have hdn : D.down = false := by cases hd : D.down with | true => simp [DS.lastB, hd] at hl | false => rfl
  have hfz : D.fuse ≠ 0 := by simp [DS.lastB] at hl; exact hl.2
  have hfv := h.fuse hdn
  have h0 : (0 : Int) ≤ (i : Int) := by omega
  have h1 : (i : Int) < (D.n : Int) := by omega
  have h2 : ¬ (64 : Int) < (b.length : Int) := by omega
  have hf0 : ¬ f = 0 := by rw [hfv]; split <;> omega
  have hc1 : w.cell? ⟨r, 1, none⟩ = some (.slice (some ⟨gs, 0, none⟩) D.n cs) := h.cell 1
  have hc3 : w.cell? ⟨r, 3, none⟩ = some (.int .i64 f) := h.cell 3
  have hc4 : w.cell? ⟨r, 4, none⟩ = some (.bool D.down) := h.cell 4
  have hf3 := h.free 3
  rw [hdn] at hc4
  have H := Lib.hid h
  have HV := Lib.hid hv
  have HB := Lib.hid hb
  have HF := Lib.hid hfv
  clear h hv hb hl hfv
  have hfr : f ≤ 9223372036854775807 := by rw [HF.out]; have := H.out.ok.fuse.2; split <;> omega
  have hwf : 0 < f → wrap64 (f - 1) = f - 1 := fun h => IntWalk.wrap64_in _ ⟨by omega, by omega⟩
  obtain ⟨C, hC⟩ : ∃ C, C = (u8s (List.replicate 64 0)).toArray := ⟨_, rfl⟩
  have hmk := run_make64
  rw [← hC] at hmk
  obtain ⟨f1, w1, hw1⟩ : ∃ f1 w1, (0 < f ∧ f1 = f - 1 ∧ w1 = w.setCell ⟨r, 3, none⟩ (.int .i64 (f - 1))) ∨ (¬ 0 < f ∧ f1 = f ∧ w1 = w) := by
    by_cases h : 0 < f
    · exact ⟨_, _, .inl ⟨h, rfl, rfl⟩⟩
    · exact ⟨_, _, .inr ⟨h, rfl, rfl⟩⟩
  have HM1 : Hid (RefM w1 r gk gs ck cs vw f1 false D.wr D.sy D.n D.W.length kb sb wb) := Lib.hid (by
    have hm := H.out.m
    rw [hdn] at hm
    rcases hw1 with ⟨_, rfl, rfl⟩ | ⟨_, rfl, rfl⟩
    · exact hm.set 3 _ rfl
    · exact hm)
  have HO1 : Hid (Only (RCore r gk gs vw) w w1) := Lib.hid (by
    rcases hw1 with ⟨_, rfl, rfl⟩ | ⟨_, rfl, rfl⟩
    · exact (Only.refl _ w).setCell (fun _ => .inl rfl) _
    · exact Only.refl _ _)
  have HF1 : Hid (f1 = if D.last.fuse < 0 then -1 else D.last.fuse) := Lib.hid (by
    have := HF.out
    by_cases hn : D.fuse < 0
    · rw [if_pos hn] at this
      rw [(DS.last_free hdn hn).2, if_pos hn]
      rcases hw1 with ⟨h, _⟩ | ⟨_, rfl, _⟩
      · omega
      · exact this
    · rw [if_neg hn] at this
      have hp : 0 < D.fuse := by omega
      rw [(DS.last_burns hdn hp).2]
      show f1 = if D.fuse - 1 < 0 then -1 else D.fuse - 1
      rw [if_neg (by omega)]
      rcases hw1 with ⟨h, rfl, _⟩ | ⟨h, _⟩
      · rw [this]
      · omega)
  have HDN : Hid (D.last.down = false) := Lib.hid (by
    by_cases hn : D.fuse < 0
    · rw [(DS.last_free hdn hn).2]; exact hdn
    · rw [(DS.last_burns hdn (by omega)).2]; exact hdn)
  have HFR : Hid (-9223372036854775808 ≤ D.last.fuse ∧ D.last.fuse ≤ 9223372036854775807) := Lib.hid (by
    have := H.out.ok.fuse
    by_cases hn : D.fuse < 0
    · rw [(DS.last_free hdn hn).2]; exact this
    · rw [(DS.last_burns hdn (by omega)).2]
      show -9223372036854775808 ≤ D.fuse - 1 ∧ D.fuse - 1 ≤ 9223372036854775807
      omega)
  have HV1 : Hid (SlC w1 (.slice vo b.length vc) b) := Lib.hid (SlC.keepAt HV.out (fun k hk hn => HO1.out.block k hk hn))
  go_enter Try.func31, Try.ntmps31
  have hsz1 : w1.heap.size = w.heap.size := by
    rcases hw1 with ⟨_, _, rfl⟩ | ⟨_, _, rfl⟩
    · simp [World.setCell]
    · rfl
  obtain ⟨g, hg⟩ : ∃ g, g = w.heap.size := ⟨_, rfl⟩
  have HG : Hid (g = w1.heap.size) := Lib.hid (by rw [hg, hsz1])
  have HS0 : Hid ((w1.alloc (.cells C 5)).heap[g]? = some (.cells (u8s (b.take 0 ++ List.replicate (64 - 0) 0)).toArray 5 (0, 0)) ∧ Only (fun _ => False) w1 (w1.alloc (.cells C 5))) := Lib.hid ⟨by
    rw [HG.out, hC]
    exact heap_alloc_new w1 _, (Only.refl _ w1).alloc _⟩
  clear hsz1 hC
  rcases hw1 with ⟨hpos, e1, e2⟩ | ⟨hpos, e1, e2⟩
  · have hwf1 := hwf hpos
    clear hwf
    go_upto_block 3 with fail
    rw [← e2, ← hg]
    clear hmk hwf1 e2 hg
    generalize w1.alloc (.cells C 5) = w2 at *
    go_loopw [8] (fun i wr => ∃ k : Nat, k ≤ b.length ∧ i = .int .i64 k ∧ Hid (wr.heap[g]? = some (.cells (u8s (b.take k ++ List.replicate (64 - k) 0)).toArray 5 (0, 0)) ∧ Only (fun _ => False) w1 wr)) (fun i _ => b.length - (intOf i).toNat)
    case atStart => exact ⟨0, Nat.zero_le _, rfl, HS0⟩
    case round =>
      clear HS0
      obtain ⟨k, hk, rfl, HQ⟩ := hrel
      by_cases hlt : k < b.length
      · obtain ⟨gb, off, rfl, hcb⟩ := (HV1.out.keep HQ.out.2).cell hlt
        have hltI : (k : Int) < (b.length : Int) := by omega
        have hk0 : (0 : Int) ≤ (k : Int) := by omega
        have hb64 := HB.out
        have hk64 : (k : Int) < 64 := by omega
        have hgk := HQ.out.1
        have hsz : (u8s (b.take k ++ List.replicate (64 - k) 0)).toArray.size = 64 := by simp [u8s_length]; omega
        have hcf : wr.frozen? ⟨g, k, none⟩ = false := by simp [World.frozen?, hgk]
        have hcc : wr.cell? ⟨g, k, none⟩ = some ((u8s (b.take k ++ List.replicate (64 - k) 0)).toArray[k]'(by omega)) := by
          simp only [World.cell?, hgk]
          rw [if_neg (by simp), Array.getElem?_eq_getElem]
        have HN : Hid ((wr.setCell ⟨g, k, none⟩ (.int .u8 (b.getD k 0).toNat)).heap[g]? = some (.cells (u8s (b.take (k + 1) ++ List.replicate (64 - (k + 1)) 0)).toArray 5 (0, 0)) ∧ Only (fun _ => False) w1 (wr.setCell ⟨g, k, none⟩ (.int .u8 (b.getD k 0).toNat))) := Lib.hid (by
          refine ⟨?_, HQ.out.2.setCell (fun h => by have := HG.out; simp at h; omega) _⟩
          rw [heap_set hgk, ← pad_step b hlt hb64]
          congr 2
          apply Array.toList_inj.1
          simp [u8s, List.map_set])
        obtain ⟨x, hx⟩ : ∃ x, x = (b.getD k 0).toNat := ⟨_, rfl⟩
        rw [← hx] at HN hcb
        generalize ((u8s (b.take k ++ List.replicate (64 - k) 0)).toArray[k]'(by omega)) = u0 at hcc
        clear HQ hgk hsz hb64 hx
        go_wp2_with fail
        go_roundw
        case rel => exact ⟨k + 1, by omega, by go_num, HN⟩
        case measure => simp [intOf]; omega
      · obtain rfl : k = b.length := by omega
        have HP : Hid (HasB wr g (pad b)) := Lib.hid ⟨by have := HQ.out.1; rwa [List.take_length] at this, pad_length HB.out⟩
        have HO2 := Lib.hid HQ.out.2
        clear HQ hlt hk
        have hmr : RefM wr r gk gs ck cs vw f1 false D.wr D.sy D.n D.W.length kb sb wb := HM1.out.keep (fun k hk => HO2.out.block k (HM1.out.lt hk) (fun h => h))
        have hd1 := hmr.cell 1
        simp only [List.getElem?_toArray, List.getElem?_cons_succ, List.getElem?_cons_zero] at hd1
        have hds := hmr.seenCell hi
        obtain ⟨hms, hfs⟩ := hmr.putSeen hi g
        have hos := (HO1.out.trans HO2.out (fun _ _ h => h.elim)).setCell (p := ⟨gs, i, none⟩) (fun _ => .inr (.inr (.inl rfl))) (sl64 g)
        have hps : HasB (wr.setCell ⟨gs, i, none⟩ (sl64 g)) g (pad b) := HP.out.hold hmr ((Only.refl _ wr).setCell (p := ⟨gs, i, none⟩) (fun _ => .inr (.inr (.inl rfl))) (sl64 g))
        have HMS := Lib.hid hms
        have HOS := Lib.hid hos
        have HPS := Lib.hid hps
        rw [sl64] at HMS HOS HPS
        clear hms hos hps hmr HP HO2
        go_upto_region 16 with fail
        clear hd1 hds hfs
        obtain ⟨w3, hw3⟩ : ∃ w3, w3 = wr.setCell ⟨gs, i, none⟩ (.slice (some ⟨g, 0, none⟩) 64 64) := ⟨_, rfl⟩
        rw [← hw3] at HMS HOS HPS ⊢
        clear hw3
        have hc2 := HMS.out.cell 2
        simp only [List.getElem?_toArray, List.getElem?_cons_succ, List.getElem?_cons_zero] at hc2
        have hbs := fun w => run_buildSlice_one (P := Try.prog) w 63 102 _ 2 Try.underlying63 Try.infoPut rfl (by decide) (by decide) #[.int .i64 i, .slice (some ⟨g, 0, none⟩) 64 64] rfl
        obtain ⟨i0, hi0, hz0, hz1, hz2⟩ := info_parts Try.infoPut3
        have HBP := Lib.hid (built_put i g)
        have HRW := Lib.hid (HMS.out.row.alloc (.cells #[.int .i64 i, .slice (some ⟨g, 0, none⟩) 64 64] 102))
        go_upto_region 17 with (first | (refine wpList_build_two rfl 102 0 1 (.tmp 78) (.tmp 79) rfl (.int .i64 i) (.slice (some ⟨g, 0, none⟩) 64 64) rfl rfl #[.int .i64 i, .slice (some ⟨g, 0, none⟩) 64 64] HBP.out ?_) | (at_builtin; refine wpList_append_lies _ rfl (.tmp 77) (.tmp 81) 63 rfl 0 102 i0 _ 2 32 Try.underlying63 hi0 hz0 hz1 hz2 rfl (by decide) vw D.W.length (wputs wb) rfl HRW.out ⟨w3.heap.size, 0, none⟩ 1 1 [.int .i64 i, .slice (some ⟨g, 0, none⟩) 64 64] rfl rfl (World.news_of_block (heap_alloc_new w3 _)) ?_ Nat.zero_lt_one ?_ ?_ (Nat.zero_le _) (w3.heap.size + 1) ?_ ?_))
        · intro u hu
          rcases List.mem_cons.1 hu with rfl | hu
          · rfl
          · rw [List.mem_singleton.1 hu]; rfl
        · unfold maxLen; omega
        · omega
        · simp
        intro gw capw w5 hown hgrow hat hlt5
        rw [← wputs_snoc] at hown
        have hol : Only (fun k => vw.ownBlock = some k) w3 w5 := (((Only.refl (fun _ => False) w3).alloc (.cells #[.int .i64 i, .slice (some ⟨g, 0, none⟩) 64 64] 102)).mono (fun _ _ h => h.elim)).grown hgrow (fun k _ e => e)
        have hvo : ∀ k, (Value.slice (some ⟨gw, 0, none⟩) (D.W.length + 1) capw).ownBlock = some k → vw.ownBlock = some k ∨ w3.heap.size ≤ k := fun k e => by
          simp [Value.ownBlock] at e
          subst e
          rcases hat with h | h
          · exact .inl h
          · exact .inr (by omega)
        obtain ⟨hm5, hc5, hf5⟩ := HMS.out.waits (i, g) hown hol hvo
        have ho5 : Only (RCore r gk gs vw) w3 (w5.setCell ⟨r, 2, none⟩ (.slice (some ⟨gw, 0, none⟩) (D.W.length + 1) capw)) := (hol.mono (fun k _ e => .inr (.inr (.inr e)))).setCell (fun _ => .inl rfl) _
        have hp5 := HPS.out.hold HMS.out ho5
        have hfoot := ref_lay_foot (w := w) (r := r) (gk := gk) (gs := gs) (kb := kb) (sb := sb) (wb := wb) (i := i) (g := g) (vw := vw) (v' := .slice (some ⟨gw, 0, none⟩) (D.W.length + 1) capw) (fun k e => (hvo k e).imp (fun h => h) (fun h => Nat.le_trans HOS.out.size h)) (by rw [HG.out]; exact HO1.out.size)
        have HFT := Lib.hid hfoot
        have HM5 := Lib.hid hm5
        have HO5 := Lib.hid (HOS.out.trans ho5 (fun _ _ h => h))
        have HP5 := Lib.hid hp5
        clear hown hgrow hat hlt5 hol hvo hm5 ho5 hp5 hfoot hbs HRW HBP hi0 hz0 hz1 hz2 HMS HPS hc2
        go_upto_region 17 with fail
        clear hc5 hf5
        generalize w5.setCell ⟨r, 2, none⟩ (.slice (some ⟨gw, 0, none⟩) (D.W.length + 1) capw) = w6 at *
        have hc6 := HM5.out.cell 5
        simp only [List.getElem?_toArray, List.getElem?_cons_succ, List.getElem?_cons_zero] at hc6
        have hf6 := HM5.out.free 5
        have HM7 := Lib.hid (HM5.out.set (f' := f1) (dn' := false) (wr' := D.wr + 1) (sy' := D.sy) 5 (.int .i64 ((D.wr : Int) + 1)) rfl)
        have ho7 : Only (RCore r gk gs (.slice (some ⟨gw, 0, none⟩) (D.W.length + 1) capw)) w6 (w6.setCell ⟨r, 5, none⟩ (.int .i64 ((D.wr : Int) + 1))) := (Only.refl _ w6).setCell (fun _ => .inl rfl) _
        have HP7 := Lib.hid (HP5.out.hold HM5.out ho7)
        have HO7 := Lib.hid (HO5.out.setCell (p := ⟨r, 5, none⟩) (fun _ => .inl rfl) (.int .i64 ((D.wr : Int) + 1)))
        clear ho7
        go_wp2_with fail
        go_ret
        exact ⟨rfl, ⟨_, _, _, _, ref_lay H.out hi (pad_length HB.out) HDN.out HF1.out HFR.out HM7.out HO7.out HP7.out, HFT.out⟩, HO7.out⟩
  · clear hwf
    go_upto_block 3 with fail
    rw [show w.alloc (.cells C 5) = w1.alloc (.cells C 5) by rw [e2], ← hg]
    clear hmk e2 hg
    generalize w1.alloc (.cells C 5) = w2 at *
    go_loopw [8] (fun i wr => ∃ k : Nat, k ≤ b.length ∧ i = .int .i64 k ∧ Hid (wr.heap[g]? = some (.cells (u8s (b.take k ++ List.replicate (64 - k) 0)).toArray 5 (0, 0)) ∧ Only (fun _ => False) w1 wr)) (fun i _ => b.length - (intOf i).toNat)
    case atStart => exact ⟨0, Nat.zero_le _, rfl, HS0⟩
    case round =>
      clear HS0
      obtain ⟨k, hk, rfl, HQ⟩ := hrel
      by_cases hlt : k < b.length
      · obtain ⟨gb, off, rfl, hcb⟩ := (HV1.out.keep HQ.out.2).cell hlt
        have hltI : (k : Int) < (b.length : Int) := by omega
        have hk0 : (0 : Int) ≤ (k : Int) := by omega
        have hb64 := HB.out
        have hk64 : (k : Int) < 64 := by omega
        have hgk := HQ.out.1
        have hsz : (u8s (b.take k ++ List.replicate (64 - k) 0)).toArray.size = 64 := by simp [u8s_length]; omega
        have hcf : wr.frozen? ⟨g, k, none⟩ = false := by simp [World.frozen?, hgk]
        have hcc : wr.cell? ⟨g, k, none⟩ = some ((u8s (b.take k ++ List.replicate (64 - k) 0)).toArray[k]'(by omega)) := by
          simp only [World.cell?, hgk]
          rw [if_neg (by simp), Array.getElem?_eq_getElem]
        have HN : Hid ((wr.setCell ⟨g, k, none⟩ (.int .u8 (b.getD k 0).toNat)).heap[g]? = some (.cells (u8s (b.take (k + 1) ++ List.replicate (64 - (k + 1)) 0)).toArray 5 (0, 0)) ∧ Only (fun _ => False) w1 (wr.setCell ⟨g, k, none⟩ (.int .u8 (b.getD k 0).toNat))) := Lib.hid (by
          refine ⟨?_, HQ.out.2.setCell (fun h => by have := HG.out; simp at h; omega) _⟩
          rw [heap_set hgk, ← pad_step b hlt hb64]
          congr 2
          apply Array.toList_inj.1
          simp [u8s, List.map_set])
        obtain ⟨x, hx⟩ : ∃ x, x = (b.getD k 0).toNat := ⟨_, rfl⟩
        rw [← hx] at HN hcb
        generalize ((u8s (b.take k ++ List.replicate (64 - k) 0)).toArray[k]'(by omega)) = u0 at hcc
        clear HQ hgk hsz hb64 hx
        go_wp2_with fail
        go_roundw
        case rel => exact ⟨k + 1, by omega, by go_num, HN⟩
        case measure => simp [intOf]; omega
      · obtain rfl : k = b.length := by omega
        have HP : Hid (HasB wr g (pad b)) := Lib.hid ⟨by have := HQ.out.1; rwa [List.take_length] at this, pad_length HB.out⟩
        have HO2 := Lib.hid HQ.out.2
        clear HQ hlt hk
        have hmr : RefM wr r gk gs ck cs vw f1 false D.wr D.sy D.n D.W.length kb sb wb := HM1.out.keep (fun k hk => HO2.out.block k (HM1.out.lt hk) (fun h => h))
        have hd1 := hmr.cell 1
        simp only [List.getElem?_toArray, List.getElem?_cons_succ, List.getElem?_cons_zero] at hd1
        have hds := hmr.seenCell hi
        obtain ⟨hms, hfs⟩ := hmr.putSeen hi g
        have hos := (HO1.out.trans HO2.out (fun _ _ h => h.elim)).setCell (p := ⟨gs, i, none⟩) (fun _ => .inr (.inr (.inl rfl))) (sl64 g)
        have hps : HasB (wr.setCell ⟨gs, i, none⟩ (sl64 g)) g (pad b) := HP.out.hold hmr ((Only.refl _ wr).setCell (p := ⟨gs, i, none⟩) (fun _ => .inr (.inr (.inl rfl))) (sl64 g))
        have HMS := Lib.hid hms
        have HOS := Lib.hid hos
        have HPS := Lib.hid hps
        rw [sl64] at HMS HOS HPS
        clear hms hos hps hmr HP HO2
        go_upto_region 16 with fail
        clear hd1 hds hfs
        obtain ⟨w3, hw3⟩ : ∃ w3, w3 = wr.setCell ⟨gs, i, none⟩ (.slice (some ⟨g, 0, none⟩) 64 64) := ⟨_, rfl⟩
        rw [← hw3] at HMS HOS HPS ⊢
        clear hw3
        have hc2 := HMS.out.cell 2
        simp only [List.getElem?_toArray, List.getElem?_cons_succ, List.getElem?_cons_zero] at hc2
        have hbs := fun w => run_buildSlice_one (P := Try.prog) w 63 102 _ 2 Try.underlying63 Try.infoPut rfl (by decide) (by decide) #[.int .i64 i, .slice (some ⟨g, 0, none⟩) 64 64] rfl
        obtain ⟨i0, hi0, hz0, hz1, hz2⟩ := info_parts Try.infoPut3
        have HBP := Lib.hid (built_put i g)
        have HRW := Lib.hid (HMS.out.row.alloc (.cells #[.int .i64 i, .slice (some ⟨g, 0, none⟩) 64 64] 102))
        go_upto_region 17 with (first | (refine wpList_build_two rfl 102 0 1 (.tmp 78) (.tmp 79) rfl (.int .i64 i) (.slice (some ⟨g, 0, none⟩) 64 64) rfl rfl #[.int .i64 i, .slice (some ⟨g, 0, none⟩) 64 64] HBP.out ?_) | (at_builtin; refine wpList_append_lies _ rfl (.tmp 77) (.tmp 81) 63 rfl 0 102 i0 _ 2 32 Try.underlying63 hi0 hz0 hz1 hz2 rfl (by decide) vw D.W.length (wputs wb) rfl HRW.out ⟨w3.heap.size, 0, none⟩ 1 1 [.int .i64 i, .slice (some ⟨g, 0, none⟩) 64 64] rfl rfl (World.news_of_block (heap_alloc_new w3 _)) ?_ Nat.zero_lt_one ?_ ?_ (Nat.zero_le _) (w3.heap.size + 1) ?_ ?_))
        · intro u hu
          rcases List.mem_cons.1 hu with rfl | hu
          · rfl
          · rw [List.mem_singleton.1 hu]; rfl
        · unfold maxLen; omega
        · omega
        · simp
        intro gw capw w5 hown hgrow hat hlt5
        rw [← wputs_snoc] at hown
        have hol : Only (fun k => vw.ownBlock = some k) w3 w5 := (((Only.refl (fun _ => False) w3).alloc (.cells #[.int .i64 i, .slice (some ⟨g, 0, none⟩) 64 64] 102)).mono (fun _ _ h => h.elim)).grown hgrow (fun k _ e => e)
        have hvo : ∀ k, (Value.slice (some ⟨gw, 0, none⟩) (D.W.length + 1) capw).ownBlock = some k → vw.ownBlock = some k ∨ w3.heap.size ≤ k := fun k e => by
          simp [Value.ownBlock] at e
          subst e
          rcases hat with h | h
          · exact .inl h
          · exact .inr (by omega)
        obtain ⟨hm5, hc5, hf5⟩ := HMS.out.waits (i, g) hown hol hvo
        have ho5 : Only (RCore r gk gs vw) w3 (w5.setCell ⟨r, 2, none⟩ (.slice (some ⟨gw, 0, none⟩) (D.W.length + 1) capw)) := (hol.mono (fun k _ e => .inr (.inr (.inr e)))).setCell (fun _ => .inl rfl) _
        have hp5 := HPS.out.hold HMS.out ho5
        have hfoot := ref_lay_foot (w := w) (r := r) (gk := gk) (gs := gs) (kb := kb) (sb := sb) (wb := wb) (i := i) (g := g) (vw := vw) (v' := .slice (some ⟨gw, 0, none⟩) (D.W.length + 1) capw) (fun k e => (hvo k e).imp (fun h => h) (fun h => Nat.le_trans HOS.out.size h)) (by rw [HG.out]; exact HO1.out.size)
        have HFT := Lib.hid hfoot
        have HM5 := Lib.hid hm5
        have HO5 := Lib.hid (HOS.out.trans ho5 (fun _ _ h => h))
        have HP5 := Lib.hid hp5
        clear hown hgrow hat hlt5 hol hvo hm5 ho5 hp5 hfoot hbs HRW HBP hi0 hz0 hz1 hz2 HMS HPS hc2
        go_upto_region 17 with fail
        clear hc5 hf5
        generalize w5.setCell ⟨r, 2, none⟩ (.slice (some ⟨gw, 0, none⟩) (D.W.length + 1) capw) = w6 at *
        have hc6 := HM5.out.cell 5
        simp only [List.getElem?_toArray, List.getElem?_cons_succ, List.getElem?_cons_zero] at hc6
        have hf6 := HM5.out.free 5
        have HM7 := Lib.hid (HM5.out.set (f' := f1) (dn' := false) (wr' := D.wr + 1) (sy' := D.sy) 5 (.int .i64 ((D.wr : Int) + 1)) rfl)
        have ho7 : Only (RCore r gk gs (.slice (some ⟨gw, 0, none⟩) (D.W.length + 1) capw)) w6 (w6.setCell ⟨r, 5, none⟩ (.int .i64 ((D.wr : Int) + 1))) := (Only.refl _ w6).setCell (fun _ => .inl rfl) _
        have HP7 := Lib.hid (HP5.out.hold HM5.out ho7)
        have HO7 := Lib.hid (HO5.out.setCell (p := ⟨r, 5, none⟩) (fun _ => .inl rfl) (.int .i64 ((D.wr : Int) + 1)))
        clear ho7
        go_wp2_with fail
        go_ret
        exact ⟨rfl, ⟨_, _, _, _, ref_lay H.out hi (pad_length HB.out) HDN.out HF1.out HFR.out HM7.out HO7.out HP7.out, HFT.out⟩, HO7.out⟩

end Go.Proofs.Ytbimhiffcdhcaaa

namespace Go.Proofs.Ytbimhiffcdhcaaa
open Go Go.RowKit
set_option linter.unusedVariables false
set_option linter.unusedSimpArgs false
set_option maxRecDepth 100000

theorem wputs_at : ∀ (L : List (Nat × Nat)) (j : Nat), j < L.length → (wputs L)[j * 2]? = some (.int .i64 (L.getD j default).1) ∧ (wputs L)[j * 2 + 1]? = some (sl64 (L.getD j default).2)
  | [], j, h => by simp at h
  | x :: L, 0, h => by simp [wputs]
  | x :: L, j + 1, h => by
    have := wputs_at L j (by simpa using h)
    have e : wputs (x :: L) = .int .i64 x.1 :: sl64 x.2 :: wputs L := by simp [wputs]
    rw [e, show (j + 1) * 2 = j * 2 + 1 + 1 by omega]
    simpa using this
theorem RefM.waitCell {w : World} {r gk gs ck cs : Nat} {vw : Value} {f : Int} {dn : Bool} {wr sy n m : Nat} {kb sb : List Nat} {wb : List (Nat × Nat)} (h : RefM w r gk gs ck cs vw f dn wr sy n m kb sb wb) {j : Nat} (hj : j < m) :
    ∃ gw cap, vw = .slice (some ⟨gw, 0, none⟩) m cap ∧ w.cell? ⟨gw, j * 2, none⟩ = some (.int .i64 (wb.getD j default).1) ∧ w.cell? ⟨gw, j * 2 + 1, none⟩ = some (sl64 (wb.getD j default).2) := by
  obtain ⟨h1, h2⟩ := wputs_at wb j (by rw [h.lw]; exact hj)
  have hrow := h.row
  rcases hrow.2 with ⟨_, e⟩ | ⟨gw, cap, cur, rfl, _⟩
  · omega
  · exact ⟨gw, cap, rfl, by rw [hrow.cellAt (j * 2) (by omega)]; exact h1, by rw [hrow.cellAt (j * 2 + 1) (by omega)]; exact h2⟩
theorem chosen_enough : ∀ (W : List (Nat × List UInt8)) (keep : List Int) (j : Nat), keep.length ≤ j → chosen (W.take j) keep = chosen W keep
  | [], keep, j, h => by simp
  | x :: W, [], j, h => by simp [chosen]
  | x :: W, z :: keep, 0, h => by simp at h
  | x :: W, z :: keep, j + 1, h => by
    have := chosen_enough W keep j (by simpa using h)
    simp only [chosen] at this
    simp only [chosen, List.take_succ_cons, List.zip_cons_cons, List.filterMap_cons, this]

/-- What is kept, while a Crash goes over what waits. -/
def KeptAs (w : World) (n : Nat) (kb : List Nat) (K : List UInt8) : Prop := kb.length = n ∧ K.length = n * 64 ∧ ∀ q, q < n → HasB w (kb.getD q 0) (sec K q)
theorem KeptAs.lay {w : World} {n q g : Nat} {kb : List Nat} {K s : List UInt8} (h : KeptAs w n kb K) (hq : q < n) (hg : HasB w g s) : KeptAs w n (kb.set q g) (put K q s) := by
  obtain ⟨h1, h2, h3⟩ := h
  refine ⟨by simpa using h1, put_length h2 hq hg.2, fun j hj => ?_⟩
  by_cases e : j = q
  · subst e
    rw [sec_put_same h2 hq hg.2, show (kb.set j g).getD j 0 = g by simp [List.getD_eq_getElem?_getD, h1, hq]]
    exact hg
  · rw [sec_put_other h2 hq hg.2 e, show (kb.set q g).getD j 0 = kb.getD j 0 by simp [List.getD_eq_getElem?_getD, List.getElem?_set_ne (Ne.symm e)]]
    exact h3 j hj

theorem ref_crashed {w w' : World} {r gk gs ck cs : Nat} {vw : Value} {f : Int} {kb sb kb' : List Nat} {wb : List (Nat × Nat)} {D : DS} {n wrn sy : Nat} {keep : List Int} (h : RefAt w r gk gs ck cs vw f kb sb wb D) (hcoh : Coh D) (en : n = D.n) (ew : wrn = D.wr) (es : sy = D.sy)
    (hm : RefM w' r gk gs ck cs (.slice none 0 0) (-1) false wrn sy n 0 kb' kb' []) (ho : Only (RCore r gk gs vw) w w') (hK : KeptAs w n kb' (lays D.K (chosen D.W keep))) : RefAt w' r gk gs ck cs (.slice none 0 0) (-1) kb' kb' [] (D.crash keep) := by
  subst en ew es
  have hN := hcoh.crashed h.ok keep
  refine ⟨⟨h.ok.n, ?_, hK.2.1, (fun x hx => by cases hx), show (-9223372036854775808 : Int) ≤ -1 ∧ (-1 : Int) ≤ 9223372036854775807 from ⟨by decide, by decide⟩⟩, hm, fun _ => rfl, fun j hj => (hK.2.2 j hj).hold h.m ho, fun j hj => ?_, (fun j hj => by cases hj)⟩
  · rw [hN]; exact hK.2.1
  · rw [hN]; exact (hK.2.2 j hj).hold h.m ho

set_option maxRecDepth 100000 in
set_option maxHeartbeats 2000000 in
theorem ref_crash {w : World} {r gk gs ck cs : Nat} {vw : Value} {f : Int} {kb sb : List Nat} {wb : List (Nat × Nat)} {D : DS} (h : RefAt w r gk gs ck cs vw f kb sb wb D) (hcoh : Coh D) (ko : Option Addr) (kc : Nat) (keep : List Int) (hk : SlIO w (RCore r gk gs vw) ko keep) (hW : D.W.length ≤ 1000000) :
    Calls Try.prog 33 #[.pointer (some ⟨r, 0, none⟩), .slice ko keep.length kc] w fun e w' => e = .returned (.tuple #[]) ∧
      (∃ kb', RefAt w' r gk gs ck cs (.slice none 0 0) (-1) kb' kb' [] (D.crash keep) ∧ ∀ k, k ∈ kb' → RFoot r gk gs vw kb sb wb k) ∧ Only (RCore r gk gs vw) w w' := by
  have H := Lib.hid h
  have HK := Lib.hid hk
  have HC := Lib.hid hcoh
  have hm := h.m
  have hn := h.ok.n
  have hK0 : KeptAs w D.n kb (lays D.K (chosen (D.W.take 0) keep)) ∧ ∀ k, k ∈ kb → RFoot r gk gs vw kb sb wb k := ⟨⟨hm.lk, h.ok.K, h.hk⟩, fun k hk => .inr (.inr (.inr (.inr (.inl hk))))⟩
  clear h hk hcoh
  obtain ⟨n, en⟩ : ∃ n, n = D.n := ⟨_, rfl⟩
  obtain ⟨m, em⟩ : ∃ m, m = D.W.length := ⟨_, rfl⟩
  obtain ⟨sy, es⟩ : ∃ sy, sy = D.sy := ⟨_, rfl⟩
  obtain ⟨wrn, ew⟩ : ∃ wrn, wrn = D.wr := ⟨_, rfl⟩
  obtain ⟨dn, ed⟩ : ∃ dn, dn = D.down := ⟨_, rfl⟩
  rw [← en] at hm hn hK0
  rw [← em, ← es, ← ew, ← ed] at hm
  rw [← em] at hW
  have EN := Lib.hid en
  have EM := Lib.hid em
  have ES := Lib.hid es
  have EW := Lib.hid ew
  clear en em es ew ed
  have HM0 := Lib.hid hm
  have HK0 := Lib.hid hK0
  clear hm hK0
  go_enter Try.func33, Try.ntmps33
  go_wp2_with fail
  go_loopw [4] (fun i wr => ∃ (j : Nat) (kb' : List Nat), j ≤ m ∧ i = .int .i64 j ∧ Hid (RefM wr r gk gs ck cs vw f dn wrn sy n m kb' sb wb ∧ Only (RCore r gk gs vw) w wr) ∧ Hid (KeptAs w n kb' (lays D.K (chosen (D.W.take j) keep)) ∧ ∀ k, k ∈ kb' → RFoot r gk gs vw kb sb wb k)) (fun i _ => m - (intOf i).toNat)
  case atStart => exact ⟨0, kb, Nat.zero_le _, rfl, Lib.hid ⟨HM0.out, Only.refl _ _⟩, HK0⟩
  case round =>
    clear HM0 HK0
    obtain ⟨j, kb', hj, rfl, HM, HQ⟩ := hrel
    have hc2 := HM.out.1.cell 2
    simp only [List.getElem?_toArray, List.getElem?_cons_succ, List.getElem?_cons_zero] at hc2
    by_cases hlt : j < m
    · obtain ⟨gw, cap, rfl, hw1, hw2⟩ := HM.out.1.waitCell hlt
      have hltI : (j : Int) < (m : Int) := by omega
      have hj0 : (0 : Int) ≤ (j : Int) := by omega
      have hj' : j < D.W.length := by rw [← EM.out]; exact hlt
      have HLT := Lib.hid (lays_chosen_take D.K D.W keep hj')
      by_cases hkj : j < keep.length
      · have hkjI : (j : Int) < (keep.length : Int) := by omega
        obtain ⟨kg, koff, rfl, hck⟩ := HK.out.at' HM.out.2 hkj
        have hkb : keptAt keep j = oddZ (keep.getD j 0) := by rw [keptAt, decide_eq_true hkj]; rfl
        obtain ⟨z, hz⟩ : ∃ z, z = keep.getD j 0 := ⟨_, rfl⟩
        rw [← hz] at hck hkb
        clear hz
        by_cases hodd : z.tmod 2 = 0
        · have HLT' : Hid (lays D.K (chosen (D.W.take (j + 1)) keep) = lays D.K (chosen (D.W.take j) keep)) := Lib.hid (by rw [HLT.out, hkb]; simp [oddZ, hodd])
          have HQ2 : Hid (KeptAs w n kb' (lays D.K (chosen (D.W.take (j + 1)) keep)) ∧ ∀ k, k ∈ kb' → RFoot r gk gs (.slice (some ⟨gw, 0, none⟩) m cap) kb sb wb k) := Lib.hid (by rw [HLT'.out]; exact HQ.out)
          clear HQ HLT HLT' hkb hw1 hw2
          go_wp2_with fail
          go_roundw
          case rel => exact ⟨j + 1, kb', by omega, by go_num, HM, HQ2⟩
          case measure => simp [intOf]; omega
        · obtain ⟨hq1, hq2⟩ := H.out.hw j hj'
          have hx := (H.out.ok.W _ (List.getElem_mem hj')).1
          have eW : D.W.getD j default = D.W[j] := by simp [List.getD_eq_getElem?_getD, hj']
          rw [eW] at hq1 hq2
          rw [← EN.out, ← hq1] at hx
          obtain ⟨q, hq⟩ : ∃ q, q = (wb.getD j default).1 := ⟨_, rfl⟩
          obtain ⟨B, hB⟩ : ∃ B, B = (wb.getD j default).2 := ⟨_, rfl⟩
          rw [← hq] at hx hq1 hw1
          rw [← hB] at hw2 hq2
          have HQ2 : Hid (KeptAs w n (kb'.set q B) (lays D.K (chosen (D.W.take (j + 1)) keep)) ∧ ∀ k, k ∈ kb'.set q B → RFoot r gk gs (.slice (some ⟨gw, 0, none⟩) m cap) kb sb wb k) := Lib.hid (by
            rw [HLT.out, hkb, show oddZ z = true by simp [oddZ, hodd], if_pos rfl, ← hq1]
            refine ⟨HQ.out.1.lay hx hq2, fun k hk => ?_⟩
            rcases List.mem_or_eq_of_mem_set hk with h | rfl
            · exact HQ.out.2 k h
            · exact .inr (.inr (.inr (.inr (.inr (.inr (by rw [hB]; exact List.mem_map.2 ⟨_, mem_at (by rw [HM.out.1.lw]; exact hlt), rfl⟩)))))))
          obtain ⟨hm2, hfz⟩ := HM.out.1.putKept hx B
          have hdq := HM.out.1.keptCell hx
          have hc0 := HM.out.1.cell 0
          simp only [List.getElem?_toArray, List.getElem?_cons_succ, List.getElem?_cons_zero] at hc0
          have HM2 := Lib.hid hm2
          have HO2 := Lib.hid (HM.out.2.setCell (p := ⟨gk, q, none⟩) (fun _ => .inr (.inl rfl)) (sl64 B))
          rw [sl64] at hw2 HM2 HO2
          have hqI : (q : Int) < (n : Int) := by omega
          have hq0 : (0 : Int) ≤ (q : Int) := by omega
          clear HQ HLT hkb hq hB hq1 hq2 hm2 HM eW
          go_upto_region 4 with fail
          go_region
          all_goals
            go_wp2
            go_roundw
            case rel => exact ⟨j + 1, kb'.set q B, by omega, by go_num, Lib.hid ⟨HM2.out.keep (fun _ _ => rfl), HO2.out.drew⟩, HQ2⟩
            case measure => simp [intOf]; omega
      · have HKA : Hid (KeptAs w n kb' (lays D.K (chosen D.W keep)) ∧ ∀ k, k ∈ kb' → RFoot r gk gs (.slice (some ⟨gw, 0, none⟩) m cap) kb sb wb k) := Lib.hid (by rw [← chosen_enough D.W keep j (by omega)]; exact HQ.out)
        have hkjJ : ¬ (j : Int) < (keep.length : Int) := by omega
        clear HQ HLT hw1 hw2
        have HL := Lib.hid (show sb.length = kb'.length by rw [HM.out.1.ls, HM.out.1.lk])
        have HLs := Lib.hid HM.out.1.ls
        have HLk := Lib.hid HM.out.1.lk
        go_wp2_with fail
        go_loopw [5] (fun i wr2 => ∃ k : Nat, k ≤ n ∧ i = .int .i64 k ∧ Hid (RefM wr2 r gk gs ck cs (.slice (some ⟨gw, 0, none⟩) m cap) f dn wrn sy n m kb' (kb'.take k ++ sb.drop k) wb ∧ Only (RCore r gk gs (.slice (some ⟨gw, 0, none⟩) m cap)) w wr2)) (fun i _ => n - (intOf i).toNat)
        case atStart => exact ⟨0, Nat.zero_le _, rfl, Lib.hid (by simpa using HM.out)⟩
        case round =>
          rename_i wr2 _ _ _ _
          clear HM
          obtain ⟨k, hk, rfl, HM⟩ := hrel
          have hc0 := HM.out.1.cell 0
          have hc1 := HM.out.1.cell 1
          simp only [List.getElem?_toArray, List.getElem?_cons_succ, List.getElem?_cons_zero] at hc0 hc1
          by_cases hlt2 : k < n
          · have hd0 := HM.out.1.keptCell hlt2
            rw [sl64] at hd0
            have hd1 := HM.out.1.seenCell hlt2
            obtain ⟨hm2, hfz⟩ := HM.out.1.putSeen hlt2 (kb'.getD k 0)
            rw [set_take_drop HL.out (by rw [HLs.out]; exact hlt2)] at hm2
            rw [sl64] at hm2
            obtain ⟨b, hb⟩ : ∃ b, b = kb'.getD k 0 := ⟨_, rfl⟩
            rw [← hb] at hm2 hd0
            have HM2 := Lib.hid hm2
            have HO2 := Lib.hid (HM.out.2.setCell (p := ⟨gs, k, none⟩) (fun _ => .inr (.inr (.inl rfl))) (.slice (some ⟨b, 0, none⟩) 64 64))
            have hltI2 : (k : Int) < (n : Int) := by omega
            have hk0 : (0 : Int) ≤ (k : Int) := by omega
            clear hm2 HM hb
            go_upto_region 8 with fail
            go_region
            all_goals
              go_wp2
              go_roundw
              case rel => exact ⟨k + 1, by omega, by go_num, Lib.hid ⟨HM2.out.keep (fun _ _ => rfl), HO2.out.drew⟩⟩
              case measure => simp [intOf]; omega
          · obtain rfl : k = n := by omega
            have hm2 := HM.out.1
            rw [List.take_of_length_le (by rw [HLk.out]; exact Nat.le_refl _), List.drop_of_length_le (by rw [HLs.out]; exact Nat.le_refl _), List.append_nil] at hm2
            have hf2 := hm2.free 2
            have hd2 := hm2.cell 2
            have hm3 := hm2.calm
            have hf4 := hm3.free 4
            have hd4 := hm3.cell 4
            have hm4 := hm3.set (f' := f) (dn' := false) (wr' := wrn) (sy' := sy) 4 (.bool false) rfl
            have hf3 := hm4.free 3
            have hd3 := hm4.cell 3
            simp only [List.getElem?_toArray, List.getElem?_cons_succ, List.getElem?_cons_zero] at hd2 hd3 hd4
            have HM5 := Lib.hid (hm4.set (f' := -1) (dn' := false) (wr' := wrn) (sy' := sy) 3 (.int .i64 (-1)) rfl)
            have HO5 := Lib.hid (((HM.out.2.setCell (p := ⟨r, 2, none⟩) (fun _ => .inl rfl) (.slice none 0 0)).setCell (p := ⟨r, 4, none⟩) (fun _ => .inl rfl) (.bool false)).setCell (p := ⟨r, 3, none⟩) (fun _ => .inl rfl) (.int .i64 (-1)))
            clear hm2 hm3 hm4 HM hlt2 hk
            go_wp2_with fail
            go_end0
            exact ⟨rfl, ⟨kb', ref_crashed H.out HC.out EN.out EW.out ES.out HM5.out HO5.out HKA.out.1, HKA.out.2⟩, HO5.out⟩
    · have HKA : Hid (KeptAs w n kb' (lays D.K (chosen D.W keep)) ∧ ∀ k, k ∈ kb' → RFoot r gk gs vw kb sb wb k) := Lib.hid (by have := HQ.out; rwa [List.take_of_length_le (by rw [← EM.out]; omega)] at this)
      obtain rfl : j = m := by omega
      obtain ⟨ao, cap, rfl⟩ := own_shapeN HM.out.1.row
      clear HQ
      have HL := Lib.hid (show sb.length = kb'.length by rw [HM.out.1.ls, HM.out.1.lk])
      have HLs := Lib.hid HM.out.1.ls
      have HLk := Lib.hid HM.out.1.lk
      go_wp2_with fail
      go_loopw [5] (fun i wr2 => ∃ k : Nat, k ≤ n ∧ i = .int .i64 k ∧ Hid (RefM wr2 r gk gs ck cs (.slice ao j cap) f dn wrn sy n j kb' (kb'.take k ++ sb.drop k) wb ∧ Only (RCore r gk gs (.slice ao j cap)) w wr2)) (fun i _ => n - (intOf i).toNat)
      case atStart => exact ⟨0, Nat.zero_le _, rfl, Lib.hid (by simpa using HM.out)⟩
      case round =>
        rename_i wr2 _ _ _ _
        clear HM
        obtain ⟨k, hk, rfl, HM⟩ := hrel
        have hc0 := HM.out.1.cell 0
        have hc1 := HM.out.1.cell 1
        simp only [List.getElem?_toArray, List.getElem?_cons_succ, List.getElem?_cons_zero] at hc0 hc1
        by_cases hlt2 : k < n
        · have hd0 := HM.out.1.keptCell hlt2
          rw [sl64] at hd0
          have hd1 := HM.out.1.seenCell hlt2
          obtain ⟨hm2, hfz⟩ := HM.out.1.putSeen hlt2 (kb'.getD k 0)
          rw [set_take_drop HL.out (by rw [HLs.out]; exact hlt2)] at hm2
          rw [sl64] at hm2
          obtain ⟨b, hb⟩ : ∃ b, b = kb'.getD k 0 := ⟨_, rfl⟩
          rw [← hb] at hm2 hd0
          have HM2 := Lib.hid hm2
          have HO2 := Lib.hid (HM.out.2.setCell (p := ⟨gs, k, none⟩) (fun _ => .inr (.inr (.inl rfl))) (.slice (some ⟨b, 0, none⟩) 64 64))
          have hltI2 : (k : Int) < (n : Int) := by omega
          have hk0 : (0 : Int) ≤ (k : Int) := by omega
          clear hm2 HM hb
          go_upto_region 8 with fail
          go_region
          all_goals
            go_wp2
            go_roundw
            case rel => exact ⟨k + 1, by omega, by go_num, Lib.hid ⟨HM2.out.keep (fun _ _ => rfl), HO2.out.drew⟩⟩
            case measure => simp [intOf]; omega
        · obtain rfl : k = n := by omega
          have hm2 := HM.out.1
          rw [List.take_of_length_le (by rw [HLk.out]; exact Nat.le_refl _), List.drop_of_length_le (by rw [HLs.out]; exact Nat.le_refl _), List.append_nil] at hm2
          have hf2 := hm2.free 2
          have hd2 := hm2.cell 2
          have hm3 := hm2.calm
          have hf4 := hm3.free 4
          have hd4 := hm3.cell 4
          have hm4 := hm3.set (f' := f) (dn' := false) (wr' := wrn) (sy' := sy) 4 (.bool false) rfl
          have hf3 := hm4.free 3
          have hd3 := hm4.cell 3
          simp only [List.getElem?_toArray, List.getElem?_cons_succ, List.getElem?_cons_zero] at hd2 hd3 hd4
          have HM5 := Lib.hid (hm4.set (f' := -1) (dn' := false) (wr' := wrn) (sy' := sy) 3 (.int .i64 (-1)) rfl)
          have HO5 := Lib.hid (((HM.out.2.setCell (p := ⟨r, 2, none⟩) (fun _ => .inl rfl) (.slice none 0 0)).setCell (p := ⟨r, 4, none⟩) (fun _ => .inl rfl) (.bool false)).setCell (p := ⟨r, 3, none⟩) (fun _ => .inl rfl) (.int .i64 (-1)))
          clear hm2 hm3 hm4 HM hlt2 hk
          go_wp2_with fail
          go_end0
          exact ⟨rfl, ⟨kb', ref_crashed H.out HC.out EN.out EW.out ES.out HM5.out HO5.out HKA.out.1, HKA.out.2⟩, HO5.out⟩

end Go.Proofs.Ytbimhiffcdhcaaa
