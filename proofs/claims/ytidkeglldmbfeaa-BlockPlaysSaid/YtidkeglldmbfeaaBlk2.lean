/-
  Package block's Write.
-/
import Derived.Test.YtidkeglldmbfeaaBlk1
import Derived.Test.YtidkeglldmbfeaaDiskPads
namespace Go.Proofs.Ytidkeglldmbfeaa
open Go Go.RowKit
set_option linter.unusedVariables false
set_option linter.unusedSimpArgs false
set_option maxRecDepth 100000

def pieceN (xs : List UInt8) (j : Nat) : List UInt8 := (xs.drop (j * 50)).take 50
def partAt (id : Nat) (xs : List UInt8) (j : Nat) : Part := ⟨id, j, cntN xs.length, pieceN xs j⟩
/-- The first k sectors of a block are written, as far as the power lasts. -/
def DS.blk (D : DS) (s id : Nat) (xs : List UInt8) : Nat → DS
  | 0 => D
  | k + 1 => (D.blk s id xs k).write ((s + k : Nat) : Int) (partAt id xs k).out
def DS.okB (D : DS) (s : Int) (id n : Nat) : Bool := decide (id ≠ 0) && decide (n ≤ 32768) && decide (0 ≤ s) && decide (s + cntN n ≤ D.n)
def bwR (b : Bool) : Nat := if b then 4 else 0
def DS.bwE (D : DS) (s : Int) (id : Nat) (xs : List UInt8) : Nat := if D.okB s id xs.length then bwR (D.blk s.toNat id xs (cntN xs.length)).down else 1
def DS.bwrite (D : DS) (s : Int) (id : Nat) (xs : List UInt8) : DS := if D.okB s id xs.length then D.blk s.toNat id xs (cntN xs.length) else D

theorem pieceN_length (xs : List UInt8) (j : Nat) : (pieceN xs j).length ≤ 50 := by simp [pieceN]; omega
theorem partAt_ok {id : Nat} {xs : List UInt8} {j : Nat} (hid : id < 18446744073709551616) (hx : xs.length ≤ 32768) (hj : j ≤ 656) : (partAt id xs j).Ok :=
  ⟨hid, by simp only [partAt]; omega, by have := cntN_max hx; simp only [partAt]; omega, pieceN_length xs j⟩
theorem partAt_len (id : Nat) (xs : List UInt8) (j : Nat) : (partAt id xs j).out.length ≤ 64 := by
  rw [Part.out_length]; have := pieceN_length xs j; simp only [partAt]; omega

theorem write_sz (D : DS) (i : Int) (b : List UInt8) : (D.write i b).n = D.n := by
  unfold DS.write DS.lay DS.last
  split
  · rfl
  · split <;> (split <;> (try split <;> (try split <;> rfl)) <;> rfl)
theorem write_few (D : DS) (i : Int) (b : List UInt8) : (D.write i b).W.length ≤ D.W.length + 1 ∧ (D.write i b).wr ≤ D.wr + 1 := by
  have hl : D.last.W = D.W ∧ D.last.wr = D.wr := by
    unfold DS.last
    split
    · exact ⟨rfl, rfl⟩
    · split
      · exact ⟨rfl, rfl⟩
      · split <;> exact ⟨rfl, rfl⟩
  unfold DS.write DS.lay
  split
  · exact ⟨by omega, by omega⟩
  · split
    · simp [hl.1, hl.2]
    · rw [hl.1, hl.2]; exact ⟨by omega, by omega⟩
theorem blk_few (D : DS) (s id : Nat) (xs : List UInt8) (k : Nat) : (D.blk s id xs k).n = D.n ∧ (D.blk s id xs k).W.length ≤ D.W.length + k ∧ (D.blk s id xs k).wr ≤ D.wr + k := by
  induction k with
  | zero => exact ⟨rfl, Nat.le_refl _, Nat.le_refl _⟩
  | succ k ih =>
    obtain ⟨h1, h2, h3⟩ := ih
    have h4 := write_few (D.blk s id xs k) ((s + k : Nat) : Int) (partAt id xs k).out
    refine ⟨(write_sz _ _ _).trans h1, ?_, ?_⟩
    · exact Nat.le_trans h4.1 (by omega)
    · exact Nat.le_trans h4.2 (by omega)
theorem write_here {D : DS} {i : Int} {b : List UInt8} (hi : 0 ≤ i ∧ i < D.n) (hb : b.length ≤ 64) :
    (D.lastB = true → D.wrE i b = 0 ∧ (D.write i b).down = false) ∧ (D.lastB = false → D.wrE i b = 4 ∧ (D.write i b).down = true) := by
  have e0 : (!D.has i || decide (64 < b.length)) = false := by simp [DS.has, hi]; omega
  refine ⟨fun h => ?_, fun h => ?_⟩
  · have hd : D.down = false := by cases hd : D.down <;> simp [DS.lastB, hd] at h ⊢
    have hf : (D.fuse == 0) = false := by cases hf : (D.fuse == 0) <;> simp [DS.lastB, hf] at h ⊢
    refine ⟨by simp [DS.wrE, e0, h], ?_⟩
    simp only [DS.write, e0, h, DS.lay, DS.last, hd, hf]
    simp
    split <;> first | exact hd | rfl
  · refine ⟨by simp [DS.wrE, e0, h], ?_⟩
    simp only [DS.write, e0, h]
    simp
    unfold DS.last
    cases hd : D.down
    · have hf : (D.fuse == 0) = true := by cases hf : (D.fuse == 0) <;> simp [DS.lastB, hf, hd] at h ⊢
      simp [hf]
    · simp [hd]
theorem write_down {D : DS} (hd : D.down = true) (i : Int) (b : List UInt8) : D.write i b = D := by
  have hl : D.lastB = false := by simp [DS.lastB, hd]
  unfold DS.write
  split
  · rfl
  · rw [hl]; simp [DS.last, hd]
theorem blk_down {D : DS} {s id : Nat} {xs : List UInt8} {k : Nat} (h : (D.blk s id xs k).down = true) (j : Nat) : D.blk s id xs (k + j) = D.blk s id xs k := by
  induction j with
  | zero => rfl
  | succ j ih =>
    show (D.blk s id xs (k + j)).write _ _ = _
    rw [ih]
    exact write_down h _ _

theorem OwnB.apart {w : World} {v : Value} {xs : List UInt8} {J : Res} {F B : Nat → Prop} (hJ : Sep (OwnB v xs) J w B) (hd : ∀ k, F k → ¬ B k) : SlO w F v xs := by
  obtain ⟨A, C, hA, hC, hac, hB⟩ := hJ
  refine ⟨(own_toB hA.1).toC, fun a n c e hx hk => ?_⟩
  exact hd _ hk ((hB _).2 (.inl ((hA.2 _).2 (by rw [e]; rfl))))
theorem ownB_of {w : World} {b : Nat} {v : Value} {xs : List UInt8} (h : w.ownsRow b 5 1 v xs.length (u8s xs)) : OwnB v xs w (fun k => v.ownBlock = some k) :=
  ⟨own_base h (Nat.zero_le _), fun _ => Iff.rfl⟩
theorem SlC.sub {w : World} {vo : Option Addr} {n vc : Nat} {xs : List UInt8} (h : SlC w (.slice vo n vc) xs) {a : Nat} (ha : a < xs.length) :
    ∃ g off, vo = some ⟨g, off, none⟩ ∧ ∀ m c, m = ((xs.drop a).take 50).length → SlC w (.slice (some ⟨g, off + a, none⟩) m c) ((xs.drop a).take 50) := by
  rcases h with ⟨e, rfl⟩ | ⟨ad, cap, e, hc⟩
  · simp at ha
  · simp at e
    obtain ⟨rfl, rfl, rfl⟩ := e
    have h0 := hc 0 (by omega)
    obtain ⟨g, off, spot⟩ := ad
    have hspot : spot = none := by simpa [Addr.add] using World.cell?_spot h0
    subst hspot
    refine ⟨g, off, rfl, fun m c hm => .inr ⟨⟨g, off + a, none⟩, c, by rw [hm], fun j hj => ?_⟩⟩
    rw [add_lit]
    have hj' : j < 50 ∧ a + j < xs.length := by simp at hj; omega
    have := hc (a + j) hj'.2
    rw [add_lit] at this
    rw [Nat.add_assoc, this]
    congr 3
    simp [List.getD_eq_getElem?_getD, List.getElem?_take, hj'.1]

/-- Write refuses. -/
theorem blk_write_nil (s : Int) (id : Nat) (v : Value) (w : World) :
    Calls Try.prog 33 #[.pointer none, .int .i64 s, .int .u64 id, v] w fun e w' => e = .returned (.int .i64 11) ∧ w = w' := by
  go_enter Try.func33, Try.ntmps33
  go_wp2
  go_ret
  exact ⟨rfl, rfl⟩

set_option maxHeartbeats 1000000 in
theorem blk_write_arg {w : World} {p gn gk : Nat} {vw : Value} {D : DS} (hD : DiskAt w p gn gk vw D) (s : Int) (hs : -9223372036854775808 ≤ s ∧ s ≤ 9223372036854775807) (id : Nat) (vo : Option Addr) (n vc : Nat) (hn : n ≤ 4611686018427387904)
    (hb : D.okB s id n = false) :
    Calls Try.prog 33 #[.pointer (some ⟨p, 0, none⟩), .int .i64 s, .int .u64 id, .slice vo n vc] w fun e w' => e = .returned (.int .i64 1) ∧ w = w' := by
  have hsz := disk_size hD
  have hDn := hD.ok.n
  have HD := Lib.hid hsz
  clear hD hsz
  have hcn := fun (w : World) => count_any (n : Int) (by omega) w
  have HCN := Lib.hid hcn
  clear hcn
  by_cases h0 : id = 0
  · subst h0
    clear hb
    go_enter Try.func33, Try.ntmps33
    go_wp2_with fail
    refine (HCN.out _).mono ?_
    rintro e w' ⟨rfl, rfl⟩
    go_wp2
    go_ret
    exact ⟨rfl, rfl⟩
  · have h0' : ¬ (id : Int) = 0 := by omega
    by_cases h1 : 32768 < n
    · have hc : cnt (n : Int) = 0 := (cnt_zero _).2 (.inr (by omega))
      rw [hc] at HCN
      clear hb hc
      go_enter Try.func33, Try.ntmps33
      go_wp2_with fail
      refine (HCN.out _).mono ?_
      rintro e w' ⟨rfl, rfl⟩
      go_wp2
      go_ret
      exact ⟨rfl, rfl⟩
    · obtain ⟨c, hc⟩ : ∃ c, c = cnt (n : Int) := ⟨_, rfl⟩
      have hc2 : c = cntN n := by rw [hc, cnt_nat (by omega)]
      have hp := cntN_pos n
      have hm := cntN_max (n := n) (by omega)
      rw [← hc2] at hp hm
      rw [← hc] at HCN
      have h2' : ¬ (c : Int) = 0 := by omega
      have h3 : s < 0 ∨ ¬ s < 0 ∧ (D.n : Int) - c < s := by
        simp [DS.okB, h0] at hb
        rw [hc2]
        by_cases hs0 : s < 0
        · exact .inl hs0
        · have := hb (by omega) (by omega)
          exact .inr ⟨hs0, by omega⟩
      clear hb hc hc2
      rcases h3 with h3 | ⟨h3, h4⟩
      · go_enter Try.func33, Try.ntmps33
        go_wp2_with fail
        refine (HCN.out _).mono ?_
        rintro e w' ⟨rfl, rfl⟩
        go_wp2
        go_ret
        exact ⟨rfl, rfl⟩
      · go_enter Try.func33, Try.ntmps33
        go_wp2_with fail
        refine (HCN.out _).mono ?_
        rintro e w' ⟨rfl, rfl⟩
        go_wp2_with fail
        refine HD.out.mono ?_
        rintro e w' ⟨rfl, rfl⟩
        go_wp2
        go_ret
        exact ⟨rfl, rfl⟩

/-- Behind k rounds of Write's loop. -/
def BwI (w0 wr : World) (p : Nat) (D : DS) (s id : Nat) (xs : List UInt8) (J : Res) (k : Nat) : Prop :=
  Own w0 wr (Sep (DiskR p (D.blk s id xs k)) J) ∧ (0 < k → (D.blk s id xs k).down = false)

theorem run_str0 (w : World) (q : Addr) (c : Nat) : (convert 31 9 (.slice (some q) 0 c)).run Try.prog w = .ok (.string ⟨([] : List UInt8).toArray⟩) w :=
  run_strC (xs := []) (.inr ⟨q, c, rfl, fun j hj => by simp at hj⟩)
theorem run_strN (w : World) : (convert 31 9 (.slice none 0 0)).run Try.prog w = .ok (.string ⟨([] : List UInt8).toArray⟩) w :=
  run_strC (xs := []) (.inl ⟨rfl, rfl⟩)

set_option maxHeartbeats 8000000 in
theorem blk_write_go {w0 w : World} {p : Nat} {D : DS} {J : Res} [Stab J] (h : Own w0 w (Sep (DiskR p D) J)) (s id : Nat) (hid : id < 18446744073709551616) (vo : Option Addr) (n vc : Nat) (xs : List UInt8) (hn : n = xs.length)
    (hv : ∀ (w' : World) (B : Nat → Prop), J w' B → Only (fun _ => False) w0 w' → SlC w' (.slice vo n vc) xs) (hc : n ≤ vc) (hW : D.W.length ≤ 900000) (hwr : D.wr ≤ 900000)
    (h0 : id ≠ 0) (hx : n ≤ 32768) (hs : s + cntN n ≤ D.n) :
    Calls Try.prog 33 #[.pointer (some ⟨p, 0, none⟩), .int .i64 s, .int .u64 id, .slice vo n vc] w fun e w' => e = .returned (.int .i64 (bwR (D.blk s id xs (cntN n)).down : Int)) ∧ Own w0 w' (Sep (DiskR p (D.blk s id xs (cntN n))) J) := by
  obtain ⟨gn, gk, vw, hD⟩ := h.disk
  have HSZ := Lib.hid (disk_size hD)
  have hDn := hD.ok.n
  have HCN : Hid (∀ w : World, _) := Lib.hid fun (w : World) => count_any (n : Int) (by omega) w
  rw [cnt_nat hx] at HCN
  obtain ⟨c, hcc⟩ : ∃ c, c = cntN n := ⟨_, rfl⟩
  have hp := cntN_pos n
  have hm := cntN_max hx
  have hft := cntN_fits n
  rw [← hcc] at hp hm HCN hs hft ⊢
  have HCC := Lib.hid hcc
  have HFT := Lib.hid hft
  have HV := Lib.hid hv
  have HB0 : Hid (BwI w0 w p D s id xs J 0) := Lib.hid ⟨h, fun h => by omega⟩
  have HX := Lib.hid hx
  have HID := Lib.hid hid
  have HN := Lib.hid hn
  have HNC := Lib.hid hc
  have HDN := Lib.hid hDn
  have HW := Lib.hid hW
  have HWR := Lib.hid hwr
  have h0' : ¬ (id : Int) = 0 := by omega
  have h2' : ¬ (c : Int) = 0 := by omega
  obtain ⟨z, hz⟩ : ∃ z : Int, z = (s : Int) := ⟨_, rfl⟩
  have h3 : ¬ z < 0 := by omega
  have h4 : ¬ (D.n : Int) - c < z := by omega
  have h5 : ((id : Int) == 0) = false := by simpa using h0'
  have h6 : ((c : Int) == 0) = false := by simpa using h2'
  have h7 : decide (z < 0) = false := by simpa using h3
  have h8 : decide ((D.n : Int) - c < z) = false := by simpa using h4
  have hz0 : 0 ≤ z := by omega
  have hz1 : z ≤ 4096 := by omega
  have HS := Lib.hid hs
  have HM := Lib.hid hm
  have hm1 : (c : Int) ≤ 656 := by omega
  have hdn1 : (D.n : Int) ≤ 4096 := by omega
  rw [← hz]
  have HZ := Lib.hid hz
  clear hD h hcc hft hv hx hid hz hn hc hW hwr hDn hs hm
  go_enter Try.func33, Try.ntmps33
  go_wp2_with fail
  refine (HCN.out _).mono ?_
  rintro e w' ⟨rfl, rfl⟩
  go_wp2_with fail
  refine HSZ.out.mono ?_
  rintro e w' ⟨rfl, rfl⟩
  go_wp2_with fail
  go_loopw [39] (fun i wr => ∃ k : Nat, k ≤ c ∧ i = .int .i64 k ∧ Hid (BwI w0 wr p D s id xs J k)) (fun i _ => c - (intOf i).toNat)
  case atStart => exact ⟨0, Nat.zero_le _, rfl, HB0⟩
  case round =>
    clear HB0
    obtain ⟨k, hk, rfl, HI⟩ := hrel
    by_cases hlt : k < c
    · have hltI : (k : Int) < (c : Int) := by omega
      have hk0 : (0 : Int) ≤ (k : Int) := by omega
      have hk6 : (k : Int) ≤ 656 := by omega
      have HLT := Lib.hid hlt
      clear hlt hk
      go_upto_region 11 with fail
      obtain ⟨a, ha⟩ : ∃ a : Nat, (k : Int) * 50 = a := ⟨k * 50, by omega⟩
      rw [ha]
      have ha' : a = k * 50 := by omega
      clear ha
      obtain ⟨m, hm⟩ : ∃ m : Nat, (if (n : Int) < (a : Int) + 50 then (n : Int) else (a : Int) + 50) = m := by
        by_cases hq : (n : Int) < (a : Int) + 50
        · exact ⟨n, if_pos hq⟩
        · exact ⟨a + 50, if_neg hq⟩
      rw [hm]
      obtain ⟨dt, hdt⟩ : ∃ dt, dt = pieceN xs k := ⟨_, rfl⟩
      have hpl : dt.length = m - a ∧ a ≤ m ∧ m ≤ n ∧ (n ≠ 0 → a < n) := by
        have := HFT.out
        have hn := HN.out
        have hlt := HLT.out
        rw [hdt]
        unfold pieceN
        rw [List.length_take, List.length_drop, ← ha', ← hn]
        by_cases hq : (n : Int) < (a : Int) + 50
        · rw [if_pos hq] at hm; refine ⟨?_, ?_, ?_, ?_⟩ <;> omega
        · rw [if_neg hq] at hm; refine ⟨?_, ?_, ?_, ?_⟩ <;> omega
      have hsl : SlC wr (.slice vo n vc) xs := by
        obtain ⟨F, ⟨A, B, hA, hB, _, _⟩, _, ho⟩ := HI.out.1
        exact HV.out wr B hB ho
      have hthree : (vo = none ∧ vc = 0 ∧ a = 0 ∧ m = 0 ∧ n = 0 ∧ dt = []) ∨ (∃ ad, vo = some ad ∧ a = 0 ∧ m = 0 ∧ n = 0 ∧ dt = []) ∨
          ∃ g off, vo = some ⟨g, off, none⟩ ∧ a < vc ∧ m ≤ vc ∧ SlC wr (.slice (some ⟨g, off + a, none⟩) (m - a) (vc - a)) dt := by
        have hn := HN.out
        have hnc := HNC.out
        have hlt := HLT.out
        by_cases hx0 : n = 0
        · have hc1 : c = 1 := by rw [HCC.out, hx0]; rfl
          have hd : dt = [] := by
            apply List.eq_nil_of_length_eq_zero
            omega
          rcases hsl with ⟨e, _⟩ | ⟨ad, cap, e, _⟩
          · simp at e
            exact .inl ⟨e.1, e.2.2, by omega, by omega, hx0, hd⟩
          · simp at e
            exact .inr (.inl ⟨ad, e.1, by omega, by omega, hx0, hd⟩)
        · rw [hn] at hsl
          obtain ⟨g, off, rfl, hsub⟩ := hsl.sub (a := a) (by have := hpl.2.2.2 hx0; omega)
          refine .inr (.inr ⟨g, off, rfl, by have := hpl.2.2.2 hx0; omega, Nat.le_trans hpl.2.2.1 hnc, ?_⟩)
          rw [hdt]
          have := hsub (m - a) (vc - a) (by have := hpl.1; rw [hdt, pieceN, ← ha'] at this; exact this.symm)
          rw [pieceN, ← ha']
          exact this
      have q1 : a ≤ m := hpl.2.1
      have q4 : (a : Int) ≤ (m : Int) := by omega
      have HDT := Lib.hid hdt
      have hdl : dt.length ≤ 50 := by rw [hdt]; exact pieceN_length xs k
      have HDL := Lib.hid hdl
      clear hpl hsl ha' hm hdt hdl
      have HPB : Hid (∀ w, Calls Try.prog 42 #[.agg #[.int .u64 id, .int .i64 k, .int .i64 c, .string ⟨dt.toArray⟩]] w (ClonePost w (partAt id xs k).out)) := by
        refine Lib.hid fun w => ?_
        rw [HCC.out, HDT.out, HN.out]
        exact part_bytes (partAt id xs k) (partAt_ok HID.out (by have := HX.out; have := HN.out; omega) (by omega)) w
      rcases hthree with ⟨rfl, rfl, rfl, rfl, rfl, rfl⟩ | ⟨ad, rfl, rfl, rfl, rfl, rfl⟩ | ⟨g, off, rfl, q3, q2, hq⟩
      case' inl => have hcv := run_strN wr
      case' inr.inl => have hcv := run_str0 wr
      case' inr.inr =>
        have hcv := run_strC hq
        have q5 : (m : Int) ≤ (vc : Int) := by omega
        clear hq
      all_goals
        go_upto_region 12 with fail
        clear hcv
      all_goals
        go_wp2_with fail
        refine (HPB.out _).mono ?_
        rintro e w1 ⟨r, rfl, hr, ho⟩
        have hown : Own w0 w1 (Sep (DiskR p (D.blk s id xs k)) (Sep (OwnB r (partAt id xs k).out) J)) :=
          ((HI.out.1.quiet ((Only.refl _ wr).alloc _)).fresh ho (ownB_of hr) (fun q hq => (hr.lt q hq).1)).swap
        have hzk : z + (k : Int) = ((s + k : Nat) : Int) := by rw [HZ.out]; omega
        have hfew := blk_few D s id xs k
        have hwh := write_here (D := D.blk s id xs k) (i := ((s + k : Nat) : Int)) (b := (partAt id xs k).out) (by have := HS.out; have := HLT.out; rw [hfew.1]; omega) (partAt_len id xs k)
        have HOWN := Lib.hid hown; clear hown hr ho
        have HZK := Lib.hid hzk; clear hzk
        have HWH := Lib.hid hwh; clear hwh
        have HFW := Lib.hid hfew; clear hfew
        cases hl : (D.blk s id xs k).lastB with
        | true =>
          obtain ⟨e1, e2⟩ := HWH.out.1 hl
          have HE1 := Lib.hid e1
          have HE2 := Lib.hid e2
          clear e1 e2 hl
          go_wp2_with fail
          rw [HZK.out]
          refine (own_write HOWN.out ((s + k : Nat) : Int) r (partAt id xs k).out (fun F B hJ hd _ _ => OwnB.apart hJ hd) (by have := HFW.out; have := HW.out; have := HLT.out; omega) (by have := HFW.out; have := HWR.out; have := HLT.out; omega)).mono ?_
          rintro e w2 ⟨rfl, h2⟩
          rw [HE1.out]
          have HN2 : Hid (BwI w0 w2 p D s id xs J (k + 1)) := Lib.hid ⟨h2.drop2, fun _ => HE2.out⟩
          clear h2 HOWN HI
          go_wp2
          go_roundw
          case rel => first | exact ⟨k + 1, HLT.out, by go_num, HN2⟩ | ((repeat apply Exists.intro); exact ⟨⟨k + 1, HLT.out, by go_num, HN2⟩, rfl⟩)
          case measure => have := HLT.out; simp [intOf]; omega
        | false =>
          obtain ⟨e1, e2⟩ := HWH.out.2 hl
          have HE1 := Lib.hid e1
          have HE2 := Lib.hid e2
          clear e1 e2 hl
          go_wp2_with fail
          rw [HZK.out]
          refine (own_write HOWN.out ((s + k : Nat) : Int) r (partAt id xs k).out (fun F B hJ hd _ _ => OwnB.apart hJ hd) (by have := HFW.out; have := HW.out; have := HLT.out; omega) (by have := HFW.out; have := HWR.out; have := HLT.out; omega)).mono ?_
          rintro e w2 ⟨rfl, h2⟩
          rw [HE1.out]
          have HN2 := Lib.hid h2.drop2
          clear h2 HOWN HI
          have hbc : D.blk s id xs c = D.blk s id xs (k + 1) := by
            have := blk_down (k := k + 1) HE2.out (c - (k + 1))
            rwa [show k + 1 + (c - (k + 1)) = c by have := HLT.out; omega] at this
          have HBC := Lib.hid hbc; clear hbc
          go_wp2
          go_ret
          rw [HBC.out, show (D.blk s id xs (k + 1)).down = true from HE2.out]
          exact ⟨rfl, HN2.out⟩
    · have hkc : k = c := by omega
      subst hkc
      have hltI : ¬ (k : Int) < (k : Int) := by omega
      go_wp2
      go_ret
      rw [HI.out.2 (by omega)]
      exact ⟨rfl, HI.out.1⟩

/-- Write, whatever it is asked. -/
theorem own_bwrite {w0 w : World} {p : Nat} {D : DS} {J : Res} [Stab J] (h : Own w0 w (Sep (DiskR p D) J)) (s : Int) (hs : -9223372036854775808 ≤ s ∧ s ≤ 9223372036854775807) (id : Nat) (hid : id < 18446744073709551616) (v : Value) (xs : List UInt8)
    (hv : ∀ (w' : World) (B : Nat → Prop), J w' B → Only (fun _ => False) w0 w' → SlB w' v xs ∨ ∃ ao c, v = .slice ao xs.length c ∧ xs.length ≤ c ∧ SlC w' v xs) (hlen : xs.length ≤ 4611686018427387904) (hW : D.W.length ≤ 900000) (hwr : D.wr ≤ 900000) :
    Calls Try.prog 33 #[.pointer (some ⟨p, 0, none⟩), .int .i64 s, .int .u64 id, v] w fun e w' => e = .returned (.int .i64 (D.bwE s id xs)) ∧ Own w0 w' (Sep (DiskR p (D.bwrite s id xs)) J) := by
  have hsl : ∀ (w' : World) (B : Nat → Prop), J w' B → Only (fun _ => False) w0 w' → SlC w' v xs := fun w' B hB ho => by
    rcases hv w' B hB ho with h | ⟨_, _, _, _, h⟩
    · exact h.toC
    · exact h
  obtain ⟨vo, vc, rfl, hvc⟩ : ∃ vo vc, v = .slice vo xs.length vc ∧ xs.length ≤ vc := by
    have h' := h
    obtain ⟨F, ⟨A, B, hA, hB, _, _⟩, _, ho⟩ := h'
    rcases hv w B hB ho with h | ⟨ao, c, rfl, hc, _⟩
    · obtain ⟨ao, c, e, h1, _⟩ := h.shape
      exact ⟨ao, c, e, h1⟩
    · exact ⟨ao, c, rfl, hc⟩
  cases hb : D.okB s id xs.length with
  | false =>
    obtain ⟨gn, gk, vw, hD⟩ := h.disk
    refine (blk_write_arg hD s hs id vo xs.length vc hlen hb).mono ?_
    rintro e w' ⟨rfl, rfl⟩
    exact ⟨by simp [DS.bwE, hb], by simpa [DS.bwrite, hb] using h⟩
  | true =>
    have hb' := hb
    simp only [DS.okB, Bool.and_eq_true, decide_eq_true_eq] at hb'
    obtain ⟨⟨⟨h1, h2⟩, h3⟩, h4⟩ := hb'
    obtain ⟨s, rfl⟩ := Int.eq_ofNat_of_zero_le h3
    refine (blk_write_go h s id hid vo xs.length vc xs rfl hsl hvc hW hwr h1 h2 (by omega)).mono ?_
    rintro e w' ⟨rfl, hq⟩
    exact ⟨by simp [DS.bwE, hb], by simpa [DS.bwrite, hb] using hq⟩

end Go.Proofs.Ytidkeglldmbfeaa
