/-
  What is read of a block behind what was written: plain lemmas; nothing is walked here.
-/
import Derived.Test.YtidkeglldmbfeaaBlk5
import Derived.Test.YtidkeglldmbfeaaDiskCoh
namespace Go.Proofs.Ytidkeglldmbfeaa
open Go Go.RowKit
set_option linter.unusedVariables false
set_option linter.unusedSimpArgs false
set_option maxRecDepth 100000

theorem part_pad (p : Part) (hp : p.Ok) : pad p.out = beB 8 p.id ++ (beB 2 p.place ++ (beB 2 p.count ++ (beB 2 p.data.length ++ (p.data ++ List.replicate (50 - p.data.length) 0)))) := by
  have h := p.out_length
  unfold pad
  rw [h, show 64 - (14 + p.data.length) = 50 - p.data.length by omega]
  simp [Part.out, txtB]
theorem take_l {α : Type} {l r : List α} {n : Nat} (h : l.length = n) : (l ++ r).take n = l := by subst h; simp
theorem drop_l {α : Type} {l r : List α} {n : Nat} (h : l.length = n) : (l ++ r).drop n = r := by subst h; simp
theorem numB_be' (x k : Nat) (h : x < 256 ^ k) : numB (beB k x) = x := by rw [numB_be, Nat.mod_eq_of_lt h]
theorem part_back (p : Part) (hp : p.Ok) : partOf (pad p.out) = p ∧ okSec (pad p.out) = true := by
  rw [part_pad p hp]
  obtain ⟨id, place, count, data⟩ := p
  obtain ⟨h1, h2, h3, h4⟩ := hp
  simp only at h1 h2 h3 h4 ⊢
  have e8 : ∀ r : List UInt8, (beB 8 id ++ r).drop 8 = r := fun r => drop_l (beB_length 8 id)
  have e10 : ∀ r : List UInt8, (beB 8 id ++ (beB 2 place ++ r)).drop 10 = r := fun r => by
    rw [show (10 : Nat) = 8 + 2 from rfl, ← List.drop_drop, e8]; exact drop_l (beB_length 2 place)
  have e12 : ∀ r : List UInt8, (beB 8 id ++ (beB 2 place ++ (beB 2 count ++ r))).drop 12 = r := fun r => by
    rw [show (12 : Nat) = 10 + 2 from rfl, ← List.drop_drop, e10]; exact drop_l (beB_length 2 count)
  have e14 : ∀ r : List UInt8, (beB 8 id ++ (beB 2 place ++ (beB 2 count ++ (beB 2 data.length ++ r)))).drop 14 = r := fun r => by
    rw [show (14 : Nat) = 12 + 2 from rfl, ← List.drop_drop, e12]; exact drop_l (beB_length 2 _)
  have hk : pkS (beB 8 id ++ (beB 2 place ++ (beB 2 count ++ (beB 2 data.length ++ (data ++ List.replicate (50 - data.length) 0))))) = data.length := by
    unfold pkS
    rw [e12, take_l (beB_length 2 _), numB_be' _ _ (by omega)]
  refine ⟨?_, ?_⟩
  · unfold partOf
    rw [hk, e8, e10, e14, take_l (beB_length 8 id), take_l (beB_length 2 place), take_l (beB_length 2 count), take_l rfl, numB_be' _ _ (by omega), numB_be' _ _ (by omega), numB_be' _ _ (by omega)]
  · unfold okSec
    rw [hk, ← List.drop_drop, e14, drop_l rfl]
    simp [zerosB, h4]

theorem rd_some {D : DS} {s id : Nat} {xs : List UInt8} (hx : xs.length ≤ 32768) (hid : id < 18446744073709551616) (hs : s + cntN xs.length ≤ D.n)
    (h : ∀ j, j < cntN xs.length → sec D.N (s + j) = pad (partAt id xs j).out) : D.rd s id = some xs := by
  obtain ⟨c, hc⟩ : ∃ c, c = cntN xs.length := ⟨_, rfl⟩
  have hp := cntN_pos xs.length
  have hm := cntN_max hx
  obtain ⟨hf1, hf2⟩ := cntN_fits xs.length
  rw [← hc] at hp hm hf1 hf2 hs h
  have hpb : ∀ j, j < c → partOf (sec D.N (s + j)) = partAt id xs j ∧ okSec (sec D.N (s + j)) = true := fun j hj => by
    rw [h j hj]; exact part_back _ (partAt_ok hid hx (by omega))
  have h0 := hpb 0 (by omega)
  rw [Nat.add_zero] at h0
  have hfc : fstC D s = c := by unfold fstC; rw [h0.1, hc]; rfl
  have hacc : ∀ k, k ≤ c → D.rdAcc s id c k = some (xs.take (k * 50)) := fun k => by
    induction k with
    | zero => intro _; simp [DS.rdAcc]
    | succ k ih =>
      intro hk
      obtain ⟨g1, g2⟩ := hpb k (by omega)
      have hl : (xs.take (k * 50)).length = k * 50 := by
        rw [List.length_take]
        by_cases hk0 : k = 0
        · subst hk0; simp
        · have := hf2 (by omega)
          have : k * 50 ≤ 50 * (c - 1) := by have : k ≤ c - 1 := by omega
                                             omega
          omega
      unfold DS.rdAcc
      rw [ih (by omega)]
      simp only
      have hg : D.goodAt s id c k (xs.take (k * 50)) = true := by
        simp only [DS.goodAt, g1, g2, hl, partAt, ← hc, decide_true, Bool.and_true]
        simp; omega
      rw [if_pos hg, g1]
      show some (xs.take (k * 50) ++ pieceN xs k) = _
      rw [pieceN, show (k + 1) * 50 = k * 50 + 50 by omega, List.take_add]
  unfold DS.rd
  rw [h0.2, if_pos rfl, hfc, hacc c (Nat.le_refl _)]
  have ht : xs.take (c * 50) = xs := List.take_of_length_le (by omega)
  rw [ht]
  simp only
  rw [cnt_nat hx, ← hc, if_pos rfl]

theorem rd_none_at {D : DS} {s id j : Nat} (hj : j < fstC D s) (h : ∀ acc, D.goodAt s id (fstC D s) j acc = false) : D.rd s id = none := by
  unfold DS.rd
  split
  · have h1 : D.rdAcc s id (fstC D s) (j + 1) = none := by
      unfold DS.rdAcc
      cases D.rdAcc s id (fstC D s) j with
      | none => rfl
      | some acc => simp [h acc]
    have h2 := rdAcc_none h1 (fstC D s - (j + 1))
    rw [show j + 1 + (fstC D s - (j + 1)) = fstC D s by omega] at h2
    rw [h2]
  · rfl
theorem rd_first {D : DS} {s id : Nat} (h : (partOf (sec D.N s)).id ≠ id ∨ (partOf (sec D.N s)).place ≠ 0) : D.rd s id = none := by
  by_cases h0 : fstC D s = 0
  · unfold DS.rd
    rw [h0]
    split
    · simp only [DS.rdAcc]
      rw [show cnt (([] : List UInt8).length : Int) = 1 by decide]
      rfl
    · rfl
  · refine rd_none_at (j := 0) (by omega) (fun acc => ?_)
    rcases h with h | h
    · simp [DS.goodAt, h]
    · simp [DS.goodAt, h]
theorem rd_zero {D : DS} {s id : Nat} (h : sec D.N s = List.replicate 64 0) (hid : id ≠ 0) : D.rd s id = none := by
  refine rd_first (.inl ?_)
  rw [h]
  have : (partOf (List.replicate 64 0)).id = 0 := by decide
  rw [this]
  exact fun e => hid e.symm

/-- A disk with the power there and no fuse. -/
structure Up3 (D : DS) : Prop where
  d : D.down = false
  f : D.fuse < 0
  n : D.N.length = D.n * 64
theorem Up3.new (n : Nat) : Up3 (DS.new n) := ⟨rfl, (by decide : (-1 : Int) < 0), by simp [DS.new]⟩
def blkW (s id : Nat) (xs : List UInt8) (k : Nat) : List (Nat × List UInt8) := (List.range k).map fun j => (s + j, pad (partAt id xs j).out)
structure BlkR (D : DS) (s id : Nat) (xs : List UInt8) (k : Nat) (E : DS) : Prop where
  up : Up3 E
  n : E.n = D.n
  K : E.K = D.K
  W : E.W = D.W ++ blkW s id xs k
  wr : E.wr = D.wr + k
  sy : E.sy = D.sy
  at' : ∀ i, i < D.n → sec E.N i = if s ≤ i ∧ i < s + k then pad (partAt id xs (i - s)).out else sec D.N i
theorem Up3.blk {D : DS} (h : Up3 D) (s id : Nat) (xs : List UInt8) (k : Nat) (hs : s + k ≤ D.n) : BlkR D s id xs k (D.blk s id xs k) := by
  induction k with
  | zero => exact ⟨h, rfl, rfl, by simp [blkW, DS.blk], rfl, rfl, fun i hi => by rw [if_neg (by omega)]; rfl⟩
  | succ k ih =>
    obtain ⟨u, hn, hK, hW, hwr, hsy, hsec⟩ := ih (by omega)
    have hp := partAt_len id xs k
    have hw := (DS.write_free u.d u.f (i := s + k) (by rw [hn]; omega) hp).1
    have hb : D.blk s id xs (k + 1) = (D.blk s id xs k).lay (s + k) (pad (partAt id xs k).out) := hw
    have hl : (pad (partAt id xs k).out).length = 64 := pad_length hp
    have hNl : (D.blk s id xs k).N.length = (D.blk s id xs k).n * 64 := u.n
    refine ⟨⟨?_, ?_, ?_⟩, ?_, ?_, ?_, ?_, ?_, fun i hi => ?_⟩ <;> rw [hb]
    · exact u.d
    · exact u.f
    · exact put_length (n := (D.blk s id xs k).n) hNl (by rw [hn]; omega) hl
    · exact hn
    · exact hK
    · show (D.blk s id xs k).W ++ _ = _
      rw [hW, blkW, blkW, List.range_succ, List.map_append, List.append_assoc]; rfl
    · show (D.blk s id xs k).wr + 1 = _
      rw [hwr]; omega
    · exact hsy
    · show sec (put (D.blk s id xs k).N (s + k) _) i = _
      by_cases e : i = s + k
      · subst e
        rw [sec_put_same hNl (by rw [hn]; omega) hl, if_pos (by omega), show s + k - s = k by omega]
      · rw [sec_put_other hNl (by rw [hn]; omega) hl e, hsec i hi]
        by_cases h1 : s ≤ i ∧ i < s + k
        · rw [if_pos h1, if_pos (by omega)]
        · rw [if_neg h1, if_neg (by omega)]
theorem Up3.bwrite {D : DS} (h : Up3 D) (s id : Nat) (xs : List UInt8) (hid : id ≠ 0) (hx : xs.length ≤ 32768) (hs : s + cntN xs.length ≤ D.n) :
    D.bwE (s : Int) id xs = 0 ∧ BlkR D s id xs (cntN xs.length) (D.bwrite (s : Int) id xs) := by
  have ho : D.okB (s : Int) id xs.length = true := by simp [DS.okB, hid, hx]; omega
  have hb := h.blk s id xs (cntN xs.length) hs
  refine ⟨?_, ?_⟩
  · simp only [DS.bwE, ho, if_true, Int.toNat_natCast]
    rw [hb.up.d]; rfl
  · simp only [DS.bwrite, ho, if_true, Int.toNat_natCast]
    exact hb
/-- The block that was written is read. -/
theorem BlkR.back {D E : DS} {s id : Nat} {xs : List UInt8} (h : BlkR D s id xs (cntN xs.length) E) (hx : xs.length ≤ 32768) (hid : id < 18446744073709551616) (hs : s + cntN xs.length ≤ D.n) : E.rd s id = some xs :=
  rd_some hx hid (by rw [h.n]; exact hs) fun j hj => by
    rw [h.at' (s + j) (by omega), if_pos (by omega), show s + j - s = j by omega]
/-- A block elsewhere is read as before. -/
theorem BlkR.keeps {D E : DS} {s id : Nat} {xs : List UInt8} {k : Nat} (h : BlkR D s id xs k E) {t id2 : Nat} {ys : List UInt8} (hy : ys.length ≤ 32768) (hid : id2 < 18446744073709551616) (ht : t + cntN ys.length ≤ D.n)
    (hg : ∀ j, j < cntN ys.length → sec D.N (t + j) = pad (partAt id2 ys j).out) (ha : t + cntN ys.length ≤ s ∨ s + k ≤ t) : ∀ j, j < cntN ys.length → sec E.N (t + j) = pad (partAt id2 ys j).out := fun j hj => by
  rw [h.at' (t + j) (by omega), if_neg (by omega)]
  exact hg j hj
theorem BlkR.has {D E : DS} {s id : Nat} {xs : List UInt8} {k : Nat} (h : BlkR D s id xs k E) (hs : s + k ≤ D.n) : ∀ j, j < k → sec E.N (s + j) = pad (partAt id xs j).out := fun j hj => by
  rw [h.at' (s + j) (by omega), if_pos (by omega), show s + j - s = j by omega]

end Go.Proofs.Ytidkeglldmbfeaa
