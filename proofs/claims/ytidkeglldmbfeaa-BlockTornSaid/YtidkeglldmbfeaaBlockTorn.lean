/-
  The walk of the statement BlockTorn.
-/
import Derived.Test.YtidkeglldmbfeaaBlockAlone
import Derived.Test.YtidkeglldmbfeaaCopyInts
namespace Go.Proofs.Ytidkeglldmbfeaa
open Go Go.RowKit
set_option linter.unusedVariables false
set_option linter.unusedSimpArgs false
set_option maxRecDepth 100000

def allK (keep : List Int) (k : Nat) : Bool := (List.range k).all fun j => keptAt keep j
def noneK (keep : List Int) (k : Nat) : Bool := (List.range k).all fun j => !oddZ (keep.getD j 0)
theorem allK_succ (keep : List Int) (k : Nat) : allK keep (k + 1) = (allK keep k && keptAt keep k) := by
  unfold allK; rw [List.range_succ, List.all_append]; simp
theorem noneK_succ (keep : List Int) (k : Nat) : noneK keep (k + 1) = (noneK keep k && !oddZ (keep.getD k 0)) := by
  unfold noneK; rw [List.range_succ, List.all_append]; simp
theorem allK_iff {keep : List Int} {k : Nat} : allK keep k = true ↔ ∀ j, j < k → keptAt keep j = true := by simp [allK]
theorem noneK_iff {keep : List Int} {n : Nat} : noneK keep (min n keep.length) = true ↔ ∀ j, j < n → keptAt keep j = false := by
  simp only [noneK, List.all_eq_true, List.mem_range, keptAt]
  constructor
  · intro h j hj
    by_cases hl : j < keep.length
    · have := h j (by omega)
      simp only [Bool.not_eq_true'] at this
      rw [this]; simp
    · simp [hl]
  · intro h j hj
    have := h j (by omega)
    simp only [show j < keep.length by omega, decide_true, Bool.true_and] at this
    rw [this]; rfl

theorem blk_coh {D : DS} (h : Coh D) (s id : Nat) (xs : List UInt8) (k : Nat) : Coh (D.blk s id xs k) := by
  induction k with
  | zero => exact h
  | succ k ih => exact ih.write _ _
theorem bwrite_coh {D : DS} (h : Coh D) (s : Int) (id : Nat) (xs : List UInt8) : Coh (D.bwrite s id xs) := by
  unfold DS.bwrite
  split
  · exact blk_coh h _ _ _ _
  · exact h
theorem blkW_length (s id : Nat) (xs : List UInt8) (k : Nat) : (blkW s id xs k).length = k := by simp [blkW]
theorem blkW_succ (s id : Nat) (xs : List UInt8) (k : Nat) : blkW s id xs (k + 1) = blkW s id xs k ++ [(s + k, pad (partAt id xs k).out)] := by
  simp [blkW, List.range_succ]
theorem blkW_mem {s id n : Nat} {xs : List UInt8} {k : Nat} (h : s + k ≤ n) : ∀ x ∈ blkW s id xs k, x.1 < n ∧ x.2.length = 64 := by
  intro x hx
  simp only [blkW, List.mem_map, List.mem_range] at hx
  obtain ⟨j, hj, rfl⟩ := hx
  exact ⟨by simp only; omega, pad_length (partAt_len id xs j)⟩
theorem lays_blk {N : List UInt8} {n : Nat} (hN : N.length = n * 64) (s id : Nat) (xs : List UInt8) (keep : List Int) (k : Nat) (hs : s + k ≤ n) (i : Nat) :
    sec (lays N (chosen (blkW s id xs k) keep)) i = if s ≤ i ∧ i < s + k ∧ keptAt keep (i - s) = true then pad (partAt id xs (i - s)).out else sec N i := by
  induction k with
  | zero => rw [if_neg (by omega)]; simp [blkW, chosen, lays]
  | succ k ih =>
    have ih := ih (by omega)
    have hl : (lays N (chosen (blkW s id xs k) keep)).length = n * 64 := lays_length _ _ hN (fun x hx => blkW_mem (show s + k ≤ n by omega) x (chosen_sub _ _ x hx))
    have hp : (pad (partAt id xs k).out).length = 64 := pad_length (partAt_len id xs k)
    rw [blkW_succ, chosen_snoc, blkW_length]
    cases hk : keptAt keep k with
    | true =>
      rw [if_pos rfl, lays_snoc]
      by_cases e : i = s + k
      · subst e
        rw [sec_put_same hl (by omega) hp, if_pos ⟨by omega, by omega, by rw [show s + k - s = k by omega]; exact hk⟩, show s + k - s = k by omega]
      · rw [sec_put_other hl (by omega) hp e, ih]
        by_cases h1 : s ≤ i ∧ i < s + k ∧ keptAt keep (i - s) = true
        · rw [if_pos h1, if_pos ⟨h1.1, by omega, h1.2.2⟩]
        · rw [if_neg h1, if_neg (fun h => h1 ⟨h.1, by omega, h.2.2⟩)]
    | false =>
      rw [if_neg (by decide), ih]
      by_cases e : i = s + k
      · rw [if_neg (fun h => by omega), if_neg (fun h => by rw [e, show s + k - s = k by omega, hk] at h; exact absurd h.2.2 (by decide))]
      · by_cases h1 : s ≤ i ∧ i < s + k ∧ keptAt keep (i - s) = true
        · rw [if_pos h1, if_pos ⟨h1.1, by omega, h1.2.2⟩]
        · rw [if_neg h1, if_neg (fun h => h1 ⟨h.1, by omega, h.2.2⟩)]

structure TornE (id n : Nat) (old data : List UInt8) (keep : List Int) (E : DS) : Prop where
  sz : E.n = 64
  rall : allK keep n = true → E.rd 4 id = some data ∧ E.rd 4 1 = none
  rsome : allK keep n = false → E.rd 4 id = none
  rnone : noneK keep (min n keep.length) = true → E.rd 4 1 = some old
structure TornW (id n : Nat) (old data : List UInt8) (keep : List Int) (D1 D2 D3 : DS) : Prop where
  e1 : (DS.new 64).bwE 4 1 old = 0
  d1 : (DS.new 64).bwrite 4 1 old = D1
  f1 : D1.W.length ≤ 900000 ∧ D1.wr ≤ 900000 ∧ D1.sy ≤ 900000
  e2 : syE D1 = 0
  d2 : D1.sync = D2
  f2 : D2.W.length ≤ 900000 ∧ D2.wr ≤ 900000
  e3 : D2.bwE 4 id data = 0
  d3 : D2.bwrite 4 id data = D3
  f3 : D3.W.length ≤ 900000
  fin : D3.Ok → TornE id n old data keep (D3.crash keep)
theorem torn_facts {old data : List UInt8} (keep : List Int) {id : Nat} (ho : old.length ≤ 1000) (hd : data.length ≤ 1000) (h2 : 2 ≤ id) (hid : id < 18446744073709551616) :
    ∃ D1 D2 D3, TornW id (cntN data.length) old data keep D1 D2 D3 := by
  have a1 : cntN old.length ≤ 20 := by unfold cntN; split <;> omega
  have n1 : cntN data.length ≤ 20 := by unfold cntN; split <;> omega
  have a0 := cntN_pos old.length
  have n0 := cntN_pos data.length
  have h1 : (DS.new 64).bwE 4 1 old = 0 ∧ BlkR (DS.new 64) 4 1 old (cntN old.length) ((DS.new 64).bwrite 4 1 old) := (Up3.new 64).bwrite 4 1 old (by decide) (by omega) (by show 4 + cntN old.length ≤ 64; omega)
  have c1 : Coh ((DS.new 64).bwrite 4 1 old) := bwrite_coh (Coh.new 64) _ _ _
  obtain ⟨D1, hD1⟩ : ∃ D1, D1 = (DS.new 64).bwrite 4 1 old := ⟨_, rfl⟩
  rw [← hD1] at h1 c1
  have m1 : D1.n = 64 := h1.2.n
  have hdn := h1.2.up.d
  have hsy : D1.sync = { D1 with K := lays D1.K D1.W, W := [], sy := D1.sy + 1 } := by simp [DS.sync, hdn]
  have c2 : Coh D1.sync := c1.sync
  have hse : syE D1 = 0 := by simp [syE, hdn]
  have hN2 : D1.sync.N = D1.N := by rw [hsy]
  have hK2 : D1.sync.K = D1.N := by rw [hsy]; exact c1.symm
  have hW2 : D1.sync.W = [] := by rw [hsy]
  have hw2 : D1.sync.wr = D1.wr := by rw [hsy]
  have m2' : D1.sync.n = D1.n := by rw [hsy]
  have up2 : Up3 D1.sync := by rw [hsy]; exact ⟨hdn, h1.2.up.f, h1.2.up.n⟩
  obtain ⟨D2, hD2⟩ : ∃ D2, D2 = D1.sync := ⟨_, rfl⟩
  rw [← hD2] at c2 hN2 hK2 hW2 hw2 m2' up2
  have m2 : D2.n = 64 := m2'.trans m1
  have h3 : D2.bwE 4 id data = 0 ∧ BlkR D2 4 id data (cntN data.length) (D2.bwrite 4 id data) := up2.bwrite 4 id data (by omega) (by omega) (by rw [m2]; omega)
  have c3 : Coh (D2.bwrite 4 id data) := bwrite_coh c2 _ _ _
  obtain ⟨D3, hD3⟩ : ∃ D3, D3 = D2.bwrite 4 id data := ⟨_, rfl⟩
  rw [← hD3] at h3 c3
  have b3 := h3.2
  have p1 := h1.2.few
  have p3 := b3.few
  have w0 : (DS.new 64).W.length = 0 ∧ (DS.new 64).wr = 0 ∧ (DS.new 64).sy = 0 := ⟨rfl, rfl, rfl⟩
  have s1 := h1.2.sy
  have hW2l : D2.W.length = 0 := by rw [hW2]; rfl
  refine ⟨D1, D2, D3, h1.1, hD1.symm, ⟨by omega, by omega, by omega⟩, hse, hD2.symm, ⟨by omega, by omega⟩, h3.1, hD3.symm, by omega, fun ok => ?_⟩
  have g1 := h1.2.has (by show 4 + cntN old.length ≤ 64; omega)
  have hE : ∀ i, sec (D3.crash keep).N i = if 4 ≤ i ∧ i < 4 + cntN data.length ∧ keptAt keep (i - 4) = true then pad (partAt id data (i - 4)).out else sec D1.N i := fun i => by
    rw [c3.crashed ok, b3.K, b3.W, hW2, hK2, List.nil_append]
    exact lays_blk (n := 64) (by rw [h1.2.up.n, m1]) 4 id data keep _ (by omega) i
  obtain ⟨E, hEe⟩ : ∃ E, E = D3.crash keep := ⟨_, rfl⟩
  have nE : E.n = 64 := by rw [hEe]; exact b3.n.trans m2
  rw [← hEe] at hE ⊢
  have hgood : ∀ j, j < cntN data.length → keptAt keep j = true → sec E.N (4 + j) = pad (partAt id data j).out := fun j hj hk => by
    rw [hE, if_pos ⟨by omega, by omega, by rw [show 4 + j - 4 = j by omega]; exact hk⟩, show 4 + j - 4 = j by omega]
  have hold : ∀ j, keptAt keep j = false → sec E.N (4 + j) = sec D1.N (4 + j) := fun j hk => by
    rw [hE, if_neg (fun h => by rw [show 4 + j - 4 = j by omega, hk] at h; exact absurd h.2.2 (by decide))]
  have hlow : ∀ j, j < 60 → (partOf (sec D1.N (4 + j))).id ≤ 1 := fun j hj => by
    rw [h1.2.at' (4 + j) (by show 4 + j < 64; omega)]
    split
    · rw [(part_back _ (partAt_ok (by decide) (by omega) (by omega))).1]
      exact Nat.le_refl 1
    · rw [show sec (DS.new 64).N (4 + j) = List.replicate 64 0 from sec_zero 64 (4 + j) (by omega)]
      decide
  refine ⟨nE, fun hall => ?_, fun hnot => ?_, fun hnone => ?_⟩
  · have hall := allK_iff.1 hall
    refine ⟨rd_some (by omega) hid (by rw [nE]; omega) (fun j hj => hgood j hj (hall j hj)), rd_first (.inl ?_)⟩
    have := hgood 0 (by omega) (hall 0 (by omega))
    rw [Nat.add_zero] at this
    rw [this, (part_back _ (partAt_ok hid (by omega) (by omega))).1]
    show id ≠ 1
    omega
  · by_cases h0 : keptAt keep 0 = true
    · have hex : ∃ j, j < cntN data.length ∧ keptAt keep j = false := by
        by_cases hx : ∃ j, j < cntN data.length ∧ keptAt keep j = false
        · exact hx
        · have : allK keep (cntN data.length) = true := allK_iff.2 fun j hj => by
            cases hb : keptAt keep j
            · exact absurd ⟨j, hj, hb⟩ hx
            · rfl
          rw [this] at hnot
          simp at hnot
      obtain ⟨j, hj, hk⟩ := hex
      have hf := hgood 0 (by omega) h0
      rw [Nat.add_zero] at hf
      have hfc : fstC E 4 = cntN data.length := by
        unfold fstC
        rw [hf, (part_back _ (partAt_ok hid (by omega) (by omega))).1]
        rfl
      refine rd_none_at (j := j) (by rw [hfc]; exact hj) (fun acc => ?_)
      have hlo := hlow j (by omega)
      have : (partOf (sec E.N (4 + j))).id ≠ id := by rw [hold j hk]; omega
      simp [DS.goodAt, this]
    · have h0' : keptAt keep 0 = false := by cases hb : keptAt keep 0; · rfl
                                             · exact absurd hb h0
      refine rd_first (.inl ?_)
      have hlo := hlow 0 (by omega)
      have hh := hold 0 h0'
      rw [Nat.add_zero] at hlo hh
      rw [hh]; omega
  · have hnone := noneK_iff.1 hnone
    have hD : ∀ i, i < 64 → sec E.N i = sec D1.N i := fun i hi => by
      rw [hE, if_neg]
      rintro ⟨q1, q2, q3⟩
      rw [hnone (i - 4) (by omega)] at q3
      exact absurd q3 (by decide)
    exact rd_some (by omega) (by decide) (by rw [nE]; omega) (fun j hj => by rw [hD (4 + j) (by omega)]; exact g1 j hj)

end Go.Proofs.Ytidkeglldmbfeaa
