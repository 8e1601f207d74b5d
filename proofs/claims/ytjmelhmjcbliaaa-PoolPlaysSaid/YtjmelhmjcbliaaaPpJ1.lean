/-
  Joined: SoP SoU So1 So2 So3 So4 So5 So6 So7 PoDy.
-/
import Derived.Sort.LotA
import Derived.Sort.LotB
import Derived.Sort.LotC
import Derived.Sort.LotD3
import Derived.Test.YtjmelhmjcbliaaaMem
import Derived.CellFam
import Derived.BigQuiet
import Derived.BigCall
import Derived.BigGuard
import Derived.Test.YtjmelhmjcbliaaaPoSort
import Derived.Shelf.SlSortCmp.Xorshift
import Derived.Test.YtjmelhmjcbliaaaShelf2
import Derived.Test.YtjmelhmjcbliaaaExtBlk
import Derived.Test.YtjmelhmjcbliaaaPoD

namespace Go.Proofs.Ytjmelhmjcbliaaa
open Go Go.Sort
set_option linter.unusedVariables false
set_option linter.unusedSimpArgs false
set_option linter.unusedSectionVars false
set_option maxRecDepth 100000
set_option linter.unusedSimpArgs false

/-! Insertion. -/
theorem insU_go {a j : Nat} {d : Array Int} (h : a < j) (hl : d[j]! < d[j - 1]!) : insInner ltInt a j d = insInner ltInt a (j - 1) (swp d j (j - 1)) := by
  cases j with
  | zero => omega
  | succ k =>
    rw [Nat.add_sub_cancel] at hl ⊢
    rw [insInner, if_pos]
    simp only [ltInt, Bool.and_eq_true, decide_eq_true_eq]
    exact ⟨h, hl⟩
theorem insU_stop {a j : Nat} {d : Array Int} (h : j ≤ a ∨ ¬ d[j]! < d[j - 1]!) : insInner ltInt a j d = d := by
  cases j with
  | zero => rw [insInner]
  | succ k =>
    rw [Nat.add_sub_cancel] at h
    rw [insInner, if_neg]
    simp only [ltInt, Bool.and_eq_true, decide_eq_true_eq]
    omega
theorem outU_go {a b i : Nat} {d : Array Int} (h : i < b) : insOuter ltInt a b i d = insOuter ltInt a b (i + 1) (insInner ltInt a i d) := by rw [insOuter, if_pos h]
theorem outU_stop {a b i : Nat} {d : Array Int} (h : ¬ i < b) : insOuter ltInt a b i d = d := by rw [insOuter, if_neg h]

/-! The heap: from 'root', with c the greater of its children. -/
/-- c is the child of root that is looked at. -/
def Kid (hi f root c : Nat) (d : Array Int) : Prop := c < hi ∧ ((c = 2 * root + 1 ∧ (2 * root + 2 < hi → ¬ d[f + (2 * root + 1)]! < d[f + (2 * root + 2)]!)) ∨ (c = 2 * root + 2 ∧ d[f + (2 * root + 1)]! < d[f + (2 * root + 2)]!))
theorem siftU_end {hi f root : Nat} {d : Array Int} (h : hi ≤ 2 * root + 1) : siftDown ltInt hi f root d = d := by rw [siftDown, dif_pos h]
theorem siftU {hi f root c : Nat} {d : Array Int} (h : Kid hi f root c d) : siftDown ltInt hi f root d = if d[f + root]! < d[f + c]! then siftDown ltInt hi f c (swp d (f + root) (f + c)) else d := by
  obtain ⟨hc, ⟨rfl, h1⟩ | ⟨rfl, h1⟩⟩ := h
  · rw [siftDown, dif_neg (by omega), if_neg]
    · by_cases hx : d[f + root]! < d[f + (2 * root + 1)]!
      · simp [ltInt, hx]
      · simp [ltInt, hx]
    · simp only [ltInt, Bool.and_eq_true, decide_eq_true_eq]
      rintro ⟨h2, h3⟩
      rw [show f + (2 * root + 1) + 1 = f + (2 * root + 2) by omega] at h3
      exact h1 (by omega) h3
  · rw [siftDown, dif_neg (by omega), if_pos]
    · by_cases hx : d[f + root]! < d[f + (2 * root + 2)]!
      · simp [ltInt, hx, hc]
      · simp [ltInt, hx]
    · simp only [ltInt, Bool.and_eq_true, decide_eq_true_eq]
      exact ⟨by omega, by rw [show f + (2 * root + 1) + 1 = f + (2 * root + 2) by omega]; exact h1⟩
theorem siftU_size (hi f : Nat) : ∀ (n root : Nat) (d : Array Int), hi - root ≤ n → (siftDown ltInt hi f root d).size = d.size := by
  intro n
  induction n with
  | zero => intro root d h; rw [siftU_end (by omega)]
  | succ n ih =>
    intro root d h
    by_cases h0 : hi ≤ 2 * root + 1
    · rw [siftU_end h0]
    · by_cases h2 : 2 * root + 2 < hi ∧ d[f + (2 * root + 1)]! < d[f + (2 * root + 2)]!
      · rw [siftU (c := 2 * root + 2) ⟨h2.1, .inr ⟨rfl, h2.2⟩⟩]
        split
        · rw [ih _ _ (by omega), size_swp]
        · rfl
      · rw [siftU (c := 2 * root + 1) ⟨by omega, .inl ⟨rfl, fun h => by intro h3; exact h2 ⟨h, h3⟩⟩⟩]
        split
        · rw [ih _ _ (by omega), size_swp]
        · rfl

/-! Partial insertion. -/
theorem scanU_go {b i : Nat} {d : Array Int} (h : i < b) (hl : ¬ d[i]! < d[i - 1]!) : scanSorted ltInt d b i = scanSorted ltInt d b (i + 1) := by
  rw [scanSorted, if_pos]
  simp [ltInt, h]; omega
theorem scanU_stop {b i : Nat} {d : Array Int} (h : ¬ i < b ∨ d[i]! < d[i - 1]!) : scanSorted ltInt d b i = i := by
  rw [scanSorted, if_neg]
  simp [ltInt]; omega
theorem downU_go {j : Nat} {d : Array Int} (h : 1 ≤ j) (hl : d[j]! < d[j - 1]!) : shiftDown ltInt j d = shiftDown ltInt (j - 1) (swp d j (j - 1)) := by
  cases j with
  | zero => omega
  | succ k =>
    rw [Nat.add_sub_cancel] at hl ⊢
    rw [shiftDown, if_neg]
    simp [ltInt]; omega
theorem downU_stop {j : Nat} {d : Array Int} (h : j = 0 ∨ ¬ d[j]! < d[j - 1]!) : shiftDown ltInt j d = d := by
  cases j with
  | zero => rw [shiftDown]
  | succ k =>
    rw [Nat.add_sub_cancel] at h
    rw [shiftDown, if_pos]
    simp [ltInt]; omega
theorem upU_go {b j : Nat} {d : Array Int} (h : j < b) (hl : d[j]! < d[j - 1]!) : shiftUp ltInt b j d = shiftUp ltInt b (j + 1) (swp d j (j - 1)) := by
  rw [shiftUp, if_pos h, if_neg]
  simp [ltInt]; omega
theorem upU_stop {b j : Nat} {d : Array Int} (h : ¬ j < b ∨ ¬ d[j]! < d[j - 1]!) : shiftUp ltInt b j d = d := by
  rw [shiftUp]
  by_cases hj : j < b
  · rw [if_pos hj, if_pos]
    simp [ltInt]; omega
  · rw [if_neg hj]

/-! A row that is parted by the first number: what stands before i is of the one kind, what stands behind j of the other. -/
def Parts (q : Int → Bool) (a b i j : Nat) (d0 d : Array Int) : Prop :=
  a < i ∧ i ≤ j + 1 ∧ j < b ∧ PermIn a b d0 d ∧ (∀ t, a < t → t < i → q d[t]! = true) ∧ (∀ t, j < t → t < b → q d[t]! = false)
theorem Parts.up {q : Int → Bool} {a b i j : Nat} {d0 d : Array Int} (h : Parts q a b i j d0 d) (hij : i ≤ j) (hq : q d[i]! = true) : Parts q a b (i + 1) j d0 d := by
  obtain ⟨h1, h2, h3, h4, h5, h6⟩ := h
  refine ⟨by omega, by omega, h3, h4, fun t ht ht2 => ?_, h6⟩
  by_cases e : t = i
  · subst e; exact hq
  · exact h5 t ht (by omega)
theorem Parts.down {q : Int → Bool} {a b i j : Nat} {d0 d : Array Int} (h : Parts q a b i j d0 d) (hij : i ≤ j) (hq : q d[j]! = false) : Parts q a b i (j - 1) d0 d := by
  obtain ⟨h1, h2, h3, h4, h5, h6⟩ := h
  refine ⟨h1, by omega, by omega, h4, h5, fun t ht ht2 => ?_⟩
  by_cases e : t = j
  · subst e; exact hq
  · exact h6 t (by omega) ht2
theorem Parts.swap {q : Int → Bool} {a b i j : Nat} {d0 d : Array Int} (h : Parts q a b i j d0 d) (hij : i ≤ j) (hi : q d[i]! = false) (hj : q d[j]! = true) (hb : b ≤ d0.size) :
    i < j ∧ Parts q a b (i + 1) (j - 1) d0 (swp d i j) ∧ (swp d i j)[a]! = d[a]! := by
  obtain ⟨h1, h2, h3, h4, h5, h6⟩ := h
  have hne : i ≠ j := by rintro rfl; rw [hi] at hj; cases hj
  have hs : d.size = d0.size := h4.1
  refine ⟨by omega, ⟨by omega, by omega, by omega, permIn_trans _ _ _ a b h4 (swp_permIn d a b i j (by omega) (by omega) (by omega) (by omega) (by omega)), fun t ht ht2 => ?_, fun t ht ht2 => ?_⟩, swp_other _ _ _ _ (by omega) (by omega)⟩
  · by_cases e : t = i
    · subst e; rw [swp_left _ _ _ (by omega) hne]; exact hj
    · rw [swp_other _ _ _ _ e (by omega)]; exact h5 t ht (by omega)
  · by_cases e : t = j
    · subst e; rw [swp_right _ _ _ (by omega)]; exact hi
    · rw [swp_other _ _ _ _ (by omega) e]; exact h6 t (by omega) ht2
theorem Parts.first {q : Int → Bool} {a b p : Nat} {d0 : Array Int} (h1 : a ≤ p) (h2 : p < b) (hb : b ≤ d0.size) : Parts q a b (a + 1) (b - 1) d0 (swp d0 a p) :=
  ⟨by omega, by omega, by omega, swp_permIn d0 a b a p (by omega) (by omega) (by omega) (by omega) hb, fun t h h' => by omega, fun t h h' => by omega⟩

/-- What partition leaves: mid, and the two sides of it. -/
def Parted (a b mid : Nat) (d0 d : Array Int) : Prop :=
  a ≤ mid ∧ mid < b ∧ PermIn a b d0 d ∧ (∀ t, a ≤ t → t < mid → d[t]! < d[mid]!) ∧ (∀ t, mid < t → t < b → ¬ d[t]! < d[mid]!)
theorem Parts.end {a b i j : Nat} {d0 d : Array Int} (h : Parts (fun x => decide (x < d[a]!)) a b i j d0 d) (hij : ¬ i ≤ j) (hb : b ≤ d0.size) : Parted a b j d0 (swp d j a) := by
  obtain ⟨h1, h2, h3, h4, h5, h6⟩ := h
  have hs : d.size = d0.size := h4.1
  have hi : i = j + 1 := by omega
  subst hi
  have e2 : (swp d j a)[j]! = d[a]! := by
    by_cases e : j = a
    · subst e; exact swp_right _ _ _ (by omega)
    · exact swp_left _ _ _ (by omega) e
  refine ⟨by omega, h3, permIn_trans _ _ _ a b h4 (swp_permIn d a b j a (by omega) (by omega) (by omega) (by omega) (by omega)), fun t ht ht2 => ?_, fun t ht ht2 => ?_⟩
  · rw [e2]
    by_cases e : t = a
    · subst e
      rw [swp_right _ _ _ (by omega)]
      have := h5 j (by omega) (by omega)
      simpa using this
    · rw [swp_other _ _ _ _ (by omega) e]
      have := h5 t (by omega) (by omega)
      simpa using this
  · rw [e2, swp_other _ _ _ _ (by omega) (by omega)]
    have := h6 t (by omega) ht2
    simpa using this
/-- What partitionEqual leaves. -/
def Evened (a b mid : Nat) (p : Int) (d0 d : Array Int) : Prop :=
  a < mid ∧ mid ≤ b ∧ PermIn a b d0 d ∧ (∀ t, a ≤ t → t < mid → d[t]! ≤ p) ∧ (∀ t, mid ≤ t → t < b → p < d[t]!)
theorem Parts.even {a b i j : Nat} {d0 d : Array Int} (h : Parts (fun x => !decide (d[a]! < x)) a b i j d0 d) (hij : ¬ i ≤ j) : Evened a b i d[a]! d0 d := by
  obtain ⟨h1, h2, h3, h4, h5, h6⟩ := h
  refine ⟨h1, by omega, h4, fun t ht ht2 => ?_, fun t ht ht2 => ?_⟩
  · by_cases e : t = a
    · subst e; omega
    · have := h5 t (by omega) ht2
      simp at this; omega
  · have := h6 t (by omega) ht2
    simpa using this

/-! A row in order; a round of the whole. -/
theorem srt {a b : Nat} {d : Array Int} (h : ∀ i j, a ≤ i → i < j → j < b → d[i]! ≤ d[j]!) : SortedIn ltInt a b d := fun i j h1 h2 h3 => by simp [ltInt]; exact h i j h1 h2 h3
theorem srt_le {a b : Nat} {d : Array Int} (h : SortedIn ltInt a b d) {i j : Nat} (h1 : a ≤ i) (h2 : i < j) (h3 : j < b) : d[i]! ≤ d[j]! := by have := h i j h1 h2 h3; simpa [ltInt] using this
theorem below_le {a b : Nat} {d : Array Int} (h : Below ltInt a b d) (ha : 0 < a) {i : Nat} (h1 : a ≤ i) (h2 : i < b) : d[a - 1]! ≤ d[i]! := by
  rcases h with h | h
  · omega
  · have := h i h1 h2; simpa [ltInt] using this
theorem below_of {a b : Nat} {d : Array Int} (h : ∀ i, a ≤ i → i < b → d[a - 1]! ≤ d[i]!) : Below ltInt a b d := .inr fun i h1 h2 => by simp [ltInt]; exact h i h1 h2
/-- Whatever sorts [a1, b1) sorts [a, b). -/
def Goes (a b a1 b1 : Nat) (d0 d : Array Int) : Prop :=
  a ≤ a1 ∧ a1 ≤ b1 ∧ b1 ≤ b ∧ d.size = d0.size ∧ Below ltInt a1 b1 d ∧ ∀ R, PermIn a1 b1 d R → SortedIn ltInt a1 b1 R → PermIn a b d0 R ∧ SortedIn ltInt a b R
theorem Goes.start {a b : Nat} {d : Array Int} (hab : a ≤ b) (hB : Below ltInt a b d) : Goes a b a b d d := ⟨by omega, hab, by omega, rfl, hB, fun R h k => ⟨h, k⟩⟩
theorem Goes.perm {a b a1 b1 : Nat} {d0 d d' : Array Int} (h : Goes a b a1 b1 d0 d) (hb : b ≤ d0.size) (hp : PermIn a1 b1 d d') : Goes a b a1 b1 d0 d' := by
  obtain ⟨h1, h2, h3, h4, h5, h6⟩ := h
  exact ⟨h1, h2, h3, hp.1.trans h4, h5.perm (by omega) hp, fun R hR k => h6 R (permIn_trans _ _ _ _ _ hp hR) k⟩
theorem Goes.even {a b a1 b1 m p : Nat} {d0 d d' : Array Int} (h : Goes a b a1 b1 d0 d) (hb : b ≤ d0.size) (ha : 0 < a1) (hp1 : a1 ≤ p) (hp2 : p < b1) (hle : ¬ d[a1 - 1]! < d[p]!)
    (hE : Evened a1 b1 m d[p]! d d') : Goes a b m b1 d0 d' ∧ a1 < m ∧ m ≤ b1 := by
  obtain ⟨h1, h2, h3, h4, h5, h6⟩ := h
  obtain ⟨e1, e2, e3, e4, e5⟩ := hE
  have hge : ∀ i, a1 ≤ i → i < b1 → d[p]! ≤ d'[i]! := permIn_all d d' a1 b1 (fun x => d[p]! ≤ x) (by omega) e3 fun i hi hi2 => by have := below_le h5 ha hi hi2; omega
  refine ⟨⟨by omega, e2, h3, e3.1.trans h4, below_of fun i hi hi2 => ?_, fun R hR k => h6 R (permIn_trans _ _ _ _ _ e3 (permIn_mono _ _ m b1 a1 b1 (by omega) (by omega) (by rw [e3.1]; omega) hR)) (srt fun i j hi hij hj => ?_)⟩, e1, e2⟩
  · have := e4 (m - 1) (by omega) (by omega); have := e5 i hi hi2; omega
  · have hRlo : ∀ t, t < m → R[t]! = d'[t]! := fun t ht => hR.2.1 t (.inl ht)
    have hRhi : ∀ t, m ≤ t → t < b1 → d[p]! < R[t]! := permIn_all d' R m b1 (fun x => d[p]! < x) (by rw [e3.1]; omega) hR e5
    by_cases hjm : j < m
    · rw [hRlo i (by omega), hRlo j hjm]
      have := hge j (by omega) hj; have := e4 i hi (by omega); omega
    · by_cases him : i < m
      · rw [hRlo i him]
        have := e4 i hi him; have := hRhi j (by omega) hj; omega
      · exact srt_le k (by omega) hij hj
/-- Behind a partition the left side goes first .. -/
theorem Goes.left {a b a1 b1 m : Nat} {d0 d d' d2 : Array Int} (h : Goes a b a1 b1 d0 d) (hb : b ≤ d0.size) (hP : Parted a1 b1 m d d') (hp : PermIn a1 m d' d2) (hs : SortedIn ltInt a1 m d2) : Goes a b (m + 1) b1 d0 d2 := by
  obtain ⟨h1, h2, h3, h4, h5, h6⟩ := h
  obtain ⟨e1, e2, e3, e4, e5⟩ := hP
  have hs1 : d'.size = d.size := e3.1
  have hs2 : d2.size = d'.size := hp.1
  have hhi : ∀ t, m ≤ t → d2[t]! = d'[t]! := fun t ht => hp.2.1 t (.inr ht)
  have hlo : ∀ t, a1 ≤ t → t < m → d2[t]! < d'[m]! := permIn_all d' d2 a1 m (fun x => x < d'[m]!) (by omega) hp e4
  have p1 : PermIn a1 b1 d d2 := permIn_trans _ _ _ _ _ e3 (permIn_mono _ _ a1 m a1 b1 (by omega) (by omega) (by omega) hp)
  refine ⟨by omega, by omega, h3, by omega, below_of fun i hi hi2 => ?_, fun R hR k => h6 R (permIn_trans _ _ _ _ _ p1 (permIn_mono _ _ (m + 1) b1 a1 b1 (by omega) (by omega) (by omega) hR)) (srt fun i j hi hij hj => ?_)⟩
  · rw [Nat.add_sub_cancel, hhi m (by omega), hhi i (by omega)]
    have := e5 i (by omega) hi2; omega
  · have hR1 : ∀ t, t < m + 1 → R[t]! = d2[t]! := fun t ht => hR.2.1 t (.inl ht)
    have hR2 : ∀ t, m + 1 ≤ t → t < b1 → d'[m]! ≤ R[t]! := permIn_all d2 R (m + 1) b1 (fun x => d'[m]! ≤ x) (by omega) hR fun t ht ht2 => by rw [hhi t (by omega)]; have := e5 t (by omega) ht2; omega
    by_cases hjm : j < m
    · rw [hR1 i (by omega), hR1 j (by omega)]; exact srt_le hs hi hij hjm
    · by_cases him : i < m
      · rw [hR1 i (by omega)]
        have g := hlo i hi him
        by_cases e : j = m
        · subst e; rw [hR1 j (by omega), hhi j (by omega)]; omega
        · have := hR2 j (by omega) hj; omega
      · by_cases e : i = m
        · subst e; rw [hR1 i (by omega), hhi i (by omega)]; exact hR2 j (by omega) hj
        · exact srt_le k (by omega) hij hj
/-- .. or the right one. -/
theorem Goes.right {a b a1 b1 m : Nat} {d0 d d' d2 : Array Int} (h : Goes a b a1 b1 d0 d) (hb : b ≤ d0.size) (hP : Parted a1 b1 m d d') (hp : PermIn (m + 1) b1 d' d2) (hs : SortedIn ltInt (m + 1) b1 d2) : Goes a b a1 m d0 d2 := by
  obtain ⟨h1, h2, h3, h4, h5, h6⟩ := h
  obtain ⟨e1, e2, e3, e4, e5⟩ := hP
  have hs1 : d'.size = d.size := e3.1
  have hs2 : d2.size = d'.size := hp.1
  have hlo : ∀ t, t < m + 1 → d2[t]! = d'[t]! := fun t ht => hp.2.1 t (.inl ht)
  have hhi : ∀ t, m + 1 ≤ t → t < b1 → d'[m]! ≤ d2[t]! := permIn_all d' d2 (m + 1) b1 (fun x => d'[m]! ≤ x) (by omega) hp fun t ht ht2 => by have := e5 t (by omega) ht2; omega
  have p1 : PermIn a1 b1 d d2 := permIn_trans _ _ _ _ _ e3 (permIn_mono _ _ (m + 1) b1 a1 b1 (by omega) (by omega) (by omega) hp)
  have hBd' : Below ltInt a1 b1 d2 := h5.perm (by omega) p1
  refine ⟨h1, by omega, by omega, by omega, hBd'.mono (by omega), fun R hR k => h6 R (permIn_trans _ _ _ _ _ p1 (permIn_mono _ _ a1 m a1 b1 (by omega) (by omega) (by omega) hR)) (srt fun i j hi hij hj => ?_)⟩
  have hR1 : ∀ t, m ≤ t → R[t]! = d2[t]! := fun t ht => hR.2.1 t (.inr ht)
  have hR2 : ∀ t, a1 ≤ t → t < m → R[t]! < d'[m]! := permIn_all d2 R a1 m (fun x => x < d'[m]!) (by omega) hR fun t ht ht2 => by rw [hlo t (by omega)]; exact e4 t ht ht2
  by_cases hjm : j < m
  · exact srt_le k hi hij hjm
  · by_cases him : i < m
    · have g := hR2 i hi him
      rw [hR1 j (by omega)]
      by_cases e : j = m
      · subst e; rw [hlo j (by omega)]; omega
      · have := hhi j (by omega) hj; omega
    · rw [hR1 i (by omega), hR1 j (by omega)]
      by_cases e : i = m
      · subst e; rw [hlo i (by omega)]; exact hhi j (by omega) hj
      · exact srt_le hs (by omega) hij hj
theorem Goes.done {a b a1 b1 : Nat} {d0 d R : Array Int} (h : Goes a b a1 b1 d0 d) (hp : PermIn a1 b1 d R) (hs : SortedIn ltInt a1 b1 R) : PermIn a b d0 R ∧ SortedIn ltInt a b R := h.2.2.2.2.2 R hp hs
end Go.Proofs.Ytjmelhmjcbliaaa

namespace Go.Proofs.Ytjmelhmjcbliaaa
open Go Go.RowKit Go.Sort
set_option linter.unusedVariables false
set_option linter.unusedSimpArgs false
set_option linter.unusedSectionVars false
set_option maxRecDepth 100000
set_option linter.unusedSimpArgs false
set_option maxRecDepth 100000

/-- The row lies in a slice of one's own; off is 0 (a letter, so that the walk finds its cells). -/
def Su (w0 w : World) (J : Res) (g off n c : Nat) (d : Array Int) : Prop :=
  off = 0 ∧ d.size = n ∧ Own w0 w (Sep (RowG 34 (.slice (some ⟨g, 0, none⟩) n c) d.toList) J)
theorem arr_getD {d : Array Int} {t : Nat} (h : t < d.size) : d.toList.getD t default = d[t]! := by
  rw [getElem!_pos d t h, List.getD_eq_getElem?_getD, List.getElem?_eq_getElem (by simpa using h)]
  simp
theorem Su.size {w0 w : World} {J : Res} {g off n c : Nat} {d : Array Int} (h : Su w0 w J g off n c d) : d.size = n := h.2.1
theorem Su.fam {w0 w : World} {J : Res} {g off n c : Nat} {d : Array Int} (h : Su w0 w J g off n c d) :
    ∃ G : Nat → Int, Hid (∀ t, G t = d[t]!) ∧ (∀ t, t < n → w.cell? ⟨g, off + t, none⟩ = some (.int .u64 (G t))) ∧ ∀ t, t < n → w.frozen? ⟨g, off + t, none⟩ = false := by
  obtain ⟨rfl, hs, hO⟩ := h
  refine ⟨fun t => d[t]!, Lib.hid fun _ => rfl, fun t ht => ?_, fun t ht => ?_⟩
  · have := (cellsNu hO (j := t) (by rw [Array.length_toList]; omega)).1
    rw [arr_getD (by omega)] at this
    rw [Nat.zero_add]; exact this
  · have := (cellsNu hO (j := t) (by rw [Array.length_toList]; omega)).2
    rw [Nat.zero_add]; exact this
theorem Su.drewN {w0 w : World} {J : Res} [Stab J] {g off n c : Nat} {d : Array Int} (h : Su w0 w J g off n c d) (q : Nat) : Su w0 (w.drewN q) J g off n c d := ⟨h.1, h.2.1, h.2.2.drewN q⟩
theorem Su.drew {w0 w : World} {J : Res} [Stab J] {g off n c : Nat} {d : Array Int} (h : Su w0 w J g off n c d) : Su w0 w.drew J g off n c d := ⟨h.1, h.2.1, h.2.2.drew⟩
theorem Su.swap {w0 w : World} {J : Res} [Stab J] {g off n c : Nat} {d : Array Int} (h : Su w0 w J g off n c d) {i j : Nat} (hi : i < n) (hj : j < n) {x y : Int} (hx : x = d[j]!) (hy : y = d[i]!) :
    Su w0 ((w.setCell ⟨g, off + i, none⟩ (.int .u64 x)).setCell ⟨g, off + j, none⟩ (.int .u64 y)) J g off n c (swp d i j) := by
  obtain ⟨rfl, hs, hO⟩ := h
  subst hx hy
  have h1 := hO.setG (i := i) rfl (by rw [Array.length_toList]; omega) (m := d[j]!) (v := .int .u64 d[j]!) rfl
  have h2 := h1.setG (i := j) rfl (by rw [List.length_set, Array.length_toList]; omega) (m := d[i]!) (v := .int .u64 d[i]!) rfl
  refine ⟨rfl, by rw [size_swp]; exact hs, ?_⟩
  rw [Nat.zero_add, Nat.zero_add]
  have e : (swp d i j).toList = (d.toList.set i d[j]!).set j d[i]! := by simp [swp]
  rw [e]
  exact h2
/-- .. at the addresses that the walk tells. -/
theorem Su.swapAt {w0 w : World} {J : Res} [Stab J] {g off n c : Nat} {d : Array Int} (h : Su w0 w J g off n c d) {i j : Nat} (hi : i < n) (hj : j < n) {x y : Int} (hx : x = d[j]!) (hy : y = d[i]!) {p q : Nat} (hp : p = off + i) (hq : q = off + j) :
    Su w0 ((w.setCell ⟨g, p, none⟩ (.int .u64 x)).setCell ⟨g, q, none⟩ (.int .u64 y)) J g off n c (swp d i j) := by
  subst hp hq; exact h.swap hi hj hx hy
theorem Su.quiet {w0 w W : World} {J : Res} [Stab J] {g off n c : Nat} {d : Array Int} (h : Su w0 w J g off n c d) (ho : Only (fun _ => False) w W) : Su w0 W J g off n c d := ⟨h.1, h.2.1, h.2.2.quiet ho⟩
theorem Su.as {w0 w : World} {J : Res} {g off n c : Nat} {d d' : Array Int} (h : Su w0 w J g off n c d) (e : d = d') : Su w0 w J g off n c d' := e ▸ h
theorem ltU_t {x y : Int} (h : ltInt x y = true) : x < y := by simpa [ltInt] using h
theorem ltU_f {x y : Int} (h : ltInt x y = false) : ¬ x < y := by simpa [ltInt] using h
theorem ltU_n {x y : Int} (h : (!ltInt x y) = true) : ¬ x < y := by simpa [ltInt] using h
theorem ltU_nf {x y : Int} (h : (!ltInt x y) = false) : x < y := by simpa [ltInt] using h
theorem lessU (x y : Int) (w : World) : Calls Try.prog 59 #[.int .u64 x, .int .u64 y] w fun e w' => e = .returned (.bool (ltInt x y)) ∧ w' = w := (less_any x y w).mono fun _ _ h => ⟨h.1, h.2.symm⟩
end Go.Proofs.Ytjmelhmjcbliaaa

namespace Go.Proofs.Ytjmelhmjcbliaaa
open Go Go.RowKit Go.Sort
set_option linter.unusedVariables false
set_option linter.unusedSimpArgs false
set_option linter.unusedSectionVars false
set_option maxRecDepth 100000
set_option linter.unusedSimpArgs false
set_option maxRecDepth 100000

set_option maxHeartbeats 4000000 in
theorem insertU {w0 w : World} {J : Res} [Stab J] {g off n c : Nat} {d : Array Int} (h : Su w0 w J g off n c d) {a b : Nat} (hab : a ≤ b) (hb : b ≤ n) (hsz : n < 4611686018427387904) :
    Calls Try.prog 53 #[.slice (some ⟨g, off, none⟩) n c, .int .i64 (a : Int), .int .i64 (b : Int)] w fun e w' => e = .returned (.tuple #[]) ∧ Su w0 w' J g off n c (insertionSort ltInt d a b) := by
  have H0 := Lib.hid h
  clear h
  go_enter Try.func53, Try.ntmps53
  go_wp2_with fail
  go_loopw [6] (fun v wr => ∃ (i : Nat) (dk : Array Int), v = .int .i64 (i : Int) ∧ a < i ∧ i ≤ b + 1 ∧ Hid (Su w0 wr J g off n c dk) ∧ Hid (insOuter ltInt a b i dk = insOuter ltInt a b (a + 1) d)) (fun v _ => b + 1 - (intOf v).toNat)
  case atStart => exact ⟨a + 1, d, by go_num, by omega, by omega, H0, Lib.hid rfl⟩
  case round =>
    clear H0
    obtain ⟨i, dk, rfl, hai, hib, HS, HO⟩ := hrel
    by_cases hlt : i < b
    · go_wp2_with fail
      go_loopw [7] (fun v wr => ∃ (j : Nat) (dj : Array Int), v = .int .i64 (j : Int) ∧ a ≤ j ∧ j ≤ i ∧ Hid (Su w0 wr J g off n c dj) ∧ Hid (insInner ltInt a j dj = insInner ltInt a i dk)) (fun v _ => (intOf v).toNat)
      case atStart => exact ⟨i, dk, rfl, by omega, Nat.le_refl _, HS, Lib.hid rfl⟩
      case round =>
        clear HS
        obtain ⟨j, dj, rfl, haj, hji, HS, HI⟩ := hrel
        obtain ⟨G, HG, hcw, hfw⟩ := HS.out.fam
        have hjn : j < n := by omega
        have hjN : (j : Int) < (n : Int) := by omega
        have hj0 : (0 : Int) ≤ (j : Int) := by omega
        by_cases hja : a < j
        · have hjaI : (a : Int) < (j : Int) := by omega
          have hj1 : (0 : Int) ≤ (j : Int) - 1 := by omega
          go_wp2_with fail
          go_quiet (first | (go_at_call 59; refine Calls.quiet_of_same (lessU _ _ _)))
          go_wp2
          · have hl : G j < G (j - 1) := ltU_t (by assumption)
            have HS2 := Lib.hid (HS.out.drewN (nq + 1))
            have HL : Hid (G j < G (j - 1)) := Lib.hid hl
            go_region
            all_goals go_wp2
            go_roundw
            case rel => exact ⟨j - 1, swp dj j (j - 1), by congr 1; omega, by omega, by omega, Lib.hid (HS2.out.swapAt (i := j) (j := j - 1) (by omega) (by omega) (HG.out _) (HG.out _) (by omega) (by omega)), Lib.hid (by rw [← HI.out, insU_go hja (by rw [← HG.out, ← HG.out]; exact HL.out)])⟩
            case measure => simp [intOf]; omega
          · have hl : ¬ G j < G (j - 1) := ltU_f (by assumption)
            go_roundw
            case rel => exact ⟨i + 1, dj, by go_num, by omega, by omega, Lib.hid (HS.out.drewN nq), Lib.hid (by rw [← HO.out, outU_go hlt, ← HI.out, insU_stop (.inr (by rw [← HG.out, ← HG.out]; exact hl))])⟩
            case measure => simp [intOf]; omega
        · go_wp2_with fail
          go_quiet (first | (go_at_call 59; refine Calls.quiet_of_same (lessU _ _ _)))
          go_wp2
          go_roundw
          case rel => exact ⟨i + 1, dj, by go_num, by omega, by omega, Lib.hid (HS.out.drewN nq), Lib.hid (by rw [← HO.out, outU_go hlt, ← HI.out, insU_stop (.inl (by omega))])⟩
          case measure => simp [intOf]; omega
    · go_wp2_with fail
      go_end0
      exact ⟨rfl, HS.out.as (by unfold insertionSort; rw [← HO.out, outU_stop hlt])⟩

set_option maxHeartbeats 4000000 in
theorem turnU {w0 w : World} {J : Res} [Stab J] {g off n c : Nat} {d : Array Int} (h : Su w0 w J g off n c d) {a b : Nat} (hab : a < b) (hb : b ≤ n) (hsz : n < 4611686018427387904) :
    Calls Try.prog 57 #[.slice (some ⟨g, off, none⟩) n c, .int .i64 (a : Int), .int .i64 (b : Int)] w fun e w' => e = .returned (.tuple #[]) ∧ ∃ d', PermIn a b d d' ∧ Su w0 w' J g off n c d' := by
  have H0 := Lib.hid h
  clear h
  go_enter Try.func57, Try.ntmps57
  go_wp2_with fail
  go_loopw [6, 7] (fun v u wr => ∃ (i j : Nat) (dk : Array Int), v = .int .i64 (i : Int) ∧ u = .int .i64 (j : Int) ∧ a ≤ i ∧ j < b ∧ i ≤ j + 1 ∧ Hid (Su w0 wr J g off n c dk) ∧ Hid (PermIn a b d dk)) (fun v u _ => (intOf u).toNat + 1 - (intOf v).toNat)
  case atStart => exact ⟨a, b - 1, d, rfl, by go_num, Nat.le_refl _, by omega, by omega, H0, Lib.hid (permIn_refl _ _ _)⟩
  case round =>
    clear H0
    obtain ⟨i, j, dk, rfl, rfl, hai, hjb, hij, HS, HP⟩ := hrel
    by_cases hlt : i < j
    · have hltI : (i : Int) < (j : Int) := by omega
      have hjN : (j : Int) < (n : Int) := by omega
      have hi0 : (0 : Int) ≤ (i : Int) := by omega
      obtain ⟨G, HG, hcw, hfw⟩ := HS.out.fam
      go_wp2_with fail
      go_region
      all_goals go_wp2
      go_roundw
      case rel => exact ⟨i + 1, j - 1, swp dk i j, by go_num, by congr 1; omega, by omega, by omega, by omega, Lib.hid ((HS.out.drewN 1).swapAt (i := i) (j := j) (by omega) (by omega) (HG.out _) (HG.out _) (by omega) (by omega)), Lib.hid (permIn_trans _ _ _ _ _ HP.out (swp_permIn _ a b i j (by omega) (by omega) (by omega) (by omega) (by rw [HS.out.size]; omega)))⟩
      case measure => simp [intOf]; omega
    · have hltI : ¬ (i : Int) < (j : Int) := by omega
      go_wp2_with fail
      go_end0
      exact ⟨rfl, dk, HP.out, HS.out⟩
end Go.Proofs.Ytjmelhmjcbliaaa

namespace Go.Proofs.Ytjmelhmjcbliaaa
open Go Go.RowKit Go.Sort
set_option linter.unusedVariables false
set_option linter.unusedSimpArgs false
set_option linter.unusedSectionVars false
set_option maxRecDepth 100000
set_option linter.unusedSimpArgs false
set_option maxRecDepth 100000

theorem kid_left {hi f root : Nat} {d : Array Int} (h0 : 2 * root + 1 < hi) (h : 2 * root + 2 < hi → ¬ d[f + (2 * root + 1)]! < d[f + (2 * root + 2)]!) : Kid hi f root (2 * root + 1) d := ⟨h0, .inl ⟨rfl, h⟩⟩
theorem kid_right {hi f root : Nat} {d : Array Int} (h0 : 2 * root + 2 < hi) (h : d[f + (2 * root + 1)]! < d[f + (2 * root + 2)]!) : Kid hi f root (2 * root + 2) d := ⟨h0, .inr ⟨rfl, h⟩⟩
theorem kid_bound {hi f root c : Nat} {d : Array Int} (h : Kid hi f root c d) : root < c ∧ c < hi := by
  obtain ⟨h1, ⟨rfl, _⟩ | ⟨rfl, _⟩⟩ := h <;> omega

set_option maxHeartbeats 4000000 in
theorem siftU_any {w0 w : World} {J : Res} [Stab J] {g off n c : Nat} {d : Array Int} (h : Su w0 w J g off n c d) {lo hi f : Nat} (hlo : lo ≤ hi) (hb : f + hi ≤ n) (hsz : n < 2305843009213693952) :
    Calls Try.prog 64 #[.slice (some ⟨g, off, none⟩) n c, .int .i64 (lo : Int), .int .i64 (hi : Int), .int .i64 (f : Int)] w fun e w' => e = .returned (.tuple #[]) ∧ Su w0 w' J g off n c (siftDown ltInt hi f lo d) := by
  have H0 := Lib.hid h
  clear h
  go_enter Try.func64, Try.ntmps64
  go_wp2_with fail
  go_loopw [8] (fun v wr => ∃ (r : Nat) (dk : Array Int), v = .int .i64 (r : Int) ∧ r ≤ hi ∧ Hid (Su w0 wr J g off n c dk) ∧ Hid (siftDown ltInt hi f r dk = siftDown ltInt hi f lo d)) (fun v _ => hi - (intOf v).toNat)
  case atStart => exact ⟨lo, d, rfl, hlo, H0, Lib.hid rfl⟩
  case round =>
    clear H0
    obtain ⟨r, dk, rfl, hr, HS, HE⟩ := hrel
    by_cases h0 : hi ≤ 2 * r + 1
    · have h0z : (hi : Int) ≤ 2 * (r : Int) + 1 := by omega
      go_wp2_with fail
      go_end0
      exact ⟨rfl, HS.out.as (by rw [← HE.out, siftU_end h0])⟩
    · have h0z : ¬ ((hi : Int) ≤ 2 * (r : Int) + 1) := by omega
      go_upto_region 4 with fail
      go_cut [36] (fun v wx => ∃ bb : Bool, v = .bool bb ∧ Hid (Kid hi f r (if bb then 2 * r + 2 else 2 * r + 1) dk) ∧ Hid (Su w0 wx J g off n c dk))
      case first =>
        obtain ⟨G, HG, hcw, hfw⟩ := HS.out.fam
        by_cases h1 : 2 * r + 2 < hi
        · have h1z : 2 * (r : Int) + 1 + 1 < (hi : Int) := by omega
          go_quiet (first | (go_at_call 59; refine Calls.quiet_of_same (lessU _ _ _)))
          go_wp2_with fail
          go_meet
          case rel =>
            refine ⟨ltInt (G (f + (2 * r + 1))) (G (f + (2 * r + 2))), by first | rfl | (congr 2; omega), Lib.hid ?_, Lib.hid (HS.out.drewN nq)⟩
            cases hb : ltInt (G (f + (2 * r + 1))) (G (f + (2 * r + 2))) with
            | true => exact kid_right h1 (by rw [← HG.out, ← HG.out]; exact ltU_t hb)
            | false => exact kid_left (by omega) (fun _ => by rw [← HG.out, ← HG.out]; exact ltU_f hb)
        · have h1z : ¬ (2 * (r : Int) + 1 + 1 < (hi : Int)) := by omega
          go_quiet (first | (go_at_call 59; refine Calls.quiet_of_same (lessU _ _ _)))
          go_wp2_with fail
          go_meet
          case rel => exact ⟨false, rfl, Lib.hid (kid_left (by omega) (fun h => absurd h h1)), Lib.hid (HS.out.drewN nq)⟩
      case rest =>
       clear HS
       obtain ⟨bb, hbb, HK0, HS⟩ := hcut
       subst hbb
       obtain ⟨wx, hwx⟩ : ∃ W, W = wc := ⟨wc, rfl⟩
       subst hwx
       go_upto_if 36 with fail
       go_cut [9] (fun v wy => ∃ cc : Nat, v = .int .i64 (cc : Int) ∧ Hid (Kid hi f r cc dk) ∧ Hid (Su w0 wy J g off n c dk))
       case first =>
        cases bb with
        | true =>
          go_wp2_with fail
          go_meet
          case rel => exact ⟨2 * r + 2, by go_num, HK0, HS⟩
        | false =>
          go_wp2_with fail
          go_meet
          case rel => exact ⟨2 * r + 1, by go_num, HK0, HS⟩
       case rest =>
        clear HS HK0
        obtain ⟨cc, hcc, HK, HS⟩ := hcut
        subst hcc
        obtain ⟨wx, hwx⟩ : ∃ W, W = wc := ⟨wc, rfl⟩
        subst hwx
        have hkb := kid_bound HK.out
        obtain ⟨hk1, hk2⟩ := hkb
        have hfr : (f : Int) + (r : Int) < (n : Int) := by omega
        have hfc : (f : Int) + (cc : Int) < (n : Int) := by omega
        have h00 : (0 : Int) ≤ (f : Int) + (r : Int) := by omega
        have h01 : (0 : Int) ≤ (f : Int) + (cc : Int) := by omega
        obtain ⟨G, HG, hcw, hfw⟩ := HS.out.fam
        go_wp2_with fail
        go_quiet (first | (go_at_call 59; refine Calls.quiet_of_same (lessU _ _ _)))
        go_wp2
        · have hl : ¬ G (f + r) < G (f + cc) := ltU_n (by assumption)
          have hE : siftDown ltInt hi f lo d = dk := by rw [← HE.out, siftU HK.out, if_neg (by rw [← HG.out, ← HG.out]; exact hl)]
          (try simp only [Exit.inBlock, Exit.then])
          refine bodyPost_ret (results_none rfl _ _ _) rfl ?_
          exact ⟨rfl, (HS.out.drewN nq).as hE.symm⟩
        · have hl : G (f + r) < G (f + cc) := ltU_nf (by assumption)
          have hE : siftDown ltInt hi f cc (swp dk (f + r) (f + cc)) = siftDown ltInt hi f lo d := by rw [← HE.out, siftU HK.out, if_pos (by rw [← HG.out, ← HG.out]; exact hl)]
          have HE2 := Lib.hid hE
          clear hE HE HK
          go_region
          all_goals go_wp2
          go_roundw
          case rel => exact ⟨cc, _, rfl, by omega, Lib.hid ((HS.out.drewN (nq + 1)).swapAt (i := f + r) (j := f + cc) (by omega) (by omega) (HG.out _) (HG.out _) (by omega) (by omega)), HE2⟩
          case measure => simp [intOf]; omega

theorem buildU_step {hi f k : Nat} {d : Array Int} : heapBuild ltInt hi f (k + 1) d = heapBuild ltInt hi f k (siftDown ltInt hi f k d) := by rw [heapBuild]
theorem popU_step {f k : Nat} {d : Array Int} : heapPop ltInt f (k + 1) d = heapPop ltInt f k (siftDown ltInt k f 0 (swp d f (f + k))) := by rw [heapPop]
set_option maxHeartbeats 4000000 in
theorem heapU {w0 w : World} {J : Res} [Stab J] {g off n c : Nat} {d : Array Int} (h : Su w0 w J g off n c d) {a b : Nat} (hab : a < b) (hb : b ≤ n) (hsz : n < 2305843009213693952) :
    Calls Try.prog 54 #[.slice (some ⟨g, off, none⟩) n c, .int .i64 (a : Int), .int .i64 (b : Int)] w fun e w' => e = .returned (.tuple #[]) ∧ Su w0 w' J g off n c (heapSort ltInt d a b) := by
  have H0 := Lib.hid h
  obtain ⟨s, hs⟩ : ∃ s, b - a = s := ⟨_, rfl⟩
  have hsI : (b : Int) - (a : Int) = (s : Int) := by omega
  obtain ⟨m0, hm0⟩ : ∃ m, (s - 1) / 2 = m := ⟨_, rfl⟩
  have hmI : ((s : Int) - 1) / 2 = (m0 : Int) := by omega
  have HD : Hid (heapSort ltInt d a b = heapPop ltInt a s (heapBuild ltInt s a (m0 + 1) d)) := Lib.hid (by unfold heapSort; rw [hs, hm0])
  have HM := Lib.hid hm0
  have hs1 : 1 ≤ s := by omega
  have hsn : a + s ≤ n := by omega
  have HMI := Lib.hid hmI
  clear h hs hm0 hab hb
  go_enter Try.func54, Try.ntmps54
  go_wp2_with fail
  rw [hmI]
  clear hmI hsI
  have hm2 : m0 < s := by have := HM.out; omega
  go_loopw [9] (fun v wr => ∃ (k : Nat) (dk : Array Int), v = .int .i64 ((k : Int) - 1) ∧ k ≤ m0 + 1 ∧ Hid (Su w0 wr J g off n c dk) ∧ Hid (heapBuild ltInt s a k dk = heapBuild ltInt s a (m0 + 1) d)) (fun v _ => (intOf v + 1).toNat)
  case atStart => exact ⟨m0 + 1, d, by go_num, Nat.le_refl _, H0, Lib.hid rfl⟩
  case round =>
    clear H0
    obtain ⟨k, dk, rfl, hk, HS, HE⟩ := hrel
    rcases Nat.eq_zero_or_pos k with h0 | h0
    · subst h0
      rw [show ((0 : Nat) : Int) - 1 = -1 from rfl]
      go_wp2_with fail
      go_loopw [10] (fun v wr => ∃ (k : Nat) (dj : Array Int), v = .int .i64 ((k : Int) - 1) ∧ k ≤ s ∧ Hid (Su w0 wr J g off n c dj) ∧ Hid (heapPop ltInt a k dj = heapPop ltInt a s (heapBuild ltInt s a (m0 + 1) d))) (fun v _ => (intOf v + 1).toNat)
      case atStart => exact ⟨s, dk, by go_num, Nat.le_refl _, HS, Lib.hid (by rw [← HE.out]; rfl)⟩
      case round =>
        clear HS HE
        obtain ⟨k, dj, rfl, hk, HS, HE⟩ := hrel
        rcases Nat.eq_zero_or_pos k with h0 | h0
        · subst h0
          rw [show ((0 : Nat) : Int) - 1 = -1 from rfl]
          go_wp2_with fail
          go_end0
          exact ⟨rfl, HS.out.as (by rw [HD.out, ← HE.out]; rfl)⟩
        · obtain ⟨m, rfl⟩ : ∃ m, k = m + 1 := ⟨k - 1, by omega⟩
          rw [show ((m + 1 : Nat) : Int) - 1 = (m : Int) by omega]
          have ham : (a : Int) + (m : Int) < (n : Int) := by omega
          have ha0 : (0 : Int) ≤ (a : Int) + (m : Int) := by omega
          have haN : (a : Int) < (n : Int) := by omega
          obtain ⟨G, HG, hcw, hfw⟩ := HS.out.fam
          obtain ⟨v', hv'⟩ := cell?_setCell_some (w := wr) (p := ⟨g, off + a, none⟩) (x := .int .u64 (G (a + m))) (q := ⟨g, off + (a + m), none⟩) (hcw (a + m) (by omega))
          go_wp2_with fail
          go_region
          all_goals go_wp2_with fail
          have hS2 := (HS.out.drewN 1).swapAt (i := a) (j := a + m) (by omega) (by omega) (HG.out _) (HG.out _) rfl rfl
          have hsi := siftU_any hS2 (lo := 0) (hi := m) (f := a) (by omega) (by omega) hsz
          rw [show ((0 : Nat) : Int) = 0 from rfl] at hsi
          have HSI := Lib.hid hsi
          clear hsi hS2 HS HG hcw hfw hv' v'
          refine HSI.out.mono ?_
          rintro e w2 ⟨rfl, hS⟩
          have HS2 := Lib.hid hS
          clear HSI hS
          go_wp2_with fail
          go_roundw
          case rel => exact ⟨m, _, rfl, by omega, HS2, Lib.hid (by rw [← HE.out, popU_step])⟩
          case measure => simp [intOf]
    · obtain ⟨m, rfl⟩ : ∃ m, k = m + 1 := ⟨k - 1, by omega⟩
      rw [show ((m + 1 : Nat) : Int) - 1 = (m : Int) by omega]
      have hsi := siftU_any HS.out (lo := m) (hi := s) (f := a) (by omega) (by omega) hsz
      have HSI := Lib.hid hsi
      have hm0 : (0 : Int) ≤ (m : Int) := by omega
      clear hsi
      go_wp2_with fail
      refine HSI.out.mono ?_
      rintro e w2 ⟨rfl, hS⟩
      have HS2 := Lib.hid hS
      clear HSI hS HS
      go_wp2_with fail
      go_roundw
      case rel => exact ⟨m, _, rfl, by omega, HS2, Lib.hid (by rw [← HE.out, buildU_step])⟩
      case measure => simp [intOf]
end Go.Proofs.Ytjmelhmjcbliaaa

namespace Go.Proofs.Ytjmelhmjcbliaaa
open Go Go.RowKit Go.Sort
set_option linter.unusedVariables false
set_option linter.unusedSimpArgs false
set_option linter.unusedSectionVars false
set_option maxRecDepth 100000
set_option linter.unusedSimpArgs false
set_option maxRecDepth 100000

theorem noB {p : Prop} (h : false = true) : p := by cases h
set_option linter.unusedSectionVars false
/-- The row while it is parted: i from below, j from above. -/
def Pt (w0 w : World) (J : Res) (g off n c : Nat) (q : Int → Bool) (a b i j : Nat) (pv : Int) (d : Array Int) (u v : Bool) : Prop :=
  ∃ dk, Su w0 w J g off n c dk ∧ Parts q a b i j d dk ∧ dk[a]! = pv ∧ (u = true → i ≤ j → q dk[i]! = false) ∧ (v = true → i ≤ j → q dk[j]! = true)
section
variable {w0 w : World} {J : Res} [Stab J] {g off n c : Nat} {q : Int → Bool} {a b i j : Nat} {pv : Int} {d : Array Int}
theorem Pt.bounds {u v : Bool} (h : Pt w0 w J g off n c q a b i j pv d u v) : a < i ∧ i ≤ j + 1 ∧ j < b := by
  obtain ⟨dk, h1, h2, _⟩ := h
  exact ⟨h2.1, h2.2.1, h2.2.2.1⟩
theorem Pt.fam {u v : Bool} (h : Pt w0 w J g off n c q a b i j pv d u v) : ∃ G : Nat → Int, Hid (G a = pv ∧
    (∀ m, i ≤ j → q (G i) = true → Pt w0 (w.drewN m) J g off n c q a b (i + 1) j pv d false false) ∧ (∀ m, i ≤ j → q (G i) = false → Pt w0 (w.drewN m) J g off n c q a b i j pv d true false) ∧
    (∀ m, u = true → i ≤ j → q (G j) = false → Pt w0 (w.drewN m) J g off n c q a b i (j - 1) pv d true false) ∧ (∀ m, u = true → i ≤ j → q (G j) = true → Pt w0 (w.drewN m) J g off n c q a b i j pv d true true) ∧
    (∀ m, ¬ i ≤ j → Pt w0 (w.drewN m) J g off n c q a b i j pv d true true)) ∧
    (∀ t, t < n → w.cell? ⟨g, off + t, none⟩ = some (.int .u64 (G t))) ∧ ∀ t, t < n → w.frozen? ⟨g, off + t, none⟩ = false := by
  obtain ⟨dk, h1, h2, h3, h4, h5⟩ := h
  obtain ⟨G, HG, hc, hf⟩ := h1.fam
  have hG := HG.out
  refine ⟨G, Lib.hid ⟨(hG a).trans h3, fun m hij hq => ⟨dk, h1.drewN m, h2.up hij (by rw [← hG]; exact hq), h3, noB, noB⟩,
    fun m hij hq => ⟨dk, h1.drewN m, h2, h3, fun _ _ => by rw [← hG]; exact hq, noB⟩,
    fun m hu hij hq => ⟨dk, h1.drewN m, h2.down hij (by rw [← hG]; exact hq), h3, fun _ h6 => h4 hu (by omega), noB⟩,
    fun m hu hij hq => ⟨dk, h1.drewN m, h2, h3, fun _ h6 => h4 hu h6, fun _ _ => by rw [← hG]; exact hq⟩,
    fun m hij => ⟨dk, h1.drewN m, h2, h3, fun _ h => absurd h hij, fun _ h => absurd h hij⟩⟩, hc, hf⟩
theorem Pt.le {u v : Bool} (h : Pt w0 w J g off n c q a b i j pv d u v) : Pt w0 w J g off n c q a b i j pv d false false := by
  obtain ⟨dk, h1, h2, h3, _⟩ := h
  exact ⟨dk, h1, h2, h3, noB, noB⟩
/-- Both have stopped: they change places. -/
theorem Pt.swap (h : Pt w0 w J g off n c q a b i j pv d true true) (hij : i ≤ j) (hb : b ≤ n) (hd : d.size = n) : ∃ x y, (∀ t, t < n → w.frozen? ⟨g, off + t, none⟩ = false) ∧ w.cell? ⟨g, off + i, none⟩ = some (.int .u64 x) ∧ w.cell? ⟨g, off + j, none⟩ = some (.int .u64 y) ∧
    Hid (i < j ∧ Pt w0 ((w.setCell ⟨g, off + i, none⟩ (.int .u64 y)).setCell ⟨g, off + j, none⟩ (.int .u64 x)).drew J g off n c q a b (i + 1) (j - 1) pv d false false) := by
  obtain ⟨dk, h1, h2, h3, h4, h5⟩ := h
  obtain ⟨G, HG, hc, hf⟩ := h1.fam
  have hG := HG.out
  obtain ⟨s1, s2, s3⟩ := h2.swap hij (h4 rfl hij) (h5 rfl hij) (by omega)
  have := h2.2.2.1
  refine ⟨G i, G j, hf, hc i (by omega), hc j (by omega), Lib.hid ⟨s1, swp dk i j, (h1.swap (by omega) (by omega) (hG j) (hG i)).drew, s2, s3.trans h3, noB, noB⟩⟩
theorem Pt.weak {v : Bool} (h : Pt w0 w J g off n c q a b i j pv d true v) : Pt w0 w J g off n c q a b i j pv d true false := by
  obtain ⟨dk, h1, h2, h3, h4, h5⟩ := h
  exact ⟨dk, h1, h2, h3, h4, noB⟩
end
def qLt (pv x : Int) : Bool := decide (x < pv)
def qLe (pv x : Int) : Bool := !decide (pv < x)
theorem swp_first {d : Array Int} {a p : Nat} (ha : a < d.size) (hp : p < d.size) : (swp d a p)[a]! = d[p]! := by
  by_cases e : a = p
  · subst e; exact swp_right _ _ _ hp
  · exact swp_left _ _ _ ha e
section
variable {w0 w : World} {J : Res} [Stab J] {g off n c : Nat} {a b i j : Nat} {pv : Int} {d : Array Int}
theorem Pt.finish {u v : Bool} (h : Pt w0 w J g off n c (qLt pv) a b i j pv d u v) (hij : ¬ i ≤ j) (hb : b ≤ n) (hd : d.size = n) : ∃ G : Nat → Int, (∀ t, t < n → w.cell? ⟨g, off + t, none⟩ = some (.int .u64 (G t))) ∧ (∀ t, t < n → w.frozen? ⟨g, off + t, none⟩ = false) ∧
    Hid (∃ d', Parted a b j d d' ∧ Su w0 ((w.setCell ⟨g, off + j, none⟩ (.int .u64 (G a))).setCell ⟨g, off + a, none⟩ (.int .u64 (G j))).drew J g off n c d') := by
  obtain ⟨dk, h1, h2, h3, h4, h5⟩ := h
  obtain ⟨G, HG, hc, hf⟩ := h1.fam
  have hG := HG.out
  have hq : qLt pv = fun x => decide (x < dk[a]!) := by rw [h3]; rfl
  rw [hq] at h2
  have hjb := h2.2.2.1
  have hai := h2.1
  have hij2 := h2.2.1
  exact ⟨G, hc, hf, Lib.hid ⟨swp dk j a, h2.end hij (by omega), (h1.swap (by omega) (by omega) (hG a) (hG j)).drew⟩⟩
theorem Pt.even {u v : Bool} (h : Pt w0 w J g off n c (qLe pv) a b i j pv d u v) (hij : ¬ i ≤ j) : ∃ d', Evened a b i pv d d' ∧ Su w0 w J g off n c d' := by
  obtain ⟨dk, h1, h2, h3, h4, h5⟩ := h
  have hq : qLe pv = fun x => !decide (dk[a]! < x) := by rw [h3]; rfl
  rw [hq] at h2
  have h6 := h2.even hij
  rw [h3] at h6
  exact ⟨dk, h6, h1⟩
end

set_option maxHeartbeats 8000000 in
theorem partU {w0 w : World} {J : Res} [Stab J] {g off n c : Nat} {d : Array Int} (h : Su w0 w J g off n c d) {a b p : Nat} (hap : a ≤ p) (hpb : p < b) (hb : b ≤ n) (hsz : n < 2305843009213693952) :
    Calls Try.prog 61 #[.slice (some ⟨g, off, none⟩) n c, .int .i64 (a : Int), .int .i64 (b : Int), .int .i64 (p : Int)] w fun e w' => ∃ (m : Nat) (fl : Bool) (d' : Array Int), e = .returned (.tuple #[.int .i64 (m : Int), .bool fl]) ∧ Parted a b m d d' ∧ Su w0 w' J g off n c d' := by
  have HS := Lib.hid h
  have HSZ : Hid (d.size = n) := Lib.hid h.size
  have hbn := hb
  have hpN : (p : Int) < (n : Int) := by omega
  have haN : (a : Int) < (n : Int) := by omega
  have hp0 : (0 : Int) ≤ (p : Int) := by omega
  obtain ⟨G, HG, hcw, hfw⟩ := h.fam
  obtain ⟨pv, hpv⟩ : ∃ x, G p = x := ⟨_, rfl⟩
  obtain ⟨v', hv'⟩ := cell?_setCell_some (w := w) (p := ⟨g, off + a, none⟩) (x := .int .u64 (G p)) (q := ⟨g, off + p, none⟩) (hcw p (by omega))
  have HP0 : Hid (Pt w0 ((w.setCell ⟨g, off + a, none⟩ (.int .u64 (G p))).setCell ⟨g, off + p, none⟩ (.int .u64 (G a))).drew J g off n c (qLt pv) a b (a + 1) (b - 1) pv d false false) := Lib.hid
    ⟨swp d a p, (h.swap (by omega) (by omega) (HG.out p) (HG.out a)).drew, Parts.first hap hpb (by rw [h.size]; omega), by rw [swp_first (by rw [h.size]; omega) (by rw [h.size]; omega), ← HG.out]; exact hpv, noB, noB⟩
  obtain ⟨bj, hbj⟩ : ∃ x, b - 1 = x := ⟨_, rfl⟩
  rw [hbj] at HP0
  have hbjI : (b : Int) - 1 = (bj : Int) := by omega
  have hbj2 : bj < b := by omega
  clear h hpv hbj
  go_enter Try.func61, Try.ntmps61
  go_wp2_with fail
  go_region
  clear hcw hfw hv' v'
  generalize World.drew _ = w1 at *
  go_upto_block 0 with fail
  go_cut [10] (fun v wx => ∃ i1 : Nat, v = .int .i64 (i1 : Int) ∧ (a + 1) ≤ i1 ∧ Hid (Pt w0 wx J g off n c (qLt pv) a b i1 bj pv d true false))
  case first =>
    go_wp2_with fail
    go_loopw [10] (fun v wr => ∃ i1 : Nat, v = .int .i64 (i1 : Int) ∧ (a + 1) ≤ i1 ∧ Hid (Pt w0 wr J g off n c (qLt pv) a b i1 bj pv d false false)) (fun v _ => bj + 1 - (intOf v).toNat)
    case atStart => exact ⟨_, by go_num, Nat.le_refl _, HP0⟩
    case round =>
      clear HP0
      obtain ⟨i1, rfl, hI0, HX⟩ := hrel
      obtain ⟨b1, b2, b3⟩ := HX.out.bounds
      obtain ⟨G, HG, hcw, hfw⟩ := HX.out.fam
      have hi0 : (0 : Int) ≤ (i1 : Int) := by omega
      have haN : (a : Int) < (n : Int) := by omega
      by_cases hle : i1 ≤ bj
      · have hleI : (i1 : Int) ≤ (bj : Int) := by omega
        have hiN : (i1 : Int) < (n : Int) := by omega
        go_wp2_with fail
        go_quiet (first | (go_at_call 59; refine Calls.quiet_of_same (lessU _ _ _)))
        go_wp2
        · have hl : ltInt (G i1) (G a) = true := by assumption
          go_roundw
          case rel => exact ⟨i1 + 1, by go_num, by omega, Lib.hid (HG.out.2.1 nq hle (by show decide (G i1 < pv) = true; rw [← HG.out.1]; exact hl))⟩
          case measure => simp [intOf]; omega
        · have hl : ltInt (G i1) (G a) = false := by assumption
          go_meet
          case rel => exact ⟨i1, rfl, hI0, Lib.hid (HG.out.2.2.1 nq hle (by show decide (G i1 < pv) = false; rw [← HG.out.1]; exact hl))⟩
      · have hleI : ¬ (i1 : Int) ≤ (bj : Int) := by omega
        go_wp2_with fail
        go_quiet (first | (go_at_call 59; refine Calls.quiet_of_same (lessU _ _ _)))
        go_wp2
        go_meet
        case rel => exact ⟨i1, rfl, hI0, Lib.hid (HG.out.2.2.2.2.2 nq hle).weak⟩
  case rest =>
    clear HP0
    obtain ⟨i1, hi1, hI0, HP1⟩ := hcut
    subst hi1
    obtain ⟨wa, hwa⟩ : ∃ W, W = wc := ⟨wc, rfl⟩
    subst hwa
    go_upto_block 2 with fail
    go_cut [11] (fun v wx => ∃ j1 : Nat, v = .int .i64 (j1 : Int) ∧ j1 ≤ bj ∧ Hid (Pt w0 wx J g off n c (qLt pv) a b i1 j1 pv d true true))
    case first =>
      go_wp2_with fail
      go_loopw [11] (fun v wr => ∃ j1 : Nat, v = .int .i64 (j1 : Int) ∧ j1 ≤ bj ∧ Hid (Pt w0 wr J g off n c (qLt pv) a b i1 j1 pv d true false)) (fun v _ => (intOf v).toNat)
      case atStart => exact ⟨_, rfl, Nat.le_refl _, HP1⟩
      case round =>
        clear HP1
        obtain ⟨j1, rfl, hJ0, HX⟩ := hrel
        obtain ⟨b1, b2, b3⟩ := HX.out.bounds
        obtain ⟨G, HG, hcw, hfw⟩ := HX.out.fam
        have hi0 : (0 : Int) ≤ (j1 : Int) := by omega
        have haN : (a : Int) < (n : Int) := by omega
        have hiN : (j1 : Int) < (n : Int) := by omega
        by_cases hle : i1 ≤ j1
        · have hleI : (i1 : Int) ≤ (j1 : Int) := by omega
          go_wp2_with fail
          go_quiet (first | (go_at_call 59; refine Calls.quiet_of_same (lessU _ _ _)))
          go_wp2
          · have hl : (!ltInt (G j1) (G a)) = true := by assumption
            go_roundw
            case rel => exact ⟨j1 - 1, by congr 1; omega, by omega, Lib.hid (HG.out.2.2.2.1 nq (by trivial) hle (by show decide (G j1 < pv) = false; rw [← HG.out.1]; simpa [ltInt] using hl))⟩
            case measure => simp [intOf]; omega
          · have hl : (!ltInt (G j1) (G a)) = false := by assumption
            go_meet
            case rel => exact ⟨j1, rfl, hJ0, Lib.hid (HG.out.2.2.2.2.1 nq (by trivial) hle (by show decide (G j1 < pv) = true; rw [← HG.out.1]; simpa [ltInt] using hl))⟩
        · have hleI : ¬ (i1 : Int) ≤ (j1 : Int) := by omega
          go_wp2_with fail
          go_quiet (first | (go_at_call 59; refine Calls.quiet_of_same (lessU _ _ _)))
          go_wp2
          go_meet
          case rel => exact ⟨j1, rfl, hJ0, Lib.hid (HG.out.2.2.2.2.2 nq hle)⟩
    case rest =>
      clear HP1
      obtain ⟨j1, hj1, hJ0, HP2⟩ := hcut
      subst hj1
      obtain ⟨wb, hwb⟩ : ∃ W, W = wc := ⟨wc, rfl⟩
      subst hwb
      obtain ⟨b1, b2, b3⟩ := HP2.out.bounds
      by_cases hle : i1 ≤ j1
      · have hleI : ¬ (j1 : Int) < (i1 : Int) := by omega
        have hjN : (j1 : Int) < (n : Int) := by omega
        have hiN : (i1 : Int) < (n : Int) := by omega
        have hi0 : (0 : Int) ≤ (i1 : Int) := by omega
        have hj0 : (0 : Int) ≤ (j1 : Int) := by omega
        obtain ⟨x, y, hfw, hcx, hcy, HW⟩ := HP2.out.swap hle hbn HSZ.out
        have hij := HW.out.1
        have hf1 := hfw i1 (by omega)
        have hf2 := hfw j1 (by omega)
        clear hfw
        go_wp2_with fail
        go_region
        all_goals go_wp2_with fail
        have HP3 := Lib.hid (HW.out.2)
        clear HW hf1 hf2 hcx hcy HP2
        go_loopw [10, 11] (fun v u wr => ∃ i2 j2 : Nat, v = .int .i64 (i2 : Int) ∧ u = .int .i64 (j2 : Int) ∧ Hid (Pt w0 wr J g off n c (qLt pv) a b i2 j2 pv d false false)) (fun v u _ => (intOf u).toNat + 1 - (intOf v).toNat)
        case atStart => exact ⟨i1 + 1, j1 - 1, by go_num, by congr 1; omega, HP3⟩
        case round =>
          clear HP3 hij hle hleI hI0 hJ0 b1 b2 b3 hjN hiN hi0 hj0
          obtain ⟨i2, j2, rfl, rfl, HQ⟩ := hrel
          obtain ⟨b1, b2, b3⟩ := HQ.out.bounds
          go_upto_block 6 with fail
          go_cut [10] from 99 to 114 (fun v wx => ∃ i1 : Nat, v = .int .i64 (i1 : Int) ∧ i2 ≤ i1 ∧ Hid (Pt w0 wx J g off n c (qLt pv) a b i1 j2 pv d true false))
          case first =>
            go_wp2_with fail
            go_loopw [10] (fun v wr => ∃ i1 : Nat, v = .int .i64 (i1 : Int) ∧ i2 ≤ i1 ∧ Hid (Pt w0 wr J g off n c (qLt pv) a b i1 j2 pv d false false)) (fun v _ => j2 + 1 - (intOf v).toNat)
            case atStart => exact ⟨_, rfl, Nat.le_refl _, HQ⟩
            case round =>
              clear HQ
              obtain ⟨i1, rfl, hI0, HX⟩ := hrel
              obtain ⟨b1, b2, b3⟩ := HX.out.bounds
              obtain ⟨G, HG, hcw, hfw⟩ := HX.out.fam
              have hi0 : (0 : Int) ≤ (i1 : Int) := by omega
              have haN : (a : Int) < (n : Int) := by omega
              by_cases hle : i1 ≤ j2
              · have hleI : (i1 : Int) ≤ (j2 : Int) := by omega
                have hiN : (i1 : Int) < (n : Int) := by omega
                go_wp2_with fail
                go_quiet (first | (go_at_call 59; refine Calls.quiet_of_same (lessU _ _ _)))
                go_wp2
                · have hl : ltInt (G i1) (G a) = true := by assumption
                  go_roundw
                  case rel => exact ⟨i1 + 1, by go_num, by omega, Lib.hid (HG.out.2.1 nq hle (by show decide (G i1 < pv) = true; rw [← HG.out.1]; exact hl))⟩
                  case measure => simp [intOf]; omega
                · have hl : ltInt (G i1) (G a) = false := by assumption
                  go_meet
                  case rel => exact ⟨i1, rfl, hI0, Lib.hid (HG.out.2.2.1 nq hle (by show decide (G i1 < pv) = false; rw [← HG.out.1]; exact hl))⟩
              · have hleI : ¬ (i1 : Int) ≤ (j2 : Int) := by omega
                go_wp2_with fail
                go_quiet (first | (go_at_call 59; refine Calls.quiet_of_same (lessU _ _ _)))
                go_wp2
                go_meet
                case rel => exact ⟨i1, rfl, hI0, Lib.hid (HG.out.2.2.2.2.2 nq hle).weak⟩
          case rest =>
            clear HQ
            obtain ⟨i1, hi1, hI0, HP1⟩ := hcut
            subst hi1
            obtain ⟨wa, hwa⟩ : ∃ W, W = wc := ⟨wc, rfl⟩
            subst hwa
            go_upto_block 8 with fail
            go_cut [11] from 115 to 131 (fun v wx => ∃ j1 : Nat, v = .int .i64 (j1 : Int) ∧ j1 ≤ j2 ∧ Hid (Pt w0 wx J g off n c (qLt pv) a b i1 j1 pv d true true))
            case first =>
              go_wp2_with fail
              go_loopw [11] (fun v wr => ∃ j1 : Nat, v = .int .i64 (j1 : Int) ∧ j1 ≤ j2 ∧ Hid (Pt w0 wr J g off n c (qLt pv) a b i1 j1 pv d true false)) (fun v _ => (intOf v).toNat)
              case atStart => exact ⟨_, rfl, Nat.le_refl _, HP1⟩
              case round =>
                clear HP1
                obtain ⟨j1, rfl, hJ0, HX⟩ := hrel
                obtain ⟨b1, b2, b3⟩ := HX.out.bounds
                obtain ⟨G, HG, hcw, hfw⟩ := HX.out.fam
                have hi0 : (0 : Int) ≤ (j1 : Int) := by omega
                have haN : (a : Int) < (n : Int) := by omega
                have hiN : (j1 : Int) < (n : Int) := by omega
                by_cases hle : i1 ≤ j1
                · have hleI : (i1 : Int) ≤ (j1 : Int) := by omega
                  go_wp2_with fail
                  go_quiet (first | (go_at_call 59; refine Calls.quiet_of_same (lessU _ _ _)))
                  go_wp2
                  · have hl : (!ltInt (G j1) (G a)) = true := by assumption
                    go_roundw
                    case rel => exact ⟨j1 - 1, by congr 1; omega, by omega, Lib.hid (HG.out.2.2.2.1 nq (by trivial) hle (by show decide (G j1 < pv) = false; rw [← HG.out.1]; simpa [ltInt] using hl))⟩
                    case measure => simp [intOf]; omega
                  · have hl : (!ltInt (G j1) (G a)) = false := by assumption
                    go_meet
                    case rel => exact ⟨j1, rfl, hJ0, Lib.hid (HG.out.2.2.2.2.1 nq (by trivial) hle (by show decide (G j1 < pv) = true; rw [← HG.out.1]; simpa [ltInt] using hl))⟩
                · have hleI : ¬ (i1 : Int) ≤ (j1 : Int) := by omega
                  go_wp2_with fail
                  go_quiet (first | (go_at_call 59; refine Calls.quiet_of_same (lessU _ _ _)))
                  go_wp2
                  go_meet
                  case rel => exact ⟨j1, rfl, hJ0, Lib.hid (HG.out.2.2.2.2.2 nq hle)⟩
            case rest =>
              clear HP1
              obtain ⟨j1, hj1, hJ0, HP2⟩ := hcut
              subst hj1
              obtain ⟨wb, hwb⟩ : ∃ W, W = wc := ⟨wc, rfl⟩
              subst hwb
              obtain ⟨b1, b2, b3⟩ := HP2.out.bounds
              by_cases hle : i1 ≤ j1
              · have hleI : ¬ (j1 : Int) < (i1 : Int) := by omega
                have hjN : (j1 : Int) < (n : Int) := by omega
                have hiN : (i1 : Int) < (n : Int) := by omega
                have hi0 : (0 : Int) ≤ (i1 : Int) := by omega
                have hj0 : (0 : Int) ≤ (j1 : Int) := by omega
                obtain ⟨x, y, hfw, hcx, hcy, HW⟩ := HP2.out.swap hle hbn HSZ.out
                have hij := HW.out.1
                have hf1 := hfw i1 (by omega)
                have hf2 := hfw j1 (by omega)
                clear hfw
                go_wp2_with fail
                go_region
                all_goals go_wp2_with fail
                have HP3 := Lib.hid (HW.out.2)
                clear HW hf1 hf2 hcx hcy HP2
                go_roundw
                case rel => exact ⟨i1 + 1, j1 - 1, by go_num, by congr 1; omega, HP3⟩
                case measure => simp [intOf]; omega
              · have hgtI : (j1 : Int) < (i1 : Int) := by omega
                have hjN : (j1 : Int) < (n : Int) := by omega
                have hj0 : (0 : Int) ≤ (j1 : Int) := by omega
                obtain ⟨G, hcw, hfw, HF⟩ := HP2.out.finish hle hbn HSZ.out
                obtain ⟨v', hv'⟩ := cell?_setCell_some (w := wb) (p := ⟨g, off + j1, none⟩) (x := .int .u64 (G a)) (q := ⟨g, off + a, none⟩) (hcw a (by omega))
                go_wp2_with fail
                go_region
                all_goals go_wp2_with fail
                go_ret2
                obtain ⟨d', h1, h2⟩ := HF.out
                exact ⟨j1, false, d', rfl, h1, h2⟩
      · have hgtI : (j1 : Int) < (i1 : Int) := by omega
        have hjN : (j1 : Int) < (n : Int) := by omega
        have hj0 : (0 : Int) ≤ (j1 : Int) := by omega
        obtain ⟨G, hcw, hfw, HF⟩ := HP2.out.finish hle hbn HSZ.out
        obtain ⟨v', hv'⟩ := cell?_setCell_some (w := wb) (p := ⟨g, off + j1, none⟩) (x := .int .u64 (G a)) (q := ⟨g, off + a, none⟩) (hcw a (by omega))
        go_wp2_with fail
        go_region
        all_goals go_wp2_with fail
        go_ret2
        obtain ⟨d', h1, h2⟩ := HF.out
        exact ⟨j1, true, d', rfl, h1, h2⟩

set_option maxHeartbeats 8000000 in
theorem evenU {w0 w : World} {J : Res} [Stab J] {g off n c : Nat} {d : Array Int} (h : Su w0 w J g off n c d) {a b p : Nat} (hap : a ≤ p) (hpb : p < b) (hb : b ≤ n) (hsz : n < 2305843009213693952) :
    Calls Try.prog 60 #[.slice (some ⟨g, off, none⟩) n c, .int .i64 (a : Int), .int .i64 (b : Int), .int .i64 (p : Int)] w fun e w' => ∃ (m : Nat) (d' : Array Int), e = .returned (.int .i64 (m : Int)) ∧ Evened a b m d[p]! d d' ∧ Su w0 w' J g off n c d' := by
  have HS := Lib.hid h
  have HSZ : Hid (d.size = n) := Lib.hid h.size
  have hbn := hb
  have hpN : (p : Int) < (n : Int) := by omega
  have haN : (a : Int) < (n : Int) := by omega
  have hp0 : (0 : Int) ≤ (p : Int) := by omega
  obtain ⟨G, HG, hcw, hfw⟩ := h.fam
  obtain ⟨pv, hpv⟩ : ∃ x, G p = x := ⟨_, rfl⟩
  obtain ⟨v', hv'⟩ := cell?_setCell_some (w := w) (p := ⟨g, off + a, none⟩) (x := .int .u64 (G p)) (q := ⟨g, off + p, none⟩) (hcw p (by omega))
  have HP0 : Hid (Pt w0 ((w.setCell ⟨g, off + a, none⟩ (.int .u64 (G p))).setCell ⟨g, off + p, none⟩ (.int .u64 (G a))).drew J g off n c (qLe pv) a b (a + 1) (b - 1) pv d false false) := Lib.hid
    ⟨swp d a p, (h.swap (by omega) (by omega) (HG.out p) (HG.out a)).drew, Parts.first hap hpb (by rw [h.size]; omega), by rw [swp_first (by rw [h.size]; omega) (by rw [h.size]; omega), ← HG.out]; exact hpv, noB, noB⟩
  obtain ⟨bj, hbj⟩ : ∃ x, b - 1 = x := ⟨_, rfl⟩
  rw [hbj] at HP0
  have hbjI : (b : Int) - 1 = (bj : Int) := by omega
  have hbj2 : bj < b := by omega
  have HPV : Hid (d[p]! = pv) := Lib.hid (by rw [← HG.out]; exact hpv)
  clear h hpv hbj
  go_enter Try.func60, Try.ntmps60
  go_wp2_with fail
  go_region
  clear hcw hfw hv' v'
  generalize World.drew _ = w1 at *
  go_wp2_with fail
  go_loopw [9, 10] (fun v u wr => ∃ i2 j2 : Nat, v = .int .i64 (i2 : Int) ∧ u = .int .i64 (j2 : Int) ∧ Hid (Pt w0 wr J g off n c (qLe pv) a b i2 j2 pv d false false)) (fun v u _ => (intOf u).toNat + 1 - (intOf v).toNat)
  case atStart => exact ⟨a + 1, bj, by go_num, rfl, HP0⟩
  case round =>
    clear HP0
    obtain ⟨i2, j2, rfl, rfl, HQ⟩ := hrel
    obtain ⟨b1, b2, b3⟩ := HQ.out.bounds
    go_upto_block 2 with fail
    go_cut [9] from 29 to 45 (fun v wx => ∃ i1 : Nat, v = .int .i64 (i1 : Int) ∧ i2 ≤ i1 ∧ Hid (Pt w0 wx J g off n c (qLe pv) a b i1 j2 pv d true false))
    case first =>
      go_wp2_with fail
      go_loopw [9] (fun v wr => ∃ i1 : Nat, v = .int .i64 (i1 : Int) ∧ i2 ≤ i1 ∧ Hid (Pt w0 wr J g off n c (qLe pv) a b i1 j2 pv d false false)) (fun v _ => j2 + 1 - (intOf v).toNat)
      case atStart => exact ⟨_, rfl, Nat.le_refl _, HQ⟩
      case round =>
        clear HQ
        obtain ⟨i1, rfl, hI0, HX⟩ := hrel
        obtain ⟨b1, b2, b3⟩ := HX.out.bounds
        obtain ⟨G, HG, hcw, hfw⟩ := HX.out.fam
        have hi0 : (0 : Int) ≤ (i1 : Int) := by omega
        have haN : (a : Int) < (n : Int) := by omega
        by_cases hle : i1 ≤ j2
        · have hleI : (i1 : Int) ≤ (j2 : Int) := by omega
          have hiN : (i1 : Int) < (n : Int) := by omega
          go_wp2_with fail
          go_quiet (first | (go_at_call 59; refine Calls.quiet_of_same (lessU _ _ _)))
          go_wp2
          · have hl : (!ltInt (G a) (G i1)) = true := by assumption
            go_roundw
            case rel => exact ⟨i1 + 1, by go_num, by omega, Lib.hid (HG.out.2.1 nq hle (by show (!decide (pv < G i1)) = true; rw [← HG.out.1]; exact hl))⟩
            case measure => simp [intOf]; omega
          · have hl : (!ltInt (G a) (G i1)) = false := by assumption
            go_meet
            case rel => exact ⟨i1, rfl, hI0, Lib.hid (HG.out.2.2.1 nq hle (by show (!decide (pv < G i1)) = false; rw [← HG.out.1]; exact hl))⟩
        · have hleI : ¬ (i1 : Int) ≤ (j2 : Int) := by omega
          go_wp2_with fail
          go_quiet (first | (go_at_call 59; refine Calls.quiet_of_same (lessU _ _ _)))
          go_wp2
          go_meet
          case rel => exact ⟨i1, rfl, hI0, Lib.hid (HG.out.2.2.2.2.2 nq hle).weak⟩
    case rest =>
      clear HQ
      obtain ⟨i1, hi1, hI0, HP1⟩ := hcut
      subst hi1
      obtain ⟨wa, hwa⟩ : ∃ W, W = wc := ⟨wc, rfl⟩
      subst hwa
      go_upto_block 4 with fail
      go_cut [10] from 46 to 61 (fun v wx => ∃ j1 : Nat, v = .int .i64 (j1 : Int) ∧ j1 ≤ j2 ∧ Hid (Pt w0 wx J g off n c (qLe pv) a b i1 j1 pv d true true))
      case first =>
        go_wp2_with fail
        go_loopw [10] (fun v wr => ∃ j1 : Nat, v = .int .i64 (j1 : Int) ∧ j1 ≤ j2 ∧ Hid (Pt w0 wr J g off n c (qLe pv) a b i1 j1 pv d true false)) (fun v _ => (intOf v).toNat)
        case atStart => exact ⟨_, rfl, Nat.le_refl _, HP1⟩
        case round =>
          clear HP1
          obtain ⟨j1, rfl, hJ0, HX⟩ := hrel
          obtain ⟨b1, b2, b3⟩ := HX.out.bounds
          obtain ⟨G, HG, hcw, hfw⟩ := HX.out.fam
          have hi0 : (0 : Int) ≤ (j1 : Int) := by omega
          have haN : (a : Int) < (n : Int) := by omega
          have hiN : (j1 : Int) < (n : Int) := by omega
          by_cases hle : i1 ≤ j1
          · have hleI : (i1 : Int) ≤ (j1 : Int) := by omega
            go_wp2_with fail
            go_quiet (first | (go_at_call 59; refine Calls.quiet_of_same (lessU _ _ _)))
            go_wp2
            · have hl : ltInt (G a) (G j1) = true := by assumption
              go_roundw
              case rel => exact ⟨j1 - 1, by congr 1; omega, by omega, Lib.hid (HG.out.2.2.2.1 nq (by trivial) hle (by show (!decide (pv < G j1)) = false; rw [← HG.out.1]; simpa [ltInt] using hl))⟩
              case measure => simp [intOf]; omega
            · have hl : ltInt (G a) (G j1) = false := by assumption
              go_meet
              case rel => exact ⟨j1, rfl, hJ0, Lib.hid (HG.out.2.2.2.2.1 nq (by trivial) hle (by show (!decide (pv < G j1)) = true; rw [← HG.out.1]; simpa [ltInt] using hl))⟩
          · have hleI : ¬ (i1 : Int) ≤ (j1 : Int) := by omega
            go_wp2_with fail
            go_quiet (first | (go_at_call 59; refine Calls.quiet_of_same (lessU _ _ _)))
            go_wp2
            go_meet
            case rel => exact ⟨j1, rfl, hJ0, Lib.hid (HG.out.2.2.2.2.2 nq hle)⟩
      case rest =>
        clear HP1
        obtain ⟨j1, hj1, hJ0, HP2⟩ := hcut
        subst hj1
        obtain ⟨wb, hwb⟩ : ∃ W, W = wc := ⟨wc, rfl⟩
        subst hwb
        obtain ⟨b1, b2, b3⟩ := HP2.out.bounds
        by_cases hle : i1 ≤ j1
        · have hleI : ¬ (j1 : Int) < (i1 : Int) := by omega
          have hjN : (j1 : Int) < (n : Int) := by omega
          have hiN : (i1 : Int) < (n : Int) := by omega
          have hi0 : (0 : Int) ≤ (i1 : Int) := by omega
          have hj0 : (0 : Int) ≤ (j1 : Int) := by omega
          obtain ⟨x, y, hfw, hcx, hcy, HW⟩ := HP2.out.swap hle hbn HSZ.out
          have hij := HW.out.1
          have hf1 := hfw i1 (by omega)
          have hf2 := hfw j1 (by omega)
          clear hfw
          go_wp2_with fail
          go_region
          all_goals go_wp2_with fail
          have HP3 := Lib.hid (HW.out.2)
          clear HW hf1 hf2 hcx hcy HP2
          go_roundw
          case rel => exact ⟨i1 + 1, j1 - 1, by go_num, by congr 1; omega, HP3⟩
          case measure => simp [intOf]; omega
        · have hgtI : (j1 : Int) < (i1 : Int) := by omega
          obtain ⟨d', h1, h2⟩ := HP2.out.even hle
          have h1' : Evened a b i1 d[p]! d d' := by rw [HPV.out]; exact h1
          have H1 := Lib.hid (And.intro h1' h2)
          clear h1 h2 h1'
          go_wp2_with fail
          go_ret
          exact ⟨i1, d', rfl, H1.out.1, H1.out.2⟩
end Go.Proofs.Ytjmelhmjcbliaaa

namespace Go.Proofs.Ytjmelhmjcbliaaa
open Go Go.RowKit Go.Sort
set_option linter.unusedVariables false
set_option linter.unusedSimpArgs false
set_option linter.unusedSectionVars false
set_option maxRecDepth 100000
set_option linter.unusedSimpArgs false
set_option maxRecDepth 100000

theorem parI_sorted {a b s i : Nat} {d : Array Int} (hs : s < 5) (h : scanSorted ltInt d b i = b) : partialIns ltInt a b (5 - s) i d = (d, true) := by
  obtain ⟨t, ht⟩ : ∃ t, 5 - s = t + 1 := ⟨4 - s, by omega⟩
  rw [ht, partialIns_succ, if_pos h]
theorem parI_short {a b s i : Nat} {d : Array Int} (hs : s < 5) (h : scanSorted ltInt d b i ≠ b) (h5 : b - a < 50) : partialIns ltInt a b (5 - s) i d = (d, false) := by
  obtain ⟨t, ht⟩ : ∃ t, 5 - s = t + 1 := ⟨4 - s, by omega⟩
  rw [ht, partialIns_succ, if_neg h, if_pos h5]
theorem parI_go {a b s i k : Nat} {d : Array Int} (hs : s < 5) (hk : scanSorted ltInt d b i = k) (h : k ≠ b) (h5 : ¬ b - a < 50) : partialIns ltInt a b (5 - s) i d = partialIns ltInt a b (5 - (s + 1)) k (fixUp ltInt b k (fixDown ltInt a k (swp d k (k - 1)))) := by
  obtain ⟨t, ht⟩ : ∃ t, 5 - s = t + 1 := ⟨4 - s, by omega⟩
  rw [ht, partialIns_succ, hk, if_neg h, if_neg h5, show 5 - (s + 1) = t by omega]
set_option maxHeartbeats 8000000 in
theorem partialU {w0 w : World} {J : Res} [Stab J] {g off n c : Nat} {d : Array Int} (h : Su w0 w J g off n c d) {a b : Nat} (hab : a < b) (hb : b ≤ n) (hsz : n < 2305843009213693952) :
    Calls Try.prog 58 #[.slice (some ⟨g, off, none⟩) n c, .int .i64 (a : Int), .int .i64 (b : Int)] w fun e w' => ∃ (r : Bool) (d' : Array Int), e = .returned (.bool r) ∧ partialInsertionSort ltInt d a b = (d', r) ∧ Su w0 w' J g off n c d' := by
  have H0 := Lib.hid h
  clear h
  go_enter Try.func58, Try.ntmps58
  go_wp2_with fail
  go_loopw [7, 8] (fun v u wr => ∃ (i s : Nat) (dk : Array Int), v = .int .i64 (i : Int) ∧ u = .int .i64 (s : Int) ∧ s ≤ 5 ∧ a < i ∧ i ≤ b ∧ Hid (Su w0 wr J g off n c dk) ∧ Hid (partialIns ltInt a b (5 - s) i dk = partialInsertionSort ltInt d a b)) (fun _ u _ => 5 - (intOf u).toNat)
  case atStart => exact ⟨a + 1, 0, d, by go_num, rfl, by omega, by omega, by omega, H0, Lib.hid rfl⟩
  case round =>
    clear H0
    obtain ⟨i, s, dk, rfl, rfl, hs5, hai, hib, HS, HE⟩ := hrel
    by_cases hs : s < 5
    · have hsI : (s : Int) < 5 := by omega
      go_upto_block 2 with fail
      go_cut [7] from 17 to 34 (fun v wx => ∃ k : Nat, v = .int .i64 (k : Int) ∧ i ≤ k ∧ k ≤ b ∧ Hid (scanSorted ltInt dk b i = k) ∧ Hid (Su w0 wx J g off n c dk))
      case first =>
        go_wp2_with fail
        go_loopw [7] (fun v wr => ∃ k : Nat, v = .int .i64 (k : Int) ∧ i ≤ k ∧ k ≤ b ∧ Hid (scanSorted ltInt dk b i = scanSorted ltInt dk b k) ∧ Hid (Su w0 wr J g off n c dk)) (fun v _ => b - (intOf v).toNat)
        case atStart => exact ⟨i, rfl, Nat.le_refl _, hib, Lib.hid rfl, HS⟩
        case round =>
          clear HS
          obtain ⟨k, rfl, hik, hkb, HK, HS⟩ := hrel
          obtain ⟨G, HG, hcw, hfw⟩ := HS.out.fam
          by_cases hlt : k < b
          · have hltI : (k : Int) < (b : Int) := by omega
            have hkN : (k : Int) < (n : Int) := by omega
            have hk1 : (0 : Int) ≤ (k : Int) - 1 := by omega
            go_wp2_with fail
            go_quiet (first | (go_at_call 59; refine Calls.quiet_of_same (lessU _ _ _)))
            go_wp2
            · have hl : (!ltInt (G k) (G (k - 1))) = true := by assumption
              go_roundw
              case rel => exact ⟨k + 1, by go_num, by omega, by omega, Lib.hid (by rw [HK.out, scanU_go hlt (by rw [← HG.out, ← HG.out]; exact ltU_n hl)]), Lib.hid (HS.out.drewN nq)⟩
              case measure => simp [intOf]; omega
            · have hl : (!ltInt (G k) (G (k - 1))) = false := by assumption
              go_meet
              case rel => exact ⟨k, rfl, hik, hkb, Lib.hid (by rw [HK.out, scanU_stop (.inr (by rw [← HG.out, ← HG.out]; exact ltU_nf hl))]), Lib.hid (HS.out.drewN nq)⟩
          · have hltI : ¬ (k : Int) < (b : Int) := by omega
            go_wp2_with fail
            go_quiet (first | (go_at_call 59; refine Calls.quiet_of_same (lessU _ _ _)))
            go_wp2
            go_meet
            case rel => exact ⟨k, rfl, hik, hkb, Lib.hid (by rw [HK.out, scanU_stop (.inl hlt)]), Lib.hid (HS.out.drewN nq)⟩
      case rest =>
        clear HS
        obtain ⟨k, hk, hik, hkb, HK, HS⟩ := hcut
        subst hk
        obtain ⟨wa, hwa⟩ : ∃ W, W = wc := ⟨wc, rfl⟩
        subst hwa
        by_cases hkb2 : k = b
        · have hkbI : (k : Int) = (b : Int) := by omega
          have hkbB : ((k : Int) == (b : Int)) = true := by simp [hkb2]
          have HR : Hid (partialInsertionSort ltInt d a b = (dk, true)) := Lib.hid (by rw [← HE.out, parI_sorted hs (by rw [HK.out]; exact hkb2)])
          clear hkb2
          go_wp2_with fail
          go_ret
          exact ⟨true, dk, rfl, HR.out, HS.out⟩
        · have hkbI : ¬ (k : Int) = (b : Int) := by omega
          have hkbB : ((k : Int) == (b : Int)) = false := by simp; omega
          by_cases h50 : b - a < 50
          · have h50I : (b : Int) - (a : Int) < 50 := by omega
            have HR : Hid (partialInsertionSort ltInt d a b = (dk, false)) := Lib.hid (by rw [← HE.out, parI_short hs (by rw [HK.out]; exact hkb2) h50])
            go_wp2_with fail
            go_ret
            exact ⟨false, dk, rfl, HR.out, HS.out⟩
          · have h50I : ¬ (b : Int) - (a : Int) < 50 := by omega
            have HE2 := Lib.hid ((parI_go hs HK.out hkb2 h50).symm.trans HE.out)
            have hkN : (k : Int) < (n : Int) := by omega
            have hk1 : (0 : Int) ≤ (k : Int) - 1 := by omega
            obtain ⟨G, HG, hcw, hfw⟩ := HS.out.fam
            have HS1 := Lib.hid ((HS.out.swapAt (i := k) (j := k - 1) (by omega) (by omega) (HG.out _) (HG.out _) rfl rfl).drew)
            go_wp2_with fail
            go_region
            clear HE HS HK hcw hfw
            generalize World.drew _ = w1 at *
            obtain ⟨d1, hd1⟩ : ∃ x, swp dk k (k - 1) = x := ⟨_, rfl⟩
            rw [hd1] at HS1 HE2
            clear hd1 HG
            go_upto_if 61 with fail
            obtain ⟨tb, htb⟩ : ∃ t : Bool, decide (2 ≤ (k : Int) - (a : Int)) = t := ⟨_, rfl⟩
            rw [htb]
            have HTB := Lib.hid htb
            clear htb
            go_cut [9] from 62 to 94 (fun _ wx => Hid (Su w0 wx J g off n c (fixDown ltInt a k d1)))
            case first =>
              by_cases h2 : k - a ≥ 2
              · have htt : tb = true := by rw [← HTB.out]; exact decide_eq_true (by omega)
                clear HTB
                subst htt
                go_wp2_with fail
                go_loopw [9] (fun v wr => ∃ (j : Nat) (dj : Array Int), v = .int .i64 (j : Int) ∧ j ≤ k - 1 ∧ Hid (Su w0 wr J g off n c dj) ∧ Hid (shiftDown ltInt j dj = shiftDown ltInt (k - 1) d1)) (fun v _ => (intOf v).toNat)
                case atStart => exact ⟨k - 1, d1, by congr 1; omega, Nat.le_refl _, HS1, Lib.hid rfl⟩
                case round =>
                  clear HS1
                  obtain ⟨j, dj, rfl, hjk, HS, HF⟩ := hrel
                  obtain ⟨G, HG, hcw, hfw⟩ := HS.out.fam
                  by_cases h1 : 1 ≤ j
                  · have h1I : (1 : Int) ≤ (j : Int) := by omega
                    have hjN : (j : Int) < (n : Int) := by omega
                    go_wp2_with fail
                    go_quiet (first | (go_at_call 59; refine Calls.quiet_of_same (lessU _ _ _)))
                    go_wp2
                    · have hl : (!ltInt (G j) (G (j - 1))) = true := by assumption
                      go_meet
                      case rel => exact Lib.hid ((HS.out.drewN nq).as (by rw [fixDown, if_pos h2, ← HF.out, downU_stop (.inr (by rw [← HG.out, ← HG.out]; exact ltU_n hl))]))
                    · have hl : (!ltInt (G j) (G (j - 1))) = false := by assumption
                      have HL := Lib.hid hl
                      clear hl
                      go_region
                      all_goals go_wp2
                      go_roundw
                      case rel => exact ⟨j - 1, swp dj j (j - 1), by congr 1; omega, by omega, Lib.hid ((HS.out.drewN (nq + 1)).swapAt (i := j) (j := j - 1) (by omega) (by omega) (HG.out _) (HG.out _) (by omega) (by omega)), Lib.hid (by rw [← HF.out, downU_go h1 (by rw [← HG.out, ← HG.out]; exact ltU_nf HL.out)])⟩
                      case measure => simp [intOf]; omega
                  · have h1I : ¬ (1 : Int) ≤ (j : Int) := by omega
                    go_wp2_with fail
                    go_meet
                    case rel => exact Lib.hid (HS.out.as (by rw [fixDown, if_pos h2, ← HF.out, downU_stop (.inl (by omega))]))
              · have htt : tb = false := by rw [← HTB.out]; exact decide_eq_false (by omega)
                clear HTB
                subst htt
                go_wp2_with fail
                go_meet
                case rel => exact Lib.hid (HS1.out.as (by rw [fixDown, if_neg h2]))
            case rest =>
              clear HS1
              have HS2 := hcut
              clear hcut
              obtain ⟨wb, hwb⟩ : ∃ W, W = wc := ⟨wc, rfl⟩
              subst hwb
              obtain ⟨d2, hd2⟩ : ∃ x, fixDown ltInt a k d1 = x := ⟨_, rfl⟩
              rw [hd2] at HS2 HE2
              clear hd2
              have HS1 := HS2
              clear HS2
              by_cases h2 : b - k ≥ 2
              · have h2I : 2 ≤ (b : Int) - (k : Int) := by omega
                go_wp2_with fail
                go_loopw [10] (fun v wr => ∃ (j : Nat) (dj : Array Int), v = .int .i64 (j : Int) ∧ k + 1 ≤ j ∧ j ≤ b ∧ Hid (Su w0 wr J g off n c dj) ∧ Hid (shiftUp ltInt b j dj = shiftUp ltInt b (k + 1) d2)) (fun v _ => b - (intOf v).toNat)
                case atStart => exact ⟨k + 1, d2, by go_num, Nat.le_refl _, by omega, HS1, Lib.hid rfl⟩
                case round =>
                  clear HS1
                  obtain ⟨j, dj, rfl, hkj, hjb, HS, HF⟩ := hrel
                  obtain ⟨G, HG, hcw, hfw⟩ := HS.out.fam
                  by_cases h1 : j < b
                  · have h1I : (j : Int) < (b : Int) := by omega
                    have hjN : (j : Int) < (n : Int) := by omega
                    have hj1 : (0 : Int) ≤ (j : Int) - 1 := by omega
                    go_wp2_with fail
                    go_quiet (first | (go_at_call 59; refine Calls.quiet_of_same (lessU _ _ _)))
                    go_wp2
                    · have hl : (!ltInt (G j) (G (j - 1))) = true := by assumption
                      have HS9 : Hid (Su w0 _ J g off n c (fixUp ltInt b k d2)) := Lib.hid ((HS.out.drewN nq).as (by rw [fixUp, if_pos h2, ← HF.out, upU_stop (.inr (by rw [← HG.out, ← HG.out]; exact ltU_n hl))]))
                      go_wp2_with fail
                      go_roundw
                      case rel => exact ⟨k, s + 1, _, rfl, by go_num, by omega, by omega, by omega, HS9, HE2⟩
                      case measure => simp [intOf]; omega
                    · have hl : (!ltInt (G j) (G (j - 1))) = false := by assumption
                      have HL := Lib.hid hl
                      clear hl
                      go_region
                      all_goals go_wp2
                      go_roundw
                      case rel => exact ⟨j + 1, swp dj j (j - 1), by go_num, by omega, by omega, Lib.hid ((HS.out.drewN (nq + 1)).swapAt (i := j) (j := j - 1) (by omega) (by omega) (HG.out _) (HG.out _) (by omega) (by omega)), Lib.hid (by rw [← HF.out, upU_go h1 (by rw [← HG.out, ← HG.out]; exact ltU_nf HL.out)])⟩
                      case measure => simp [intOf]; omega
                  · have h1I : ¬ (j : Int) < (b : Int) := by omega
                    go_wp2_with fail
                    have HS9 : Hid (Su w0 _ J g off n c (fixUp ltInt b k d2)) := Lib.hid (HS.out.as (by rw [fixUp, if_pos h2, ← HF.out, upU_stop (.inl h1)]))
                    go_wp2_with fail
                    go_roundw
                    case rel => exact ⟨k, s + 1, _, rfl, by go_num, by omega, by omega, by omega, HS9, HE2⟩
                    case measure => simp [intOf]; omega
              · have h2I : ¬ 2 ≤ (b : Int) - (k : Int) := by omega
                go_wp2_with fail
                have HS9 : Hid (Su w0 _ J g off n c (fixUp ltInt b k d2)) := Lib.hid (HS1.out.as (by rw [fixUp, if_neg h2]))
                go_wp2_with fail
                go_roundw
                case rel => exact ⟨k, s + 1, _, rfl, by go_num, by omega, by omega, by omega, HS9, HE2⟩
                case measure => simp [intOf]; omega
    · have hsI : ¬ (s : Int) < 5 := by omega
      have HR : Hid (partialInsertionSort ltInt d a b = (dk, false)) := Lib.hid (by rw [← HE.out, show 5 - s = 0 by omega]; rfl)
      go_wp2_with fail
      go_ret
      first
        | exact ⟨false, dk, rfl, HR.out, HS.out⟩
        | exact .inl ⟨rfl, dk, HR.out, HS.out⟩
end Go.Proofs.Ytjmelhmjcbliaaa

namespace Go.Proofs.Ytjmelhmjcbliaaa
open Go Go.RowKit Go.Sort
set_option linter.unusedVariables false
set_option linter.unusedSimpArgs false
set_option linter.unusedSectionVars false
set_option maxRecDepth 100000
set_option linter.unusedSimpArgs false
set_option linter.unusedSectionVars false
set_option maxRecDepth 100000

theorem xor_nat {x y : Nat} (hx : x < 18446744073709551616) (hy : y < 18446744073709551616) : ∃ z : Nat, z < 18446744073709551616 ∧ bits .xor .u64 (x : Int) (y : Int) = (z : Int) :=
  ⟨_, Nat.xor_lt_two_pow (n := 64) (by omega) (by omega), bits_xor_u64_nat _ _ hx hy⟩
theorem shl_nat (x : Nat) (m : Nat) : ∃ y : Nat, y < 18446744073709551616 ∧ IntKind.u64.wrap ((x : Int) * (m : Int)) = (y : Int) := ⟨(x * m) % 18446744073709551616, Nat.mod_lt _ (by decide), by
  rw [IntKind.wrap_u64, Int.natCast_emod, Int.natCast_mul]; rfl⟩
set_option maxHeartbeats 4000000 in
theorem nextU {k X : Nat} (hX : X < 18446744073709551616) (w : World) (hc : w.cell? ⟨k, 0, none⟩ = some (.int .u64 (X : Int))) (hf : w.frozen? ⟨k, 0, none⟩ = false) :
    Calls Try.prog 66 #[.pointer (some ⟨k, 0, none⟩)] w fun e w' => ∃ z : Nat, z < 18446744073709551616 ∧ e = .returned (.int .u64 (z : Int)) ∧ w' = (w.setCell ⟨k, 0, none⟩ (.int .u64 (z : Int))).drewN 3 := by
  obtain ⟨y1, hy1, e1⟩ := shl_nat X 8192
  obtain ⟨z1, hz1, f1⟩ := xor_nat hX hy1
  obtain ⟨z2, hz2, f2⟩ := xor_nat hz1 (show z1 / 128 < 18446744073709551616 by omega)
  obtain ⟨y3, hy3, e3⟩ := shl_nat z2 131072
  obtain ⟨z3, hz3, f3⟩ := xor_nat hz2 hy3
  have g1 : bits .xor .u64 (X : Int) (IntKind.u64.wrap ((X : Int) * 8192)) = (z1 : Int) := by rw [← f1, ← e1]; rfl
  have g2 : bits .xor .u64 (z1 : Int) ((z1 : Int) / 128) = (z2 : Int) := by rw [← f2]; norm_cast
  have g3 : bits .xor .u64 (z2 : Int) (IntKind.u64.wrap ((z2 : Int) * 131072)) = (z3 : Int) := by rw [← f3, ← e3]; rfl
  clear e1 e3 f1 f2 f3
  have hss : ∀ v v', (w.setCell ⟨k, 0, none⟩ v).setCell ⟨k, 0, none⟩ v' = w.setCell ⟨k, 0, none⟩ v' := setCell_setCell w k 0
  have HZ := Lib.hid hz3
  go_enter Try.func66, Try.ntmps66
  go_wp2_with fail
  go_region
  all_goals go_wp2_with fail
  all_goals go_region
  all_goals go_wp2_with fail
  all_goals go_region
  all_goals go_wp2_with fail
  go_ret
  exact ⟨z3, HZ.out, rfl, rfl⟩
set_option maxHeartbeats 4000000 in
theorem powU {n : Nat} (h0 : 0 < n) (hn : n < 2305843009213693952) (w : World) :
    Calls Try.prog 65 #[.int .i64 (n : Int)] w fun e w' => ∃ M : Nat, n < M ∧ M ≤ 2 * n ∧ e = .returned (.int .u64 (M : Int)) ∧ w = w' := by
  have hl := Try.bits_Len (n : Int) w (by omega) (by omega)
  rw [Int.toNat_natCast, bitLen_eq _ (by omega)] at hl
  obtain ⟨r, hr⟩ : ∃ r, bitsLen n = r := ⟨_, rfl⟩
  rw [hr] at hl
  have hk : r ≤ 62 := by rw [← hr]; exact (bitsLen_le_iff n 62).2 (by omega)
  have hp := wrap_two_pow r hk
  have h1 : n < 1 <<< r := by rw [Nat.shiftLeft_eq, Nat.one_mul, ← hr]; exact lt_two_pow_bitsLen n
  have h2 : 1 <<< r ≤ 2 * n := by rw [Nat.shiftLeft_eq, Nat.one_mul, ← hr]; exact two_pow_bitsLen_le h0
  obtain ⟨M, hM⟩ : ∃ M, 1 <<< r = M := ⟨_, rfl⟩
  rw [hM] at hp h1 h2
  have hw : IntKind.u64.wrap (n : Int) = (n : Int) := by rw [IntKind.wrap_u64]; omega
  have HL := Lib.hid hl
  have H12 := Lib.hid (And.intro h1 h2)
  have hr0 : (0 : Int) ≤ (r : Int) := by omega
  clear hl hr h1 h2 hM
  go_enter Try.func65, Try.ntmps65
  go_wp2_with (go_at_call 52; refine HL.out.mono ?_; rintro e w2 ⟨rfl, rfl⟩)
  go_ret
  exact ⟨M, H12.out.1, H12.out.2, by first | rfl | simp [hp], rfl⟩
theorem and_nat {x y : Nat} (hx : x < 18446744073709551616) (hy : y < 18446744073709551616) : ∃ z : Nat, z ≤ y ∧ bits .and .u64 (x : Int) (y : Int) = (z : Int) :=
  ⟨_, Nat.and_le_right, bits_and_u64_nat _ _ hx hy⟩
/-- A box of a number. -/
def RxR (k : Nat) : Res := ExR fun z : Nat => AndR (z < 18446744073709551616) (Blk k (.cells #[.int .u64 (z : Int)] 98 (0, 0)))
instance {k : Nat} : Stab (RxR k) := by unfold RxR; infer_instance
theorem Own.rx {w0 w : World} {k : Nat} {J : Res} [Stab J] (h : Own w0 w (Sep (RxR k) J)) : ∃ z : Nat, z < 18446744073709551616 ∧ w.cell? ⟨k, 0, none⟩ = some (.int .u64 (z : Int)) ∧ w.frozen? ⟨k, 0, none⟩ = false ∧
    ∀ x : Nat, x < 18446744073709551616 → Own w0 (w.setCell ⟨k, 0, none⟩ (.int .u64 (x : Int))) (Sep (RxR k) J) := by
  unfold RxR at h
  obtain ⟨z, h⟩ := h.exR
  obtain ⟨hz, h⟩ := h.andR
  have hb := h.blkT
  refine ⟨z, hz, ?_, ?_, fun x hx => ?_⟩
  · unfold World.cell?; rw [hb]; rfl
  · unfold World.frozen?; rw [hb]; rfl
  · have h2 := h.store 0 (.int .u64 (x : Int))
    unfold RxR
    exact Own.exI x (Own.andI hx h2)
theorem Su.rx {w0 w : World} {k : Nat} {J : Res} [Stab J] {g off n c : Nat} {d : Array Int} (h : Su w0 w (Sep (RxR k) J) g off n c d) : ∃ z : Nat, z < 18446744073709551616 ∧ w.cell? ⟨k, 0, none⟩ = some (.int .u64 (z : Int)) ∧ w.frozen? ⟨k, 0, none⟩ = false ∧
    ∀ x : Nat, x < 18446744073709551616 → Su w0 (w.setCell ⟨k, 0, none⟩ (.int .u64 (x : Int))) (Sep (RxR k) J) g off n c d := by
  obtain ⟨h1, h2, h3⟩ := h
  obtain ⟨z, a1, a2, a3, a4⟩ := h3.swap.rx
  exact ⟨z, a1, a2, a3, fun x hx => ⟨h1, h2, (a4 x hx).swap⟩⟩
theorem Su.rxNew {w0 w : World} {J : Res} [Stab J] {g off n c : Nat} {d : Array Int} (h : Su w0 w J g off n c d) {s : Nat} (hs : s < 18446744073709551616) :
    Su w0 (w.alloc (.cells #[.int .u64 (s : Int)] 98)) (Sep (RxR w.heap.size) J) g off n c d := by
  obtain ⟨h1, h2, h3⟩ := h
  have h4 := h3.alloc (.cells #[.int .u64 (s : Int)] 98)
  refine ⟨h1, h2, Own.swap ?_⟩
  unfold RxR
  exact Own.exI s (Own.andI hs h4)
theorem Su.forget {w0 w : World} {k : Nat} {J : Res} {g off n c : Nat} {d : Array Int} (h : Su w0 w (Sep (RxR k) J) g off n c d) : Su w0 w J g off n c d := ⟨h.1, h.2.1, h.2.2.drop2⟩
set_option maxHeartbeats 8000000 in
theorem breakU {w0 w : World} {J : Res} [Stab J] {g off n c : Nat} {d : Array Int} (h : Su w0 w J g off n c d) {a b : Nat} (hab : a + 8 ≤ b) (hb : b ≤ n) (hsz : n < 2305843009213693952) :
    Calls Try.prog 55 #[.slice (some ⟨g, off, none⟩) n c, .int .i64 (a : Int), .int .i64 (b : Int)] w fun e w' => e = .returned (.tuple #[]) ∧ ∃ d', PermIn a b d d' ∧ Su w0 w' J g off n c d' := by
  obtain ⟨s, hs⟩ : ∃ s, b - a = s := ⟨_, rfl⟩
  have hsI : (b : Int) - (a : Int) = (s : Int) := by omega
  have h8 : (8 : Int) ≤ (s : Int) := by omega
  have hwu : IntKind.u64.wrap (s : Int) = (s : Int) := by rw [IntKind.wrap_u64]; omega
  have HPW := Lib.hid (fun W => powU (n := s) (by omega) (by omega) W)
  have H0 := Lib.hid h
  clear h hs
  go_enter Try.func55, Try.ntmps55
  go_wp2_with fail
  have HS1 := Lib.hid (H0.out.rxNew (s := s) (by omega))
  clear H0
  obtain ⟨k, hk⟩ : ∃ k, w.heap.size = k := ⟨_, rfl⟩
  rw [hk] at HS1 ⊢
  generalize World.alloc w _ = w1 at *
  clear hk
  refine (HPW.out _).mono ?_
  rintro e w2 ⟨M, hM1, hM2, rfl, rfl⟩
  clear HPW hwu
  obtain ⟨x0, hx0⟩ : ∃ x, a + s / 4 * 2 - 1 = x := ⟨_, rfl⟩
  have hx1 : x0 + 1 = a + s / 4 * 2 := by omega
  have hx3 : x0 + 3 ≤ b := by omega
  clear hx0
  go_wp2_with fail
  go_loopw [9] (fun v wr => ∃ (x : Nat) (dk : Array Int), v = .int .i64 (x : Int) ∧ x0 ≤ x ∧ x ≤ x0 + 3 ∧ Hid (Su w0 wr (Sep (RxR k) J) g off n c dk) ∧ Hid (PermIn a b d dk)) (fun v _ => x0 + 3 - (intOf v).toNat)
  case atStart => exact ⟨x0, d, by congr 1; omega, Nat.le_refl _, by omega, HS1, Lib.hid (permIn_refl _ _ _)⟩
  case round =>
    clear HS1
    obtain ⟨x, dk, rfl, hx0, hx, HS, HP⟩ := hrel
    by_cases h3 : x < x0 + 3
    · have hle : (x : Int) ≤ (a : Int) + (s : Int) / 4 * 2 + 1 := by omega
      obtain ⟨z, hz, hcz, hfz, hnx⟩ := HS.out.rx
      have hkz : dk.size = n := HS.out.size
      have HN := Lib.hid (nextU hz wr hcz hfz)
      have HNX := Lib.hid hnx
      clear hnx hcz hfz HS
      go_wp2_with fail
      refine HN.out.mono ?_
      rintro e w3 ⟨z2, hz2, rfl, rfl⟩
      have HS2 := Lib.hid ((HNX.out z2 hz2).drewN 3)
      clear HNX HN
      generalize World.drewN _ 3 = w3 at *
      obtain ⟨M1, hM3⟩ : ∃ m, M = m + 1 := ⟨M - 1, by omega⟩
      have hM4 : (M : Int) - 1 = (M1 : Int) := by omega
      have hM5 : M1 + 1 ≤ 2 * s := by omega
      clear hM3
      obtain ⟨o, ho, hob⟩ := and_nat hz2 (show M1 < 18446744073709551616 by omega)
      by_cases hos : s ≤ o
      · obtain ⟨q, hq⟩ : ∃ q, o - s = q := ⟨_, rfl⟩
        have hqs : q < s := by omega
        have hosI : (s : Int) ≤ (o : Int) := by omega
        have hqI : (o : Int) - (s : Int) = (q : Int) := by omega
        have haq : (a : Int) + (q : Int) < (n : Int) := by omega
        have haq0 : (0 : Int) ≤ (a : Int) + (q : Int) := by omega
        have hix : (x : Int) < (n : Int) := by omega
        obtain ⟨G, HG, hcw, hfw⟩ := HS2.out.fam
        obtain ⟨v', hv'⟩ := cell?_setCell_some (w := w3) (p := ⟨g, off + x, none⟩) (x := .int .u64 (G (a + q))) (q := ⟨g, off + (a + q), none⟩) (hcw (a + q) (by omega))
        have HS3 := Lib.hid ((HS2.out.swapAt (i := x) (j := a + q) (by omega) (by omega) (HG.out _) (HG.out _) rfl rfl).drew)
        go_wp2_with fail
        go_region
        generalize World.drew _ = w4 at *
        clear hcw hfw hv' v' HS2
        go_wp2_with fail
        go_roundw
        case rel => exact ⟨x + 1, _, by go_num, by omega, by omega, HS3, Lib.hid (permIn_trans _ _ _ _ _ HP.out (swp_permIn _ a b x (a + q) (by omega) (by omega) (by omega) (by omega) (by omega)))⟩
        case measure => simp [intOf]; omega
      · obtain ⟨q, hq⟩ : ∃ q, o = q := ⟨_, rfl⟩
        have hqs : q < s := by omega
        have hq2 := hq.symm
        clear hq
        subst hq2
        have hosI : ¬ (s : Int) ≤ (q : Int) := by omega
        have haq : (a : Int) + (q : Int) < (n : Int) := by omega
        have haq0 : (0 : Int) ≤ (a : Int) + (q : Int) := by omega
        have hix : (x : Int) < (n : Int) := by omega
        obtain ⟨G, HG, hcw, hfw⟩ := HS2.out.fam
        obtain ⟨v', hv'⟩ := cell?_setCell_some (w := w3) (p := ⟨g, off + x, none⟩) (x := .int .u64 (G (a + q))) (q := ⟨g, off + (a + q), none⟩) (hcw (a + q) (by omega))
        have HS3 := Lib.hid ((HS2.out.swapAt (i := x) (j := a + q) (by omega) (by omega) (HG.out _) (HG.out _) rfl rfl).drew)
        go_wp2_with fail
        go_region
        generalize World.drew _ = w4 at *
        clear hcw hfw hv' v' HS2
        go_wp2_with fail
        go_roundw
        case rel => exact ⟨x + 1, _, by go_num, by omega, by omega, HS3, Lib.hid (permIn_trans _ _ _ _ _ HP.out (swp_permIn _ a b x (a + q) (by omega) (by omega) (by omega) (by omega) (by omega)))⟩
        case measure => simp [intOf]; omega
    · have hle : ¬ (x : Int) ≤ (a : Int) + (s : Int) / 4 * 2 + 1 := by omega
      go_wp2_with fail
      go_end0
      exact ⟨rfl, dk, HP.out, HS.out.forget⟩
end Go.Proofs.Ytjmelhmjcbliaaa

namespace Go.Proofs.Ytjmelhmjcbliaaa
open Go Go.RowKit Go.Sort
set_option linter.unusedVariables false
set_option linter.unusedSimpArgs false
set_option linter.unusedSectionVars false
set_option maxRecDepth 100000
set_option linter.unusedSimpArgs false
set_option linter.unusedSectionVars false
set_option maxRecDepth 100000

/-- A box of an int. -/
def IxR (k : Nat) : Res := ExR fun z : Int => Blk k (.cells #[.int .i64 z] 3 (0, 0))
instance {k : Nat} : Stab (IxR k) := by unfold IxR; infer_instance
theorem Own.ix {w0 w : World} {k : Nat} {J : Res} [Stab J] (h : Own w0 w (Sep (IxR k) J)) : ∃ z : Int, w.cell? ⟨k, 0, none⟩ = some (.int .i64 z) ∧ w.frozen? ⟨k, 0, none⟩ = false ∧
    ∀ x : Int, Own w0 (w.setCell ⟨k, 0, none⟩ (.int .i64 x)) (Sep (IxR k) J) := by
  unfold IxR at h
  obtain ⟨z, h⟩ := h.exR
  have hb := h.blkT
  refine ⟨z, ?_, ?_, fun x => ?_⟩
  · unfold World.cell?; rw [hb]; rfl
  · unfold World.frozen?; rw [hb]; rfl
  · have h2 := h.store 0 (.int .i64 x)
    unfold IxR
    exact Own.exI x h2
theorem Su.ix {w0 w : World} {k : Nat} {J : Res} [Stab J] {g off n c : Nat} {d : Array Int} (h : Su w0 w (Sep (IxR k) J) g off n c d) : ∃ z : Int, w.cell? ⟨k, 0, none⟩ = some (.int .i64 z) ∧ w.frozen? ⟨k, 0, none⟩ = false ∧
    ∀ x : Int, Su w0 (w.setCell ⟨k, 0, none⟩ (.int .i64 x)) (Sep (IxR k) J) g off n c d := by
  obtain ⟨h1, h2, h3⟩ := h
  obtain ⟨z, a2, a3, a4⟩ := h3.swap.ix
  exact ⟨z, a2, a3, fun x => ⟨h1, h2, (a4 x).swap⟩⟩
theorem Su.ixNew {w0 w : World} {J : Res} [Stab J] {g off n c : Nat} {d : Array Int} (h : Su w0 w J g off n c d) (s : Int) :
    Su w0 (w.alloc (.cells #[.int .i64 s] 3)) (Sep (IxR w.heap.size) J) g off n c d := by
  obtain ⟨h1, h2, h3⟩ := h
  have h4 := h3.alloc (.cells #[.int .i64 s] 3)
  refine ⟨h1, h2, Own.swap ?_⟩
  unfold IxR
  exact Own.exI s h4
theorem Su.forgetI {w0 w : World} {k : Nat} {J : Res} {g off n c : Nat} {d : Array Int} (h : Su w0 w (Sep (IxR k) J) g off n c d) : Su w0 w J g off n c d := ⟨h.1, h.2.1, h.2.2.drop2⟩
/-- Either order. -/
def Two (a b x y : Nat) : Prop := (x = a ∧ y = b) ∨ (x = b ∧ y = a)
set_option maxHeartbeats 4000000 in
theorem order2U {w0 w : World} {J : Res} [Stab J] {g off n c k : Nat} {d : Array Int} (h : Su w0 w (Sep (IxR k) J) g off n c d) {a b : Nat} (ha : a < n) (hb : b < n) (hsz : n < 2305843009213693952) :
    Calls Try.prog 70 #[.slice (some ⟨g, off, none⟩) n c, .int .i64 (a : Int), .int .i64 (b : Int), .pointer (some ⟨k, 0, none⟩)] w fun e w' => ∃ x y : Nat, e = .returned (.tuple #[.int .i64 (x : Int), .int .i64 (y : Int)]) ∧ Two a b x y ∧ Su w0 w' (Sep (IxR k) J) g off n c d := by
  have H0 := Lib.hid h
  obtain ⟨G, HG, hcw, hfw⟩ := h.fam
  have haI : (a : Int) < (n : Int) := by omega
  have hbI : (b : Int) < (n : Int) := by omega
  clear h
  go_enter Try.func70, Try.ntmps70
  go_wp2_with fail
  go_quiet (first | (go_at_call 59; refine Calls.quiet_of_same (lessU _ _ _)))
  have HS := Lib.hid (H0.out.drewN nq)
  clear H0 hcw hfw
  generalize World.drewN w nq = w1 at *
  obtain ⟨z, hcz, hfz, hst⟩ := HS.out.ix
  have HST := Lib.hid hst
  clear hst
  go_wp2_with fail
  · go_ret2
    exact ⟨b, a, rfl, .inr ⟨rfl, rfl⟩, HST.out _⟩
  · go_ret2
    exact ⟨a, b, rfl, .inl ⟨rfl, rfl⟩, HS.out⟩
theorem Two.lt {a b x y n : Nat} (h : Two a b x y) (ha : a < n) (hb : b < n) : x < n ∧ y < n := by
  rcases h with ⟨rfl, rfl⟩ | ⟨rfl, rfl⟩
  · exact ⟨ha, hb⟩
  · exact ⟨hb, ha⟩
theorem two_mem {a b x y : Nat} {S : Nat → Prop} (h : Two a b x y) (ha : S a) (hb : S b) : S x ∧ S y := by
  rcases h with ⟨rfl, rfl⟩ | ⟨rfl, rfl⟩
  · exact ⟨ha, hb⟩
  · exact ⟨hb, ha⟩
set_option maxHeartbeats 4000000 in
theorem medianU {w0 w : World} {J : Res} [Stab J] {g off n c k : Nat} {d : Array Int} (h : Su w0 w (Sep (IxR k) J) g off n c d) {a b m lo hi : Nat} (ha : lo ≤ a ∧ a < hi) (hb : lo ≤ b ∧ b < hi) (hm : lo ≤ m ∧ m < hi) (hn : hi ≤ n) (hsz : n < 2305843009213693952) :
    Calls Try.prog 68 #[.slice (some ⟨g, off, none⟩) n c, .int .i64 (a : Int), .int .i64 (b : Int), .int .i64 (m : Int), .pointer (some ⟨k, 0, none⟩)] w fun e w' => ∃ x : Nat, e = .returned (.int .i64 (x : Int)) ∧ lo ≤ x ∧ x < hi ∧ Su w0 w' (Sep (IxR k) J) g off n c d := by
  have H0 := Lib.hid (order2U h (a := a) (b := b) (by omega) (by omega) hsz)
  have HB := Lib.hid (And.intro ha (And.intro hb hm))
  clear h ha hb hm
  go_enter Try.func68, Try.ntmps68
  go_wp2_with fail
  refine H0.out.mono ?_
  rintro e w1 ⟨x, y, rfl, h2, hS⟩
  have hq := two_mem (S := fun x => lo ≤ x ∧ x < hi) h2 HB.out.1 HB.out.2.1
  have H1 := Lib.hid (order2U hS (a := y) (b := m) (by have := hq.2; omega) (by have := HB.out.2.2; omega) hsz)
  have HQ := Lib.hid hq
  clear H0 h2 hS hq
  go_wp2_with fail
  refine H1.out.mono ?_
  rintro e w2 ⟨u, v, rfl, h2, hS⟩
  have hq := two_mem (S := fun x => lo ≤ x ∧ x < hi) h2 HQ.out.2 HB.out.2.2
  have H2 := Lib.hid (order2U hS (a := x) (b := u) (by have := HQ.out.1; omega) (by have := hq.1; omega) hsz)
  have HQ2 := Lib.hid hq
  clear H1 h2 hS hq
  go_wp2_with fail
  refine H2.out.mono ?_
  rintro e w3 ⟨p, r, rfl, h2, hS⟩
  have hq := two_mem (S := fun x => lo ≤ x ∧ x < hi) h2 HQ.out.1 HQ2.out.1
  have HQ3 := Lib.hid hq
  have HS := Lib.hid hS
  clear H2 h2 hS hq
  go_wp2_with fail
  go_ret
  exact ⟨r, rfl, HQ3.out.2.1, HQ3.out.2.2, HS.out⟩
set_option maxHeartbeats 4000000 in
theorem medAdjU {w0 w : World} {J : Res} [Stab J] {g off n c k : Nat} {d : Array Int} (h : Su w0 w (Sep (IxR k) J) g off n c d) {a lo hi : Nat} (ha : lo < a) (hb : a + 1 < hi) (hn : hi ≤ n) (hsz : n < 2305843009213693952) :
    Calls Try.prog 67 #[.slice (some ⟨g, off, none⟩) n c, .int .i64 (a : Int), .pointer (some ⟨k, 0, none⟩)] w fun e w' => ∃ x : Nat, e = .returned (.int .i64 (x : Int)) ∧ lo ≤ x ∧ x < hi ∧ Su w0 w' (Sep (IxR k) J) g off n c d := by
  have hm := medianU h (a := a - 1) (b := a) (m := a + 1) (lo := lo) (hi := hi) (by omega) (by omega) (by omega) hn hsz
  rw [show ((a - 1 : Nat) : Int) = (a : Int) - 1 by omega, show ((a + 1 : Nat) : Int) = (a : Int) + 1 by omega] at hm
  have H0 := Lib.hid hm
  have ha0 : (1 : Int) ≤ (a : Int) := by omega
  clear h hm
  go_enter Try.func67, Try.ntmps67
  go_wp2_with fail
  refine H0.out.mono ?_
  rintro e w1 ⟨x, rfl, h1, h2, hS⟩
  have HS := Lib.hid (And.intro h1 (And.intro h2 hS))
  clear H0 h1 h2 hS
  go_wp2_with fail
  go_ret
  exact ⟨x, rfl, HS.out⟩
set_option maxHeartbeats 8000000 in
theorem pivotU {w0 w : World} {J : Res} [Stab J] {g off n c : Nat} {d : Array Int} (h : Su w0 w J g off n c d) {a b : Nat} (hab : a + 8 ≤ b) (hb : b ≤ n) (hsz : n < 2305843009213693952) :
    Calls Try.prog 56 #[.slice (some ⟨g, off, none⟩) n c, .int .i64 (a : Int), .int .i64 (b : Int)] w fun e w' => ∃ (x : Nat) (t : Int), e = .returned (.tuple #[.int .i64 (x : Int), .int .i64 t]) ∧ a ≤ x ∧ x < b ∧ (t = 0 ∨ t = 1 ∨ t = 2) ∧ Su w0 w' J g off n c d := by
  obtain ⟨s, hs⟩ : ∃ s, b - a = s := ⟨_, rfl⟩
  have hsI : (b : Int) - (a : Int) = (s : Int) := by omega
  have h8 : (8 : Int) ≤ (s : Int) := by omega
  obtain ⟨q, hq⟩ : ∃ q, s / 4 = q := ⟨_, rfl⟩
  have hqI : (s : Int) / 4 = (q : Int) := by omega
  have hq2 : 2 ≤ q ∧ a + 4 * q ≤ b := by omega
  have H0 := Lib.hid (h.ixNew 0)
  have HSQ : Hid (50 ≤ s → 12 ≤ q) := Lib.hid (by omega)
  clear h hs hq
  obtain ⟨k, hk⟩ : ∃ k, w.heap.size = k := ⟨_, rfl⟩
  rw [hk] at H0
  have hi0 : (a : Int) + (q : Int) = ((a + q : Nat) : Int) := by omega
  obtain ⟨i0, hi⟩ : ∃ i, a + q = i := ⟨_, rfl⟩
  rw [hi] at hi0
  have hj0 : (a : Int) + (q : Int) * 2 = ((a + q * 2 : Nat) : Int) := by omega
  obtain ⟨j0, hj⟩ : ∃ i, a + q * 2 = i := ⟨_, rfl⟩
  rw [hj] at hj0
  have hk0 : (a : Int) + (q : Int) * 3 = ((a + q * 3 : Nat) : Int) := by omega
  obtain ⟨k0, hkk⟩ : ∃ i, a + q * 3 = i := ⟨_, rfl⟩
  rw [hkk] at hk0
  have HIJ : Hid (a < i0 ∧ i0 + 1 < b ∧ a < j0 ∧ j0 + 1 < b ∧ a < k0 ∧ k0 + 1 < b) := Lib.hid (by omega)
  clear hi hj hkk
  by_cases h50 : 50 ≤ s
  · have h50I : (50 : Int) ≤ (s : Int) := by omega
    go_enter Try.func56, Try.ntmps56
    go_wp2_with fail
    generalize World.alloc w _ = w1 at *
    refine (medAdjU H0.out (a := i0) (lo := a) (hi := b) (by have := HIJ.out; omega) (by have := HIJ.out; omega) hb hsz).mono ?_
    rintro e w2 ⟨y1, rfl, a1, a2, hS⟩
    have H1 := Lib.hid (And.intro a1 (And.intro a2 hS))
    clear H0 a1 a2 hS
    go_wp2_with fail
    refine (medAdjU H1.out.2.2 (a := j0) (lo := a) (hi := b) (by have := HIJ.out; omega) (by have := HIJ.out; omega) hb hsz).mono ?_
    rintro e w3 ⟨y2, rfl, a1, a2, hS⟩
    have H2 := Lib.hid (And.intro a1 (And.intro a2 hS))
    clear a1 a2 hS
    go_wp2_with fail
    refine (medAdjU H2.out.2.2 (a := k0) (lo := a) (hi := b) (by have := HIJ.out; omega) (by have := HIJ.out; omega) hb hsz).mono ?_
    rintro e w4 ⟨y3, rfl, a1, a2, hS⟩
    have H3 := Lib.hid (And.intro a1 (And.intro a2 hS))
    clear a1 a2 hS
    go_wp2_with fail
    refine (medianU H3.out.2.2 (a := y1) (b := y2) (m := y3) (lo := a) (hi := b) ⟨H1.out.1, H1.out.2.1⟩ ⟨H2.out.1, H2.out.2.1⟩ ⟨H3.out.1, H3.out.2.1⟩ hb hsz).mono ?_
    rintro e w5 ⟨x, rfl, x1, x2, hS⟩
    have HX := Lib.hid (And.intro x1 (And.intro x2 hS.forgetI))
    obtain ⟨z, hcz, hfz, _⟩ := hS.ix
    clear x1 x2 hS
    by_cases hz0 : z = 0
    · have hzB : (z == 0) = true := by simp [hz0]
      go_wp2_with fail
      go_ret2
      exact ⟨x, 1, rfl, HX.out.1, HX.out.2.1, .inr (.inl rfl), HX.out.2.2⟩
    · have hzB : (z == 0) = false := by simp [hz0]
      by_cases hz1 : z = 12
      · have hzC : (z == 12) = true := by simp [hz1]
        go_wp2_with fail
        go_ret2
        exact ⟨x, 2, rfl, HX.out.1, HX.out.2.1, .inr (.inr rfl), HX.out.2.2⟩
      · have hzC : (z == 12) = false := by simp [hz1]
        go_wp2_with fail
        go_ret2
        exact ⟨x, 0, rfl, HX.out.1, HX.out.2.1, .inl rfl, HX.out.2.2⟩
  · have h50I : ¬ (50 : Int) ≤ (s : Int) := by omega
    go_enter Try.func56, Try.ntmps56
    go_wp2_with fail
    generalize World.alloc w _ = w1 at *
    refine (medianU H0.out (a := i0) (b := j0) (m := k0) (lo := a) (hi := b) (by have := HIJ.out; omega) (by have := HIJ.out; omega) (by have := HIJ.out; omega) hb hsz).mono ?_
    rintro e w5 ⟨x, rfl, x1, x2, hS⟩
    have HX := Lib.hid (And.intro x1 (And.intro x2 hS.forgetI))
    obtain ⟨z, hcz, hfz, _⟩ := hS.ix
    clear x1 x2 hS
    by_cases hz0 : z = 0
    · have hzB : (z == 0) = true := by simp [hz0]
      go_wp2_with fail
      go_ret2
      exact ⟨x, 1, rfl, HX.out.1, HX.out.2.1, .inr (.inl rfl), HX.out.2.2⟩
    · have hzB : (z == 0) = false := by simp [hz0]
      by_cases hz1 : z = 12
      · have hzC : (z == 12) = true := by simp [hz1]
        go_wp2_with fail
        go_ret2
        exact ⟨x, 2, rfl, HX.out.1, HX.out.2.1, .inr (.inr rfl), HX.out.2.2⟩
      · have hzC : (z == 12) = false := by simp [hz1]
        go_wp2_with fail
        go_ret2
        exact ⟨x, 0, rfl, HX.out.1, HX.out.2.1, .inl rfl, HX.out.2.2⟩
end Go.Proofs.Ytjmelhmjcbliaaa

namespace Go.Proofs.Ytjmelhmjcbliaaa
open Go Go.RowKit Go.Sort
set_option linter.unusedVariables false
set_option linter.unusedSimpArgs false
set_option linter.unusedSectionVars false
set_option maxRecDepth 100000
set_option linter.unusedSimpArgs false
set_option linter.unusedSectionVars false
set_option maxRecDepth 100000

/-- What a sorted part is. -/
def SoP (w0 w' : World) (J : Res) (g off n c : Nat) (a b : Nat) (d : Array Int) (e : Ending) : Prop := e = .returned (.tuple #[]) ∧ ∃ d', PermIn a b d d' ∧ SortedIn ltInt a b d' ∧ Su w0 w' J g off n c d'
/-- Where a round of it stands: the row is what it was but for the places between a1 and b1. -/
def SoR (w0 w' : World) (J : Res) (g off n c : Nat) (a1 b1 : Nat) (d : Array Int) : Prop := ∃ d', PermIn a1 b1 d d' ∧ Su w0 w' J g off n c d'
theorem Goes.fin {w0 w' : World} {J : Res} {g off n c a b a1 b1 : Nat} {d dk R : Array Int} (h : Goes a b a1 b1 d dk) (hR : PermIn a1 b1 dk R ∧ SortedIn ltInt a1 b1 R) (hS : Su w0 w' J g off n c R) : SoP w0 w' J g off n c a b d (.returned (.tuple #[])) :=
  ⟨rfl, R, (h.done hR.1 hR.2).1, (h.done hR.1 hR.2).2, hS⟩
/-- The sort of a part shorter than N. -/
def PdqI (N : Nat) : Prop := ∀ (w0 w : World) (J : Res) [Stab J] (g off n c : Nat) (d : Array Int) (h : Su w0 w J g off n c d) (a b lim : Nat) (hN : b - a < N) (hab : a ≤ b) (hb : b ≤ n) (hl : lim ≤ 1000) (hB : Below ltInt a b d) (hsz : n < 2305843009213693952),
    Calls Try.prog 51 #[.slice (some ⟨g, off, none⟩) n c, .int .i64 (a : Int), .int .i64 (b : Int), .int .i64 (lim : Int)] w fun e w' => SoP w0 w' J g off n c a b d e
set_option maxHeartbeats 16000000 in
theorem pdqU_step (N : Nat) (ih : PdqI N) : PdqI (N + 1) := by
  intro w0 w J _ g off n c d h a b lim hN hab hb hl hB hsz
  have H0 := Lib.hid h
  have HG0 := Lib.hid (Goes.start hab hB)
  have IH := Lib.hid ih
  have HNn := Lib.hid hN
  have hdn : d.size = n := h.size
  clear h hB ih hN
  go_enter Try.func51, Try.ntmps51
  go_wp2_with fail
  go_loopw [1, 2, 3, 8, 9] (fun s1 s2 s3 s8 s9 wr => ∃ (a1 b1 l1 : Nat) (wb wp : Bool) (dk : Array Int), s1 = .int .i64 (a1 : Int) ∧ s2 = .int .i64 (b1 : Int) ∧ s3 = .int .i64 (l1 : Int) ∧ s8 = .bool wb ∧ s9 = .bool wp ∧ l1 ≤ 1000 ∧ Hid (Goes a b a1 b1 d dk) ∧ Hid (Su w0 wr J g off n c dk)) (fun s1 s2 _ _ _ _ => (intOf s2).toNat - (intOf s1).toNat)
  case atStart => exact ⟨a, b, lim, true, true, d, rfl, rfl, rfl, rfl, rfl, hl, HG0, H0⟩
  case round =>
    clear H0 HG0
    obtain ⟨a1, b1, l1, wb, wp, dk, rfl, rfl, rfl, rfl, rfl, hl1, HG, HS⟩ := hrel
    have ha1 : a ≤ a1 := HG.out.1
    have hab1 : a1 ≤ b1 := HG.out.2.1
    have hb1 : b1 ≤ b := HG.out.2.2.1
    by_cases h12 : b1 - a1 ≤ 12
    · have h12I : (b1 : Int) - (a1 : Int) ≤ 12 := by omega
      have HC := Lib.hid (insertU HS.out (a := a1) (b := b1) hab1 (by omega) (by omega))
      go_wp2_with fail
      refine HC.out.mono ?_
      rintro e w2 ⟨rfl, hS⟩
      have HS2 := Lib.hid hS
      have HR := Lib.hid (HG.out.fin (insertionSort_holds swo_ltInt dk a1 b1 hab1 (by rw [HS.out.size]; omega)) hS)
      clear HC hS
      go_wp2_with fail
      (try simp only [Exit.inBlock, Exit.then])
      refine bodyPost_ret (results_none rfl _ _ _) rfl ?_
      exact HR.out
    · have h12I : ¬ (b1 : Int) - (a1 : Int) ≤ 12 := by omega
      by_cases hl0 : l1 = 0
      · subst hl0
        have HC := Lib.hid (heapU HS.out (a := a1) (b := b1) (by omega) (by omega) hsz)
        go_wp2_with fail
        refine HC.out.mono ?_
        rintro e w2 ⟨rfl, hS⟩
        have HR := Lib.hid (HG.out.fin (heapSort_holds swo_ltInt dk a1 b1 hab1 (by rw [HS.out.size]; omega)) hS)
        clear HC hS
        go_wp2_with fail
        (try simp only [Exit.inBlock, Exit.then])
        refine bodyPost_ret (results_none rfl _ _ _) rfl ?_
        exact HR.out
      · have hl0I : ¬ (l1 : Int) = 0 := by omega
        have hl0B : ((l1 : Int) == 0) = false := by simp; omega
        have hlI : (1 : Int) ≤ (l1 : Int) := by omega
        go_upto_if 35 with fail
        go_cut [3] from 36 to 41 (fun v wx => ∃ l2 : Nat, v = .int .i64 (l2 : Int) ∧ l2 ≤ 1000 ∧ Hid (SoR w0 wx J g off n c a1 b1 dk))
        case first =>
          cases wb with
          | true =>
            go_wp2_with fail
            go_meet
            case rel => exact ⟨l1, rfl, hl1, Lib.hid ⟨dk, permIn_refl _ _ _, HS.out⟩⟩
          | false =>
            have HC := Lib.hid (breakU HS.out (a := a1) (b := b1) (by omega) (by omega) hsz)
            go_wp2_with fail
            refine HC.out.mono ?_
            rintro e w2 ⟨rfl, hS⟩
            have HS2 := Lib.hid hS
            clear HC hS
            go_wp2_with fail
            go_meet
            case rel => exact ⟨l1 - 1, by congr 1; omega, by omega, Lib.hid HS2.out⟩
        case rest =>
          have hdk : dk.size = n := HS.out.size
          clear HS
          obtain ⟨l2, hl2, hl2b, HS1⟩ := hcut
          subst hl2
          clear hl0 hl0I hl0B hlI hl1
          obtain ⟨wa, hwa⟩ : ∃ W, W = wc := ⟨wc, rfl⟩
          subst hwa
          obtain ⟨d1, p1, hS⟩ := HS1.out
          have HC := Lib.hid (pivotU hS (a := a1) (b := b1) (by omega) (by omega) hsz)
          have HP1 := Lib.hid p1
          clear hS p1 HS1
          go_upto_if 50 with (go_at_call 56; refine HC.out.mono ?_; rintro e w2 ⟨x, t, rfl, hx1, hx2, ht, hS⟩)
          have HS := Lib.hid hS
          clear hS HC
          obtain ⟨tb, htb⟩ : ∃ q : Bool, (t == 2) = q := ⟨_, rfl⟩
          rw [htb]
          have HTB := Lib.hid htb
          clear htb
          go_cut [11, 12] from 51 to 60 (fun v u wx => ∃ (x : Nat) (t : Int), v = .int .i64 (x : Int) ∧ u = .int .i64 t ∧ a1 ≤ x ∧ x < b1 ∧ (t = 0 ∨ t = 1 ∨ t = 2) ∧ Hid (SoR w0 wx J g off n c a1 b1 dk))
          case first =>
            by_cases ht2 : t = 2
            · have htt : tb = true := by rw [← HTB.out]; simp [ht2]
              clear HTB
              subst htt ht2
              have HC := Lib.hid (turnU HS.out (a := a1) (b := b1) (by omega) (by omega) (by omega))
              have hxI : (b1 : Int) - 1 - ((x : Int) - (a1 : Int)) = ((b1 - 1 - (x - a1) : Nat) : Int) := by omega
              clear ht
              go_wp2_with fail
              refine HC.out.mono ?_
              rintro e w3 ⟨rfl, d2, p2, hS⟩
              have HS2 := Lib.hid hS
              have HP2 := Lib.hid p2
              clear HC hS p2
              go_wp2_with fail
              go_meet
              case rel => exact ⟨b1 - 1 - (x - a1), 1, by first | (congr 1; done) | (congr 1; omega), rfl, by omega, by omega, .inr (.inl rfl), Lib.hid ⟨d2, permIn_trans _ _ _ _ _ HP1.out HP2.out, HS2.out⟩⟩
            · have htt : tb = false := by rw [← HTB.out]; simp [ht2]
              clear HTB
              subst htt
              have HT := Lib.hid ht
              clear ht ht2
              go_wp2_with fail
              go_meet
              case rel => exact ⟨x, t, rfl, rfl, hx1, hx2, HT.out, Lib.hid ⟨d1, HP1.out, HS.out⟩⟩
          case rest =>
            clear HS HTB HP1 ht hx1 hx2
            obtain ⟨x2, t2, hxx, htt, hx1, hx2, ht2, HS2⟩ := hcut
            subst hxx htt
            obtain ⟨wb2, hwb2⟩ : ∃ W, W = wc := ⟨wc, rfl⟩
            subst hwb2
            obtain ⟨wv, hwv⟩ : ∃ W, W = wb2 := ⟨wb2, rfl⟩
            go_upto_region 15 with fail
            go_cut [68] from 61 to 68 (fun v wx => ∃ bb : Bool, v = .bool bb ∧ wx = wv)
            case first =>
              have ht3 : (t2 == 1) = true ∨ (t2 == 1) = false := by cases h : (t2 == 1) <;> simp
              cases wb with
              | true =>
                cases wp with
                | true =>
                  rcases ht3 with ht3 | ht3
                  · go_wp2_with fail
                    go_meet
                    case rel => exact ⟨_, rfl, hwv.symm⟩
                  · go_wp2_with fail
                    go_meet
                    case rel => exact ⟨_, rfl, hwv.symm⟩
                | false =>
                  go_wp2_with fail
                  go_meet
                  case rel => exact ⟨_, rfl, hwv.symm⟩
              | false =>
                go_wp2_with fail
                go_meet
                case rel => exact ⟨_, rfl, hwv.symm⟩
            case rest =>
              obtain ⟨bb, hbb, hww⟩ := hcut
              subst hbb hww hwv
              go_upto_if 68 with fail
              go_cut [] from 69 to 72 (fun wx => Hid (SoR w0 wx J g off n c a1 b1 dk))
              case first =>
                cases bb with
                | false =>
                  go_wp2_with fail
                  go_meet
                  case rel => exact HS2
                | true =>
                  obtain ⟨d2, p2, hS⟩ := HS2.out
                  have HC := Lib.hid (partialU hS (a := a1) (b := b1) (by omega) (by omega) hsz)
                  have HP2 := Lib.hid p2
                  have hb2 : b1 ≤ d2.size := by rw [hS.size]; omega
                  have HBL := Lib.hid ((HG.out.2.2.2.2.1).perm (by rw [hdk]; omega) p2)
                  clear hS p2
                  go_wp2_with fail
                  refine HC.out.mono ?_
                  rintro e w3 ⟨r, d3, rfl, hr, hS⟩
                  have hpi := partialInsertionSort_holds swo_ltInt d2 a1 b1 (by omega) hb2 HBL.out
                  rw [hr] at hpi
                  have HPI := Lib.hid hpi
                  have HS3 := Lib.hid hS
                  clear HC hS hr hpi
                  cases r with
                  | true =>
                    have HR := Lib.hid (HG.out.fin ⟨permIn_trans _ _ _ _ _ HP2.out HPI.out.1, HPI.out.2 rfl⟩ HS3.out)
                    go_wp2_with fail
                    (try simp only [Exit.inBlock, Exit.then])
                    refine bodyPost_ret (results_none rfl _ _ _) rfl ?_
                    exact HR.out
                  | false =>
                    go_wp2_with fail
                    go_meet
                    case rel => exact Lib.hid ⟨d3, permIn_trans _ _ _ _ _ HP2.out HPI.out.1, HS3.out⟩
              case rest =>
                clear HS2 ht2
                have HS4 := hcut
                clear hcut
                obtain ⟨wd, hwd⟩ : ∃ W, W = wc := ⟨wc, rfl⟩
                subst hwd
                obtain ⟨d3, p3, hS⟩ := HS4.out
                have HS := Lib.hid hS
                have HP3 := Lib.hid p3
                have hd3 : d3.size = n := hS.size
                have HG3 := Lib.hid (HG.out.perm (by rw [hdn]; omega) p3)
                clear hS p3 HS4 HG
                go_upto_region 17 with fail
                go_cut [87] from 73 to 87 (fun v wx => ∃ bb : Bool, v = .bool bb ∧ Hid (bb = true → 0 < a1 ∧ ¬ d3[a1 - 1]! < d3[x2]!) ∧ Hid (Su w0 wx J g off n c d3))
                case first =>
                  obtain ⟨G, HGG, hcw, hfw⟩ := HS.out.fam
                  have hxN : (x2 : Int) < (n : Int) := by omega
                  by_cases ha0 : 0 < a1
                  · have ha0I : (0 : Int) < (a1 : Int) := by omega
                    have ha1I : (0 : Int) ≤ (a1 : Int) - 1 := by omega
                    have haN : (a1 : Int) - 1 < (n : Int) := by omega
                    go_quiet (first | (go_at_call 59; refine Calls.quiet_of_same (lessU _ _ _)))
                    go_wp2_with fail
                    go_meet
                    case rel =>
                      refine ⟨!ltInt (G (a1 - 1)) (G x2), rfl, Lib.hid (fun hb => ⟨ha0, ?_⟩), Lib.hid (HS.out.drewN nq)⟩
                      rw [← HGG.out, ← HGG.out]
                      have := ltU_n hb
                      omega
                  · have ha0I : ¬ (0 : Int) < (a1 : Int) := by omega
                    go_quiet (first | (go_at_call 59; refine Calls.quiet_of_same (lessU _ _ _)))
                    go_wp2_with fail
                    go_meet
                    case rel => exact ⟨false, rfl, Lib.hid (fun hb => by cases hb), Lib.hid (HS.out.drewN nq)⟩
                case rest =>
                  clear HS
                  obtain ⟨bb2, hbb, HE, HS⟩ := hcut
                  subst hbb
                  obtain ⟨we, hwe⟩ : ∃ W, W = wc := ⟨wc, rfl⟩
                  subst hwe
                  cases bb2 with
                  | true =>
                    obtain ⟨ha0, hle⟩ := HE.out rfl
                    have HC := Lib.hid (evenU HS.out (a := a1) (b := b1) (p := x2) hx1 hx2 (by omega) hsz)
                    have HLE := Lib.hid hle
                    clear hle HE
                    go_wp2_with fail
                    refine HC.out.mono ?_
                    rintro e w5 ⟨m, d4, rfl, hE, hS⟩
                    have HG4 := Lib.hid (HG3.out.even (by rw [hdn]; omega) ha0 hx1 hx2 (by have := HLE.out; omega) hE)
                    have HS5 := Lib.hid hS
                    clear HC hE hS
                    have hm1 : a1 < m := HG4.out.2.1
                    have hm2 : m ≤ b1 := HG4.out.2.2
                    go_wp2_with fail
                    go_roundw
                    case rel => exact ⟨m, b1, l2, wb, wp, d4, rfl, rfl, rfl, rfl, rfl, hl2b, Lib.hid HG4.out.1, HS5⟩
                    case measure => simp [intOf]; omega
                  | false =>
                    clear HE
                    have HC := Lib.hid (partU HS.out (a := a1) (b := b1) (p := x2) hx1 hx2 (by omega) hsz)
                    go_wp2_with fail
                    refine HC.out.mono ?_
                    rintro e w5 ⟨m, fl, d4, rfl, hP, hS⟩
                    have HPT := Lib.hid hP
                    have HS5 := Lib.hid hS
                    have hm1 : a1 ≤ m := hP.1
                    have hm2 : m < b1 := hP.2.1
                    have hd4 : d4.size = n := hS.size
                    clear HC hP hS HS
                    by_cases hlr : m - a1 < b1 - m
                    · have hlrI : (m : Int) - (a1 : Int) < (b1 : Int) - (m : Int) := by omega
                      have hBL : Below ltInt a1 m d4 := ((HG3.out.2.2.2.2.1).perm (by omega) HPT.out.2.2.1).mono (by omega)
                      have HC := Lib.hid (IH.out w0 w5 J g off n c d4 HS5.out a1 m l2 (by have := HNn.out; omega) hm1 (by omega) hl2b hBL hsz)
                      clear hBL
                      go_wp2_with fail
                      refine HC.out.mono ?_
                      rintro e w6 ⟨rfl, d5, p5, s5, hS⟩
                      have HG5 := Lib.hid (HG3.out.left (by rw [hdn]; omega) HPT.out p5 s5)
                      have HS6 := Lib.hid hS
                      clear HC p5 s5 hS
                      go_wp2_with fail
                      go_roundw
                      case rel => exact ⟨m + 1, b1, l2, _, fl, d5, by go_num, rfl, rfl, rfl, rfl, hl2b, HG5, HS6⟩
                      case measure => simp [intOf]; omega
                    · have hlrI : ¬ (m : Int) - (a1 : Int) < (b1 : Int) - (m : Int) := by omega
                      have hBR : Below ltInt (m + 1) b1 d4 := below_of fun i hi hi2 => by
                        rw [Nat.add_sub_cancel]
                        have := HPT.out.2.2.2.2 i (by omega) hi2
                        omega
                      have hC := IH.out w0 w5 J g off n c d4 HS5.out (m + 1) b1 l2 (by have := HNn.out; omega) (by omega) (by omega) hl2b hBR hsz
                      rw [show ((m + 1 : Nat) : Int) = (m : Int) + 1 by omega] at hC
                      have HC := Lib.hid hC
                      clear hBR hC
                      go_wp2_with fail
                      refine HC.out.mono ?_
                      rintro e w6 ⟨rfl, d5, p5, s5, hS⟩
                      have HG5 := Lib.hid (HG3.out.right (by rw [hdn]; omega) HPT.out p5 s5)
                      have HS6 := Lib.hid hS
                      clear HC p5 s5 hS
                      go_wp2_with fail
                      go_roundw
                      case rel => exact ⟨a1, m, l2, _, fl, d5, rfl, rfl, rfl, rfl, rfl, hl2b, HG5, HS6⟩
                      case measure => simp [intOf]; omega
theorem pdqU_all : ∀ N, PdqI N
  | 0 => fun w0 w J _ g off n c d h a b lim hN => absurd hN (Nat.not_lt_zero _)
  | N + 1 => pdqU_step N (pdqU_all N)
set_option maxHeartbeats 4000000 in
/-- The whole: the numbers, in order. -/
theorem sortU {w0 w : World} {J : Res} [Stab J] {ao : Option Addr} {n c : Nat} {l : List Int} (h : Own w0 w (Sep (RowG 34 (.slice ao n c) l) J)) (hn : l.length = n) (hsz : n < 2305843009213693952) :
    Calls Try.prog 47 #[.slice ao n c] w fun e w' => e = .returned (.tuple #[]) ∧ ∃ l', l'.Perm l ∧ (∀ i j, i < j → j < l'.length → l'.getD i default ≤ l'.getD j default) ∧ Own w0 w' (Sep (RowG 34 (.slice ao n c) l') J) := by
  by_cases h0 : n = 0
  · refine (sort_any h hn (by omega)).mono ?_
    rintro e w' ⟨rfl, l', hp, hO⟩
    refine ⟨rfl, l', hp, fun i j _ hj => ?_, hO⟩
    rw [hp.length_eq] at hj
    omega
  · obtain ⟨g, rfl⟩ : ∃ g, ao = some ⟨g, 0, none⟩ := own_addr h (by omega)
    have hSu : Su w0 w J g 0 n c l.toArray := ⟨rfl, by simp [hn], by simpa using h⟩
    have hl := Try.bits_Len (n : Int) w (by omega) (by omega)
    rw [Int.toNat_natCast, bitLen_eq _ (by omega)] at hl
    obtain ⟨r, hr⟩ : ∃ r, bitsLen n = r := ⟨_, rfl⟩
    rw [hr] at hl
    have hk : r ≤ 1000 := by have := (bitsLen_le_iff n 62).2 (by omega); omega
    have hp := pdqU_all (n + 1) w0 w J g 0 n c l.toArray hSu 0 n r (by omega) (Nat.zero_le _) (Nat.le_refl _) hk (.inl rfl) hsz
    rw [show ((0 : Nat) : Int) = 0 from rfl] at hp
    have HP := Lib.hid hp
    have HL := Lib.hid hl
    have hw : IntKind.u64.wrap (n : Int) = (n : Int) := by rw [IntKind.wrap_u64]; omega
    have HN := Lib.hid hn
    clear hp hl h hSu hk hr hn
    go_enter Try.func47, Try.ntmps47
    go_wp2_with (go_at_call 52; refine HL.out.mono ?_; rintro e w2 ⟨rfl, rfl⟩)
    refine HP.out.mono ?_
    rintro e w' ⟨rfl, d', hpm, hso, hO⟩
    have H := Lib.hid (And.intro hpm (And.intro hso hO))
    clear HP HL hpm hso hO
    go_wp2_with fail
    (first | go_end0 | refine ⟨rfl, _, results_none rfl _ _ _, ?_⟩)
    obtain ⟨hpm, hso, _, hsz', hO⟩ := H.out
    refine ⟨rfl, d'.toList, ?_, fun i j hij hj => ?_, hO⟩
    · have h3 := hpm.2.2
      have e1 : (d'.extract 0 n).toList = d'.toList := by rw [← hsz']; simp
      have e2 : (l.toArray.extract 0 n).toList = l := by rw [← HN.out]; simp
      rw [e1, e2] at h3
      exact h3
    · rw [Array.length_toList] at hj
      rw [arr_getD (by omega), arr_getD hj]
      exact srt_le hso (Nat.zero_le _) hij (by omega)
end Go.Proofs.Ytjmelhmjcbliaaa

namespace Go.Proofs.Ytjmelhmjcbliaaa
open Go Go.RowKit
set_option linter.unusedVariables false
set_option linter.unusedSimpArgs false
set_option linter.unusedSectionVars false
set_option maxRecDepth 100000
set_option linter.unusedSimpArgs false
set_option maxRecDepth 100000

def Rising (l : List Int) : Prop := ∀ i j, i < j → j < l.length → l.getD i default ≤ l.getD j default
def DirtyPostU (w0 w' : World) (p bb : Nat) (L Z : List Pb) (st : Po) (J : Res) (e : Ending) : Prop :=
  ∃ ao c l', e = .returned (.slice ao l'.length c) ∧ l'.Perm st.dirty ∧ Rising l' ∧ Own w0 w' (Sep (RowG 34 (.slice ao l'.length c) l') (Sep (PoR p bb L Z st) J))
set_option maxHeartbeats 4000000 in
theorem pdirtyU {w0 w : World} {p bb : Nat} {L Z : List Pb} {st : Po} {J : Res} [Stab J] (h : Own w0 w (Sep (PoR p bb L Z st) J)) (h12 : L.length ≤ 100000) :
    Calls Try.prog 28 #[ptr p] w (fun e w' => DirtyPostU w0 w' p bb L Z st J e) := by
  obtain ⟨mb, ro, rc, D, hm, hs, h1⟩ := h.openPo
  obtain ⟨n, hn⟩ : ∃ n, L.length = n := ⟨_, rfl⟩
  have h12' : n ≤ 100000 := by omega
  have HD : Hid (dirtyL L = st.dirty) := Lib.hid hm.dirty
  have HN := Lib.hid hn
  have HM := Lib.hid hm
  have HSH := Lib.hid hs
  have h1' : Own w0 w (PoO p bb mb ro rc D L Z st J) := h1
  have H0 : Hid (Own w0 w (Sep (RowG 34 (.slice none 0 0) ([] : List Int)) (PoO p bb mb ro rc D L Z st J))) := Lib.hid (h1'.rnil (α := Int) 34)
  unfold poc at h1
  rw [hn] at h1
  have c2 := h1.blk5c.1.2.2.1
  clear h hm hs h1 hn h12 h1'
  go_enter Try.func28, Try.ntmps28
  go_wp2_with fail
  clear c2
  go_loopw [3, 13] (fun u v wr => ∃ (k : Nat) (ao : Option Addr) (m c : Nat), k ≤ n ∧ v = .int .i64 (k : Int) ∧ u = .slice ao m c ∧ m ≤ 100000 ∧ Hid ((dirtyL (L.take k)).length = m ∧ m ≤ k ∧ Own w0 wr (Sep (RowG 34 (.slice ao m c) (dirtyL (L.take k))) (PoO p bb mb ro rc D L Z st J)))) (fun _ v _ => n - (intOf v).toNat)
  case atStart => exact ⟨0, none, 0, 0, Nat.zero_le _, rfl, rfl, by omega, Lib.hid ⟨rfl, Nat.le_refl _, H0.out⟩⟩
  case round =>
    clear H0
    obtain ⟨k, ao, m, c, hk, rfl, rfl, hm12, HX⟩ := hrel
    by_cases hlt : k < n
    · have hltI : (k : Int) < (n : Int) := by omega
      have hk0 : (0 : Int) ≤ (k : Int) := by omega
      have hnx := dirtyL_next (L := L) (k := k) (by rw [HN.out]; exact hlt)
      obtain ⟨g, rfl, r1, r2, r3⟩ := HX.out.2.2.poO_row (k := k) (by rw [HN.out]; exact hlt)
      obtain ⟨x, hx⟩ : ∃ x, L.getD k default = x := ⟨_, rfl⟩
      rw [hx] at r1 r2 r3 hnx
      obtain ⟨xk, xo, xc, xv⟩ := x
      obtain ⟨xi, xb, xd, xp, xu⟩ := xv
      dsimp only at r1 r2 r3 hnx
      have HLT := Lib.hid hlt
      cases xd with
      | false =>
        rw [if_neg (by simp)] at hnx
        have HNX := Lib.hid hnx
        clear hnx hx
        go_wp2_with fail
        go_roundw
        case rel => exact ⟨k + 1, ao, m, c, by omega, by go_num, rfl, hm12, Lib.hid ⟨by rw [HNX.out]; exact HX.out.1, by have := HX.out.2.1; omega, by rw [HNX.out]; exact HX.out.2.2⟩⟩
        case measure => simp [intOf]; omega
      | true =>
        rw [if_pos rfl] at hnx
        have HNX := Lib.hid hnx
        have HML := Lib.hid HX.out.1
        have HMK := Lib.hid HX.out.2.1
        have HO := Lib.hid HX.out.2.2
        clear hnx hx HX
        go_wp2_with (at_builtin; refine own_appendG elNu HO.out xi 1 (by rw [HML.out]; omega) (by rw [HML.out]; omega) rfl _ _ rfl (by first | rfl | simp [Act.eval]) #[.int .u64 xi] rfl (by first | rfl | simp [Act.eval]) ?_)
        intro g3 cap3 n3 w8 hn3 hown
        have hm3 : n3 = m + 1 := by have h1 := hn3.out; rw [← HML.out]; (try simp only [List.length_append, List.length_singleton] at h1); omega
        rw [← HNX.out] at hown
        have HO2 := Lib.hid hown.out
        have HM3 := Lib.hid hm3
        clear hn3 hown HO hm3
        go_wp2_with fail
        go_roundw
        case rel => exact ⟨k + 1, some ⟨g3, 0, none⟩, n3, cap3, by omega, by go_num, rfl, by have h1 := HM3.out; have h2 := HMK.out; have h3 := HLT.out; omega, Lib.hid ⟨by rw [HNX.out, List.length_append, HML.out, HM3.out]; rfl, by have h1 := HM3.out; have h2 := HMK.out; omega, HO2.out⟩⟩
        case measure => simp [intOf]; omega
    · obtain rfl : k = n := by omega
      have hfull : L.take k = L := by rw [← HN.out]; exact List.take_length
      have hX := HX.out
      rw [hfull] at hX
      have HML := Lib.hid hX.1
      have hsrt := sortU hX.2.2 hX.1 (by omega)
      have HSR := Lib.hid hsrt
      clear HX hX hsrt hfull
      go_wp2_with fail
      refine HSR.out.mono ?_
      rintro e w2 ⟨rfl, l', hp, hsr, ho⟩
      have HSO := Lib.hid hsr
      clear hsr
      have HO := Lib.hid ho
      have HP := Lib.hid hp
      clear HSR ho hp
      go_wp2_with fail
      go_ret
      have hl : l'.length = m := by rw [HP.out.length_eq, HML.out]
      have h5 : Own w0 w2 (Sep (PoR p bb L Z st) (Sep (RowG 34 (.slice ao m c) l') J)) := by
        have h6 := HO.out
        unfold PoO at h6
        exact Own.shutPo HM.out HSH.out (h6.ac (by ac_rfl))
      refine ⟨ao, c, l', by rw [hl]; rfl, by rw [← HD.out]; exact HP.out, HSO.out, ?_⟩
      rw [hl]
      exact h5.swap

theorem perm_rising : ∀ {l k : List Int}, l.Perm k → Rising l → Rising k → l = k := by
  intro l k hp hl hk
  have h1 : l.Pairwise (fun a b => decide (a ≤ b) = true) := List.pairwise_iff_getElem.2 fun i j hi hj hij => by
    have := hl i j hij hj
    rw [List.getD_eq_getElem?_getD, List.getD_eq_getElem?_getD, List.getElem?_eq_getElem hi, List.getElem?_eq_getElem hj] at this
    simpa using this
  have h2 : k.Pairwise (fun a b => decide (a ≤ b) = true) := List.pairwise_iff_getElem.2 fun i j hi hj hij => by
    have := hk i j hij hj
    rw [List.getD_eq_getElem?_getD, List.getD_eq_getElem?_getD, List.getElem?_eq_getElem hi, List.getElem?_eq_getElem hj] at this
    simpa using this
  refine hp.eq_of_pairwise (fun a b _ _ h3 h4 => ?_) h1 h2
  simp at h3 h4
  omega
end Go.Proofs.Ytjmelhmjcbliaaa
