/-
  Numbers as bytes, the highest first, and back; which blocks a put may change (what packages pack, key and the references share).
-/
import Derived.Test.YtookbmpaoljelaaMem
import Derived.Laws.BitsAllLaws
import Derived.Laws.Bits64b
namespace Go.Proofs.Ytookbmpaoljelaa
open Go Go.RowKit
set_option linter.unusedVariables false
set_option linter.unusedSimpArgs false
set_option maxRecDepth 100000

/-- The lowest k bytes of x, the highest first. -/
def beB : Nat → Nat → List UInt8
  | 0, _ => []
  | k + 1, x => UInt8.ofNat (x / 256 ^ k) :: beB k x
theorem beB_length (k x : Nat) : (beB k x).length = k := by induction k with
  | zero => rfl
  | succ k ih => simp [beB, ih]
/-- Blocks that a put into the Out at p may change. -/
def OutS (p : Nat) (v : Value) (k : Nat) : Prop := k = p ∨ v.ownBlock = some k
theorem OutS.sub {w : World} {p : Nat} {v v' : Value} (hb : v'.ownBlock = v.ownBlock ∨ ∃ g, v'.ownBlock = some g ∧ w.heap.size ≤ g) : ∀ k, k < w.heap.size → OutS p v' k → OutS p v k := by
  intro k hk h
  rcases h with rfl | h
  · exact .inl rfl
  · rcases hb with hb | ⟨g, hg, hge⟩
    · exact .inr (hb ▸ h)
    · rw [hg] at h; simp at h; omega
theorem row_trans {w wr : World} {v v1 v2 : Value} (h : w.heap.size ≤ wr.heap.size) (h1 : v1.ownBlock = v.ownBlock ∨ ∃ g, v1.ownBlock = some g ∧ w.heap.size ≤ g)
    (h2 : v2.ownBlock = v1.ownBlock ∨ ∃ g, v2.ownBlock = some g ∧ wr.heap.size ≤ g) : v2.ownBlock = v.ownBlock ∨ ∃ g, v2.ownBlock = some g ∧ w.heap.size ≤ g := by
  rcases h2 with h2 | ⟨g, hg, hge⟩
  · rw [h2]; exact h1
  · exact .inr ⟨g, hg, by omega⟩
theorem shift_at (x m : Nat) (hm : m ≤ 7) : Op.shift .shr .u64 (x : Int) .i64 (IntKind.i64.wrap (8 * (m : Int))) = pure (.int .u64 ((x / 256 ^ m : Nat) : Int)) := by
  have e : IntKind.i64.wrap (8 * (m : Int)) = ((8 * m : Nat) : Int) := by
    rw [IntWalk.i64_in _ (by omega)]; omega
  rw [e, shift_shr .u64 .i64 _ _ (by omega) (by simp [IntKind.bits]; omega)]
  congr 2
  have h2 : (256 : Nat) ^ m = 2 ^ (8 * m) := by rw [Nat.pow_mul]
  rw [h2]
  have h3 : ((8 * m : Nat) : Int).toNat = 8 * m := by omega
  rw [h3]
  norm_cast
/-- The number in these bytes, the highest first. -/
def numB (l : List UInt8) : Nat := l.foldl (fun x b => x * 256 + b.toNat) 0
theorem numB_snoc (l : List UInt8) (b : UInt8) : numB (l ++ [b]) = numB l * 256 + b.toNat := by simp [numB]
theorem numB_lt (k : Nat) : ∀ l : List UInt8, l.length = k → numB l < 256 ^ k := by
  induction k with
  | zero => intro l hl; obtain rfl : l = [] := List.length_eq_zero_iff.1 hl; simp [numB]
  | succ k ih =>
    intro l hl
    have hne : l ≠ [] := by intro h; subst h; simp at hl
    rw [← List.dropLast_concat_getLast hne, numB_snoc, Nat.pow_succ]
    have := ih l.dropLast (by simp [hl])
    have := (l.getLast hne).toNat_lt
    omega
theorem take_snoc8 (l : List UInt8) (k : Nat) (h : k < l.length) : l.take (k + 1) = l.take k ++ [l.getD k 0] := by
  rw [List.take_succ_eq_append_getElem h]; simp [h]
theorem or_step (x b : Nat) (hx : x < 72057594037927936) (hb : b < 256) : bits .or .u64 ((x : Int) * 256) (IntKind.u64.wrap (b : Int)) = ((x * 256 + b : Nat) : Int) := by
  have e1 : IntKind.u64.wrap (b : Int) = (b : Int) := by rw [IntKind.wrap_u64]; omega
  have e2 : (x : Int) * 256 = ((x * 256 : Nat) : Int) := by omega
  rw [e1, e2, bits_or_u64_nat _ _ (by omega) (by omega)]
  congr 1
  have := Nat.two_pow_add_eq_or_of_lt (i := 8) (b := b) (by omega) x
  rw [Nat.mul_comm x 256]
  exact this.symm
theorem numB_take_lt (ys : List UInt8) (k : Nat) (hk : k < ys.length) (h8 : ys.length ≤ 8) : numB (ys.take k) < 72057594037927936 := by
  have h1 := numB_lt k (ys.take k) (by simp; omega)
  have h2 : 256 ^ k ≤ 256 ^ 7 := Nat.pow_le_pow_right (by omega) (by omega)
  omega
theorem foldB (l : List UInt8) : ∀ a : Nat, l.foldl (fun x b => x * 256 + b.toNat) a = a * 256 ^ l.length + numB l := by
  induction l with
  | nil => intro a; simp [numB]
  | cons b l ih =>
    intro a
    simp only [List.foldl_cons, List.length_cons, numB, Nat.pow_succ]
    rw [ih, ih (0 * 256 + b.toNat)]
    simp only [Nat.zero_mul, Nat.zero_add, Nat.add_mul]
    rw [Nat.mul_assoc a 256, Nat.mul_comm 256, Nat.add_assoc]
theorem numB_append (l m : List UInt8) : numB (l ++ m) = numB l * 256 ^ m.length + numB m := by
  unfold numB
  rw [List.foldl_append]
  exact foldB m _
theorem numB_be (x : Nat) : ∀ k : Nat, numB (beB k x) = x % 256 ^ k := by
  intro k
  induction k with
  | zero => simp [beB, numB, Nat.mod_one]
  | succ k ih =>
    have h := numB_append [UInt8.ofNat (x / 256 ^ k)] (beB k x)
    simp only [List.singleton_append] at h
    rw [beB, h, ih, beB_length, Nat.pow_succ, Nat.mod_mul]
    simp [numB]
    rw [Nat.mul_comm]
    omega
/-- A sector that holds a part is the part's bytes with zeros behind them. -/
theorem beB_mod : ∀ (k a b : Nat), a % 256 ^ k = b % 256 ^ k → beB k a = beB k b
  | 0, _, _, _ => rfl
  | k + 1, a, b, h => by
    have h1 : a % 256 ^ k = b % 256 ^ k := by
      rw [← Nat.mod_mod_of_dvd a (Nat.pow_dvd_pow 256 (Nat.le_succ k)), h, Nat.mod_mod_of_dvd b (Nat.pow_dvd_pow 256 (Nat.le_succ k))]
    have h2 : a / 256 ^ k % 256 = b / 256 ^ k % 256 := by
      rw [Nat.pow_succ] at h
      rw [← Nat.mod_mul_right_div_self, ← Nat.mod_mul_right_div_self, h]
    rw [beB, beB, beB_mod k a b h1]
    congr 1
    rw [← UInt8.toNat_inj]
    simpa using h2
theorem beB_numB : ∀ (k : Nat) (l : List UInt8), l.length = k → beB k (numB l) = l
  | 0, l, h => by rw [List.eq_nil_of_length_eq_zero h]; rfl
  | k + 1, l, h => by
    match l, h with
    | b :: r, h =>
      have hr : r.length = k := by simpa using h
      have h1 := numB_append [b] r
      simp only [List.singleton_append] at h1
      have h2 : numB [b] = b.toNat := by simp [numB]
      rw [h2, hr] at h1
      have hlt := numB_lt k r hr
      rw [beB, h1]
      have e1 : (b.toNat * 256 ^ k + numB r) / 256 ^ k = b.toNat := by
        rw [Nat.mul_comm, Nat.mul_add_div (Nat.pow_pos (by decide)), Nat.div_eq_of_lt hlt, Nat.add_zero]
      rw [e1]
      have e2 : beB k (b.toNat * 256 ^ k + numB r) = beB k (numB r) := beB_mod k _ _ (by rw [Nat.mul_comm, Nat.mul_add_mod])
      rw [e2, beB_numB k r hr]
      simp
theorem numB_be' (x k : Nat) (h : x < 256 ^ k) : numB (beB k x) = x := by rw [numB_be, Nat.mod_eq_of_lt h]

end Go.Proofs.Ytookbmpaoljelaa
