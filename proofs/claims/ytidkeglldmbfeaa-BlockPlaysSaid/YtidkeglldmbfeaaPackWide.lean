/-
  The walk of the statement PackWide.
-/
import Derived.Test.YtidkeglldmbfeaaPackLaw0
import Derived.Deep.DeepCutAuto
namespace Go.Proofs.Ytidkeglldmbfeaa
open Go Go.RowKit Go.Lib
set_option linter.unusedVariables false
set_option linter.unusedSimpArgs false
set_option maxRecDepth 100000

theorem OutV.rowne {w : World} {p b : Nat} {v : Value} {xs : List UInt8} (h : OutV w p v xs) {cs : Array Value} {t : TypeId} {fr : Nat × Nat} (hb : w.heap[b]? = some (.cells cs t fr)) (ht : t ≠ 5) : v.ownBlock ≠ some b := by
  intro e
  rcases h.own.2 with ⟨rfl, _⟩ | ⟨g, cap, cur, rfl, _, hg, _⟩
  · simp [Value.ownBlock] at e
  · simp [Value.ownBlock] at e
    subst e
    rw [hg] at hb
    simp at hb
    exact ht hb.2.1.symm
theorem OutV.rowlt {w : World} {p g : Nat} {v : Value} {xs : List UInt8} (h : OutV w p v xs) (hg : v.ownBlock = some g) : g < w.heap.size := (h.own.lt g hg).2

/-- Two Outs side by side, made since w0. -/
structure Two (w0 w : World) (a : Nat) (va : Value) (xs : List UInt8) (b : Nat) (vb : Value) (ys : List UInt8) : Prop where
  ha : OutV w a va xs
  hb : OutV w b vb ys
  ne : a ≠ b
  ga : w0.heap.size ≤ a
  gb : w0.heap.size ≤ b
  ra : ∀ g, va.ownBlock = some g → w0.heap.size ≤ g
  rb : ∀ g, vb.ownBlock = some g → w0.heap.size ≤ g
  rne : ∀ g, va.ownBlock = some g → vb.ownBlock ≠ some g
  only : Only (fun _ => False) w0 w

theorem Two.swap {w0 w : World} {a b : Nat} {va vb : Value} {xs ys : List UInt8} (h : Two w0 w a va xs b vb ys) : Two w0 w b vb ys a va xs :=
  ⟨h.hb, h.ha, h.ne.symm, h.gb, h.ga, h.rb, h.ra, fun g e1 e2 => h.rne g e2 e1, h.only⟩

theorem Two.quiet {w0 w w' : World} {a b : Nat} {va vb : Value} {xs ys : List UInt8} (h : Two w0 w a va xs b vb ys) (ho : Only (fun _ => False) w w') : Two w0 w' a va xs b vb ys :=
  ⟨h.ha.keep ho (fun h => h) (fun _ _ h => h), h.hb.keep ho (fun h => h) (fun _ _ h => h), h.ne, h.ga, h.gb, h.ra, h.rb, h.rne, h.only.trans ho (fun _ _ h => h)⟩

theorem Two.put {w0 w w' : World} {a b : Nat} {va vb v' : Value} {xs ys zs : List UInt8} (h : Two w0 w a va xs b vb ys) (hV : OutV w' a v' zs)
    (hr : v'.ownBlock = va.ownBlock ∨ ∃ g, v'.ownBlock = some g ∧ w.heap.size ≤ g) (ho : Only (OutS a va) w w') : Two w0 w' a v' zs b vb ys := by
  have hvb : ∀ g, vb.ownBlock = some g → ¬ OutS a va g := fun g hg hs => by
    rcases hs with rfl | hs
    · exact h.hb.rowne h.ha.at' (by decide) hg
    · exact h.rne g hs hg
  have hb' : OutV w' b vb ys := h.hb.keep ho (fun hs => by
    rcases hs with e | hs
    · exact h.ne e.symm
    · exact h.ha.rowne h.hb.at' (by decide) hs) hvb
  refine ⟨hV, hb', h.ne, h.ga, h.gb, fun g hg => ?_, h.rb, fun g hg e => ?_, h.only.trans ho (fun k hk hs => ?_)⟩
  · rcases hr with hr | ⟨g', hg', hge⟩
    · exact h.ra g (hr ▸ hg)
    · rw [hg'] at hg; simp at hg; have := h.only.size; omega
  · rcases hr with hr | ⟨g', hg', hge⟩
    · exact h.rne g (hr ▸ hg) e
    · rw [hg'] at hg; simp at hg; have := h.hb.rowlt e; omega
  · rcases hs with rfl | hs
    · have := h.ga; omega
    · have := h.ra k hs; omega

theorem Two.start (w : World) : Two w ((w.alloc (.cells #[.slice none 0 0] 86)).alloc (.cells #[.slice none 0 0] 86)) w.heap.size (.slice none 0 0) [] (w.heap.size + 1) (.slice none 0 0) [] := by
  have hb := OutV.new (w.alloc (.cells #[.slice none 0 0] 86))
  have hs : (w.alloc (.cells #[.slice none 0 0] 86)).heap.size = w.heap.size + 1 := by simp
  rw [hs] at hb
  refine ⟨(OutV.new w).keep ((Only.refl (fun _ => False) _).alloc _) (fun h => h) (fun _ _ h => h), hb, by omega, Nat.le_refl _, by omega, ?_, ?_, ?_, ((Only.refl (fun _ => False) w).alloc _).alloc _⟩
  all_goals (intro g hg; simp [Value.ownBlock] at hg)

theorem Two.drew {w0 w : World} {a b : Nat} {va vb : Value} {xs ys : List UInt8} (h : Two w0 w a va xs b vb ys) : Two w0 w.drew a va xs b vb ys := h.quiet ((Only.refl _ w).drew)

theorem bytes_two {w0 w : World} {a b : Nat} {va vb : Value} {xs ys : List UInt8} (h : Two w0 w a va xs b vb ys) (hl : xs.length = 9) :
    Calls Try.prog 49 #[.pointer (some ⟨a, 0, none⟩)] w fun e w' => ∃ ao cap, e = .returned (.slice ao 9 cap) ∧ Hid (SlB w' (.slice ao 9 cap) xs) ∧ Hid (Two w0 w' a va xs b vb ys) ∧ Hid (Only (fun _ => False) w w') := by
  refine (outBytes a va xs w h.ha (by omega)).mono ?_
  rintro e w' ⟨r, rfl, hr, ho⟩
  obtain ⟨ao, cap, rfl⟩ := own_shape hr
  have hs := own_toB hr
  rw [hl] at hs ⊢
  exact ⟨ao, cap, rfl, hs, h.quiet ho, ho⟩

theorem next_ok_eq {n : Nat} {xs : List UInt8} (h : n ≤ xs.length) : nextR n xs false = xs.take n ∧ nextL n xs false = xs.drop n ∧ (!can n xs false) = false := by
  simp [nextR, nextL, can, h]

theorem foldB (l : List UInt8) : ∀ a : Nat, l.foldl (fun x b => x * 256 + b.toNat) a = a * 256 ^ l.length + numB l := by
  induction l with
  | nil => intro a; simp [numB]
  | cons b l ih =>
    intro a
    simp only [List.foldl_cons, List.length_cons, numB, Nat.pow_succ]
    rw [ih, ih (0 * 256 + b.toNat)]
    simp only [Nat.zero_mul, Nat.zero_add, Nat.add_mul]
    rw [Nat.mul_assoc a 256, Nat.mul_comm 256, Nat.add_assoc]
theorem numB_append (l m : List UInt8) : numB (l ++ m) = numB l * 256 ^ m.length + numB m := by
  unfold numB
  rw [List.foldl_append]
  exact foldB m _
theorem numB_be (x : Nat) : ∀ k : Nat, numB (beB k x) = x % 256 ^ k := by
  intro k
  induction k with
  | zero => simp [beB, numB, Nat.mod_one]
  | succ k ih =>
    have h := numB_append [UInt8.ofNat (x / 256 ^ k)] (beB k x)
    simp only [List.singleton_append] at h
    rw [beB, h, ih, beB_length, Nat.pow_succ, Nat.mod_mul]
    simp [numB]
    rw [Nat.mul_comm]
    omega

theorem or_sum (a b c : Nat) (ha : a < 65536) (hb : b < 65536) (hc : c < 4294967296) :
    bits .or .u64 (bits .or .u64 ((a : Int) * 281474976710656) ((b : Int) * 4294967296)) (c : Int) = (((a * 65536 + b) * 4294967296 + c : Nat) : Int) := by
  have h1 : ((a : Int) * 281474976710656) = ((a * 281474976710656 : Nat) : Int) := by omega
  have h2 : ((b : Int) * 4294967296) = ((b * 4294967296 : Nat) : Int) := by omega
  rw [h1, h2, bits_or_u64_nat _ _ (by omega) (by omega)]
  have e1 : a * 281474976710656 ||| b * 4294967296 = (a * 65536 + b) * 4294967296 := by
    have := Nat.two_pow_add_eq_or_of_lt (i := 48) (b := b * 4294967296) (by omega) a
    rw [Nat.mul_comm a 281474976710656]
    refine this.symm.trans ?_
    omega
  have h3 := Nat.two_pow_add_eq_or_of_lt (i := 32) (b := c) (by omega) (a * 65536 + b)
  simp only [Nat.reducePow] at h3
  rw [Nat.mul_comm 4294967296 (a * 65536 + b)] at h3
  rw [e1, bits_or_u64_nat _ _ (by omega) (by omega), ← h3]

theorem wide_back (x : Nat) (f : Bool) (hx : x < 18446744073709551616) (zs : List UInt8) (hz : zs = [] ++ beB 8 x ++ flagB f) :
    (numB (zs.take 2) * 65536 + numB ((zs.drop 2).take 2)) * 4294967296 + numB (((zs.drop 2).drop 2).take 4) = x := by
  have h8 : numB (zs.take 8) = x := by
    have : zs.take 8 = beB 8 x := by
      rw [hz, List.nil_append, List.take_append_of_le_length (by rw [beB_length]; exact Nat.le_refl _)]
      exact List.take_of_length_le (by rw [beB_length]; exact Nat.le_refl _)
    rw [this, numB_be]
    omega
  have hl : zs.length = 9 := by rw [hz]; cases f <;> rfl
  have e : zs.take 8 = (zs.take 2 ++ (zs.drop 2).take 2) ++ ((zs.drop 2).drop 2).take 4 := by
    rw [List.drop_drop, ← List.take_add, ← List.take_add]
  rw [e, numB_append, numB_append] at h8
  simp only [List.length_take, List.length_drop, hl] at h8
  rw [show 256 ^ min 2 (9 - 2) = 65536 from by decide, show 256 ^ min 4 (9 - 2 - 2) = 4294967296 from by decide] at h8
  omega

/-- The bytes of the halves are the bytes of the whole. -/
theorem wide_bytes (x : Nat) (hx : x < 18446744073709551616) : (([] ++ beB 4 (x / 4294967296 % 4294967296)) ++ beB 2 (x / 65536 % 65536)) ++ beB 1 (x / 256 % 256) ++ beB 1 (x % 256) = [] ++ beB 8 x := by
  simp only [beB, List.nil_append, List.cons_append]
  have hb : ∀ (a b : Nat), a % 256 = b % 256 → UInt8.ofNat a = UInt8.ofNat b := fun a b h => by
    apply UInt8.toNat_inj.1
    simpa using h
  congr 1
  · apply hb; first | omega | (simp only [Nat.div_div_eq_div_mul]; done) | (simp only [Nat.div_div_eq_div_mul]; omega)
  congr 1
  · apply hb; first | omega | (simp only [Nat.div_div_eq_div_mul]; done) | (simp only [Nat.div_div_eq_div_mul]; omega)
  congr 1
  · apply hb; first | omega | (simp only [Nat.div_div_eq_div_mul]; done) | (simp only [Nat.div_div_eq_div_mul]; omega)
  congr 1
  · apply hb; first | omega | (simp only [Nat.div_div_eq_div_mul]; done) | (simp only [Nat.div_div_eq_div_mul]; omega)
  congr 1
  · apply hb; first | omega | (simp only [Nat.div_div_eq_div_mul]; done) | (simp only [Nat.div_div_eq_div_mul]; omega)
  congr 1
  · apply hb; first | omega | (simp only [Nat.div_div_eq_div_mul]; done) | (simp only [Nat.div_div_eq_div_mul]; omega)
  congr 1
  · apply hb; first | omega | (simp only [Nat.div_div_eq_div_mul]; done) | (simp only [Nat.div_div_eq_div_mul]; omega)
  congr 1
  · apply hb; first | omega | (simp only [Nat.div_div_eq_div_mul]; done) | (simp only [Nat.div_div_eq_div_mul]; omega)


end Go.Proofs.Ytidkeglldmbfeaa
