/-
  The walk of the statement PackWide.
-/
import Derived.Test.YticaonmifblnbaaPackLaw0
import Derived.Deep.DeepCutAuto
namespace Go.Proofs.Yticaonmifblnbaa
open Go Go.RowKit Go.Lib
set_option linter.unusedVariables false

theorem OutV.rowne {w : World} {p b : Nat} {v : Value} {xs : List UInt8} (h : OutV w p v xs) {cs : Array Value} {t : TypeId} {fr : Nat × Nat} (hb : w.heap[b]? = some (.cells cs t fr)) (ht : t ≠ 5) : v.ownBlock ≠ some b := by
  intro e
  rcases h.own.2 with ⟨rfl, _⟩ | ⟨g, cap, cur, rfl, _, hg, _⟩
  · simp [Value.ownBlock] at e
  · simp [Value.ownBlock] at e
    subst e
    rw [hg] at hb
    simp at hb
    exact ht hb.2.1.symm
theorem OutV.rowlt {w : World} {p g : Nat} {v : Value} {xs : List UInt8} (h : OutV w p v xs) (hg : v.ownBlock = some g) : g < w.heap.size := (h.own.lt g hg).2

/-- Two Outs side by side, made since w0. -/
structure Two (w0 w : World) (a : Nat) (va : Value) (xs : List UInt8) (b : Nat) (vb : Value) (ys : List UInt8) : Prop where
  ha : OutV w a va xs
  hb : OutV w b vb ys
  ne : a ≠ b
  ga : w0.heap.size ≤ a
  gb : w0.heap.size ≤ b
  ra : ∀ g, va.ownBlock = some g → w0.heap.size ≤ g
  rb : ∀ g, vb.ownBlock = some g → w0.heap.size ≤ g
  rne : ∀ g, va.ownBlock = some g → vb.ownBlock ≠ some g
  only : Only (fun _ => False) w0 w

theorem Two.swap {w0 w : World} {a b : Nat} {va vb : Value} {xs ys : List UInt8} (h : Two w0 w a va xs b vb ys) : Two w0 w b vb ys a va xs :=
  ⟨h.hb, h.ha, h.ne.symm, h.gb, h.ga, h.rb, h.ra, fun g e1 e2 => h.rne g e2 e1, h.only⟩

theorem Two.quiet {w0 w w' : World} {a b : Nat} {va vb : Value} {xs ys : List UInt8} (h : Two w0 w a va xs b vb ys) (ho : Only (fun _ => False) w w') : Two w0 w' a va xs b vb ys :=
  ⟨h.ha.keep ho (fun h => h) (fun _ _ h => h), h.hb.keep ho (fun h => h) (fun _ _ h => h), h.ne, h.ga, h.gb, h.ra, h.rb, h.rne, h.only.trans ho (fun _ _ h => h)⟩

theorem Two.put {w0 w w' : World} {a b : Nat} {va vb v' : Value} {xs ys zs : List UInt8} (h : Two w0 w a va xs b vb ys) (hV : OutV w' a v' zs)
    (hr : v'.ownBlock = va.ownBlock ∨ ∃ g, v'.ownBlock = some g ∧ w.heap.size ≤ g) (ho : Only (OutS a va) w w') : Two w0 w' a v' zs b vb ys := by
  have hvb : ∀ g, vb.ownBlock = some g → ¬ OutS a va g := fun g hg hs => by
    rcases hs with rfl | hs
    · exact h.hb.rowne h.ha.at' (by decide) hg
    · exact h.rne g hs hg
  have hb' : OutV w' b vb ys := h.hb.keep ho (fun hs => by
    rcases hs with e | hs
    · exact h.ne e.symm
    · exact h.ha.rowne h.hb.at' (by decide) hs) hvb
  refine ⟨hV, hb', h.ne, h.ga, h.gb, fun g hg => ?_, h.rb, fun g hg e => ?_, h.only.trans ho (fun k hk hs => ?_)⟩
  · rcases hr with hr | ⟨g', hg', hge⟩
    · exact h.ra g (hr ▸ hg)
    · rw [hg'] at hg; simp at hg; have := h.only.size; omega
  · rcases hr with hr | ⟨g', hg', hge⟩
    · exact h.rne g (hr ▸ hg) e
    · rw [hg'] at hg; simp at hg; have := h.hb.rowlt e; omega
  · rcases hs with rfl | hs
    · have := h.ga; omega
    · have := h.ra k hs; omega

theorem Two.start (w : World) : Two w ((w.alloc (.cells #[.slice none 0 0] 42)).alloc (.cells #[.slice none 0 0] 42)) w.heap.size (.slice none 0 0) [] (w.heap.size + 1) (.slice none 0 0) [] := by
  have hb := OutV.new (w.alloc (.cells #[.slice none 0 0] 42))
  have hs : (w.alloc (.cells #[.slice none 0 0] 42)).heap.size = w.heap.size + 1 := by simp
  rw [hs] at hb
  refine ⟨(OutV.new w).keep ((Only.refl (fun _ => False) _).alloc _) (fun h => h) (fun _ _ h => h), hb, by omega, Nat.le_refl _, by omega, ?_, ?_, ?_, ((Only.refl (fun _ => False) w).alloc _).alloc _⟩
  all_goals (intro g hg; simp [Value.ownBlock] at hg)

theorem Two.drew {w0 w : World} {a b : Nat} {va vb : Value} {xs ys : List UInt8} (h : Two w0 w a va xs b vb ys) : Two w0 w.drew a va xs b vb ys := h.quiet ((Only.refl _ w).drew)

theorem bytes_two {w0 w : World} {a b : Nat} {va vb : Value} {xs ys : List UInt8} (h : Two w0 w a va xs b vb ys) (hl : xs.length = 9) :
    Calls Try.prog 27 #[.pointer (some ⟨a, 0, none⟩)] w fun e w' => ∃ ao cap, e = .returned (.slice ao 9 cap) ∧ Hid (SlB w' (.slice ao 9 cap) xs) ∧ Hid (Two w0 w' a va xs b vb ys) ∧ Hid (Only (fun _ => False) w w') := by
  refine (outBytes a va xs w h.ha (by omega)).mono ?_
  rintro e w' ⟨r, rfl, hr, ho⟩
  obtain ⟨ao, cap, rfl⟩ := own_shape hr
  have hs := own_toB hr
  rw [hl] at hs ⊢
  exact ⟨ao, cap, rfl, hs, h.quiet ho, ho⟩

theorem next_ok_eq {n : Nat} {xs : List UInt8} (h : n ≤ xs.length) : nextR n xs false = xs.take n ∧ nextL n xs false = xs.drop n ∧ (!can n xs false) = false := by
  simp [nextR, nextL, can, h]

theorem foldB (l : List UInt8) : ∀ a : Nat, l.foldl (fun x b => x * 256 + b.toNat) a = a * 256 ^ l.length + numB l := by
  induction l with
  | nil => intro a; simp [numB]
  | cons b l ih =>
    intro a
    simp only [List.foldl_cons, List.length_cons, numB, Nat.pow_succ]
    rw [ih, ih (0 * 256 + b.toNat)]
    simp only [Nat.zero_mul, Nat.zero_add, Nat.add_mul]
    rw [Nat.mul_assoc a 256, Nat.mul_comm 256, Nat.add_assoc]
theorem numB_append (l m : List UInt8) : numB (l ++ m) = numB l * 256 ^ m.length + numB m := by
  unfold numB
  rw [List.foldl_append]
  exact foldB m _
theorem numB_be (x : Nat) : ∀ k : Nat, numB (beB k x) = x % 256 ^ k := by
  intro k
  induction k with
  | zero => simp [beB, numB, Nat.mod_one]
  | succ k ih =>
    have h := numB_append [UInt8.ofNat (x / 256 ^ k)] (beB k x)
    simp only [List.singleton_append] at h
    rw [beB, h, ih, beB_length, Nat.pow_succ, Nat.mod_mul]
    simp [numB]
    rw [Nat.mul_comm]
    omega

theorem or_sum (a b c : Nat) (ha : a < 65536) (hb : b < 65536) (hc : c < 4294967296) :
    bits .or .u64 (bits .or .u64 ((a : Int) * 281474976710656) ((b : Int) * 4294967296)) (c : Int) = (((a * 65536 + b) * 4294967296 + c : Nat) : Int) := by
  have h1 : ((a : Int) * 281474976710656) = ((a * 281474976710656 : Nat) : Int) := by omega
  have h2 : ((b : Int) * 4294967296) = ((b * 4294967296 : Nat) : Int) := by omega
  rw [h1, h2, bits_or_u64_nat _ _ (by omega) (by omega)]
  have e1 : a * 281474976710656 ||| b * 4294967296 = (a * 65536 + b) * 4294967296 := by
    have := Nat.two_pow_add_eq_or_of_lt (i := 48) (b := b * 4294967296) (by omega) a
    rw [Nat.mul_comm a 281474976710656]
    refine this.symm.trans ?_
    omega
  have h3 := Nat.two_pow_add_eq_or_of_lt (i := 32) (b := c) (by omega) (a * 65536 + b)
  simp only [Nat.reducePow] at h3
  rw [Nat.mul_comm 4294967296 (a * 65536 + b)] at h3
  rw [e1, bits_or_u64_nat _ _ (by omega) (by omega), ← h3]

theorem wide_back (x : Nat) (f : Bool) (hx : x < 18446744073709551616) (zs : List UInt8) (hz : zs = [] ++ beB 8 x ++ flagB f) :
    (numB (zs.take 2) * 65536 + numB ((zs.drop 2).take 2)) * 4294967296 + numB (((zs.drop 2).drop 2).take 4) = x := by
  have h8 : numB (zs.take 8) = x := by
    have : zs.take 8 = beB 8 x := by
      rw [hz, List.nil_append, List.take_append_of_le_length (by rw [beB_length]; exact Nat.le_refl _)]
      exact List.take_of_length_le (by rw [beB_length]; exact Nat.le_refl _)
    rw [this, numB_be]
    omega
  have hl : zs.length = 9 := by rw [hz]; cases f <;> rfl
  have e : zs.take 8 = (zs.take 2 ++ (zs.drop 2).take 2) ++ ((zs.drop 2).drop 2).take 4 := by
    rw [List.drop_drop, ← List.take_add, ← List.take_add]
  rw [e, numB_append, numB_append] at h8
  simp only [List.length_take, List.length_drop, hl] at h8
  rw [show 256 ^ min 2 (9 - 2) = 65536 from by decide, show 256 ^ min 4 (9 - 2 - 2) = 4294967296 from by decide] at h8
  omega

/-- The bytes of the halves are the bytes of the whole. -/
theorem wide_bytes (x : Nat) (hx : x < 18446744073709551616) : (([] ++ beB 4 (x / 4294967296 % 4294967296)) ++ beB 2 (x / 65536 % 65536)) ++ beB 1 (x / 256 % 256) ++ beB 1 (x % 256) = [] ++ beB 8 x := by
  simp only [beB, List.nil_append, List.cons_append]
  have hb : ∀ (a b : Nat), a % 256 = b % 256 → UInt8.ofNat a = UInt8.ofNat b := fun a b h => by
    apply UInt8.toNat_inj.1
    simpa using h
  congr 1
  · apply hb; first | omega | (simp only [Nat.div_div_eq_div_mul]; done) | (simp only [Nat.div_div_eq_div_mul]; omega)
  congr 1
  · apply hb; first | omega | (simp only [Nat.div_div_eq_div_mul]; done) | (simp only [Nat.div_div_eq_div_mul]; omega)
  congr 1
  · apply hb; first | omega | (simp only [Nat.div_div_eq_div_mul]; done) | (simp only [Nat.div_div_eq_div_mul]; omega)
  congr 1
  · apply hb; first | omega | (simp only [Nat.div_div_eq_div_mul]; done) | (simp only [Nat.div_div_eq_div_mul]; omega)
  congr 1
  · apply hb; first | omega | (simp only [Nat.div_div_eq_div_mul]; done) | (simp only [Nat.div_div_eq_div_mul]; omega)
  congr 1
  · apply hb; first | omega | (simp only [Nat.div_div_eq_div_mul]; done) | (simp only [Nat.div_div_eq_div_mul]; omega)
  congr 1
  · apply hb; first | omega | (simp only [Nat.div_div_eq_div_mul]; done) | (simp only [Nat.div_div_eq_div_mul]; omega)
  congr 1
  · apply hb; first | omega | (simp only [Nat.div_div_eq_div_mul]; done) | (simp only [Nat.div_div_eq_div_mul]; omega)

set_option maxRecDepth 100000 in
set_option maxHeartbeats 1000000 in
theorem wide_walk (x : Nat) (f : Bool) (w : World) (hx : x < 18446744073709551616) :
    Calls Try.prog 6 #[.int .u64 x, .bool f] w fun e w' => e = .returned (.bool true) ∧ Quiet w w' := by
  have HX := Lib.hid hx; clear hx
  go_enter Try.func6, Try.ntmps6
  go_wp2_with fail
  refine (awake_any w).mono ?_
  rintro e w0 ⟨rfl, hq⟩
  have HO0 := Lib.hid hq; clear hq
  go_wp2_with fail
  have HT := Lib.hid (Two.start w0)
  refine (outU64 w0.heap.size x _ _ _ HT.out.ha HX.out (by decide)).mono ?_
  rintro e w1 ⟨rfl, v1, hV1, hb1, ho1⟩
  have HT1 := Lib.hid (HT.out.put hV1 hb1 ho1).swap
  clear HT hV1 hb1 ho1
  go_wp2_with fail
  rw [show ((x : Int) / 4294967296 % 4294967296) = ((x / 4294967296 % 4294967296 : Nat) : Int) by omega]
  refine (outU32 _ (x / 4294967296 % 4294967296) _ _ _ HT1.out.ha (by omega) (by decide)).mono ?_
  rintro e w2 ⟨rfl, v2, hV2, hb2, ho2⟩
  have HT2 := Lib.hid (HT1.out.put hV2 hb2 ho2)
  clear HT1 hV2 hb2 ho2
  go_wp2_with fail
  rw [show IntKind.u16.wrap ((x : Int) / 65536) = ((x / 65536 % 65536 : Nat) : Int) by rw [IntKind.wrap_u16]; omega]
  refine (outU16 _ (x / 65536 % 65536) _ _ _ HT2.out.ha (by omega) (by simp [beB_length])).mono ?_
  rintro e w3 ⟨rfl, v3, hV3, hb3, ho3⟩
  have HT3 := Lib.hid (HT2.out.put hV3 hb3 ho3)
  clear HT2 hV3 hb3 ho3
  go_wp2_with fail
  rw [show ((x : Int) / 256 % 256) = ((x / 256 % 256 : Nat) : Int) by omega]
  refine (outU8 _ (x / 256 % 256) _ _ _ HT3.out.ha (by omega) (by simp [beB_length])).mono ?_
  rintro e w4 ⟨rfl, v4, hV4, hb4, ho4⟩
  have HT4 := Lib.hid (HT3.out.put hV4 hb4 ho4)
  clear HT3 hV4 hb4 ho4
  go_wp2_with fail
  first | rw [show IntKind.u8.wrap (x : Int) = ((x % 256 : Nat) : Int) by rw [IntKind.wrap_u8']; omega] | rw [show ((x : Int) % 256) = ((x % 256 : Nat) : Int) by omega]
  refine (outU8 _ (x % 256) _ _ _ HT4.out.ha (by omega) (by simp [beB_length])).mono ?_
  rintro e w5 ⟨rfl, v5, hV5, hb5, ho5⟩
  have hT5 := HT4.out.put hV5 hb5 ho5
  rw [wide_bytes x HX.out] at hT5
  have HT5 := Lib.hid hT5.swap
  clear HT4 hV5 hb5 ho5 hT5
  go_wp2_with fail
  refine (outFlag _ f _ _ _ HT5.out.ha (by simp [beB_length])).mono ?_
  rintro e w6 ⟨rfl, v6, hV6, hb6, ho6⟩
  obtain ⟨zs, hzs⟩ : ∃ zs, zs = [] ++ beB 8 x ++ flagB f := ⟨_, rfl⟩
  have HT6 := Lib.hid (HT5.out.put hV6 hb6 ho6).swap
  have hl9 : zs.length = 9 := by rw [hzs]; cases f <;> rfl
  have HZ := Lib.hid hzs
  have HL := Lib.hid hl9; clear hl9
  clear HT5 hV6 hb6 ho6
  go_upto_if 40 with fail
  go_cut [] (fun wx => Hid (∃ v7, Two w0 wx (w0.heap.size + 1) v7 zs w0.heap.size v6 zs))
  case first =>
    cases f with
    | true =>
      go_wp2_with fail
      refine (outU8 _ 1 _ _ _ HT6.out.ha (by omega) (by simp [beB_length])).mono ?_
      rintro e w7 ⟨rfl, v7, hV7, hb7, ho7⟩
      have HT7 : Hid (∃ v7, Two w0 w7 (w0.heap.size + 1) v7 zs w0.heap.size v6 zs) := by
        rw [hzs]; exact Lib.hid ⟨_, HT6.out.put hV7 hb7 ho7⟩
      clear HT6 hV7 hb7 ho7 hzs
      go_wp2_with fail
      go_meet
      exact HT7
    | false =>
      go_wp2_with fail
      refine (outU8 _ 0 _ _ _ HT6.out.ha (by omega) (by simp [beB_length])).mono ?_
      rintro e w7 ⟨rfl, v7, hV7, hb7, ho7⟩
      have HT7 : Hid (∃ v7, Two w0 w7 (w0.heap.size + 1) v7 zs w0.heap.size v6 zs) := by
        rw [hzs]; exact Lib.hid ⟨_, HT6.out.put hV7 hb7 ho7⟩
      clear HT6 hV7 hb7 ho7 hzs
      go_wp2_with fail
      go_meet
      exact HT7
  case rest =>
    clear hzs HT6
    obtain ⟨v7, hT7⟩ := hcut
    have HT7 := Lib.hid hT7
    clear hT7
    go_upto_region 14 with fail
    go_cut [57] (fun s57 wx => s57 = .bool false ∧ Hid (Two w0 wx (w0.heap.size + 1) v7 zs w0.heap.size v6 zs))
    case first =>
      have HT7d := Lib.hid HT7.out.drew.swap
      go_region_with (first
        | (go_at_call 27; (with_reducible refine (bytes_two HT9.out HL.out).mono ?_); rintro e wx ⟨ao10, cap10, rfl, hS10, HT10, HO10⟩)
        | (go_at_call 27; (with_reducible refine (bytes_two HT8.out.swap HL.out).mono ?_); rintro e w9 ⟨ao9, cap9, rfl, hS9, HT9', HO9⟩; have HT9 := Lib.hid HT9'.out.swap; have hcv9 := run_str hS9.out; have hcv8' := run_str (hS8.out.keep HO9.out (fun _ _ _ h => h)))
        | (go_at_call 27; (with_reducible refine (bytes_two HT7d.out HL.out).mono ?_); rintro e w8 ⟨ao8, cap8, rfl, hS8, HT8, HO8⟩; have hcv8 := run_str hS8.out))
      all_goals
        have HTe := Lib.hid HT10.out.swap
        clear HT10 HT9 HT9' HT8 HT7 HT7d
        go_wp2
        go_meet
        exact ⟨rfl, HTe⟩
    case rest =>
      obtain ⟨rfl, HT8⟩ := hcut
      go_wp2_with fail
      refine (outBytes _ _ _ _ HT8.out.hb (by rw [HL.out]; decide)).mono ?_
      rintro e w9 ⟨r, rfl, hr, ho9⟩
      have HS9 := Lib.hid (own_toB hr).toC
      have HO9 := Lib.hid (HT8.out.only.trans ho9 (fun _ _ h => h))
      clear hr ho9 HT8 HT7
      go_wp2_with fail
      refine (to_any _ zs _ HS9.out (by rw [HL.out]; decide)).mono ?_
      rintro e w10 ⟨q, u10, rfl, hI, hq, ho⟩
      have HI := Lib.hid hI
      have HO10 := Lib.hid (HO9.out.trans ho (fun _ _ h => h))
      have HG := Lib.hid (show w0.heap.size ≤ q by have := HO9.out.size; omega)
      clear hI hq ho HO9 HS9
      go_wp2_with fail
      refine (inU16 q _ _ _ _ HI.out).mono ?_
      rintro e w11 ⟨u11, rfl, hI, ho⟩
      rw [(next_ok_eq (n := 2) (xs := zs) (by rw [HL.out]; omega)).1]
      rw [(next_ok_eq (n := 2) (xs := zs) (by rw [HL.out]; omega)).2.1, (next_ok_eq (n := 2) (xs := zs) (by rw [HL.out]; omega)).2.2] at hI
      have HO11 := Lib.hid (HO10.out.none ho (fun k e => e ▸ HG.out))
      obtain ⟨ys, hys⟩ : ∃ ys, ys = zs.drop 2 := ⟨_, rfl⟩
      rw [← hys] at hI
      have HL1 : Hid (ys.length = 7) := by show _ = _; rw [hys, List.length_drop, HL.out]
      have HY1 := Lib.hid hys
      obtain ⟨n1, hn1⟩ : ∃ n1, n1 = numB (zs.take 2) := ⟨_, rfl⟩
      rw [← hn1]
      have hb1 : n1 < 65536 := by rw [hn1]; exact numB_le 2 _ (by simp; omega)
      have HN1 := Lib.hid hn1
      have HI1 := Lib.hid hI
      clear HI hI ho HO10 hys hn1
      go_wp2_with fail
      refine (inU16 q _ _ _ _ HI1.out).mono ?_
      rintro e w12 ⟨u12, rfl, hI, ho⟩
      rw [(next_ok_eq (n := 2) (xs := ys) (by rw [HL1.out]; omega)).1]
      rw [(next_ok_eq (n := 2) (xs := ys) (by rw [HL1.out]; omega)).2.1, (next_ok_eq (n := 2) (xs := ys) (by rw [HL1.out]; omega)).2.2] at hI
      have HO12 := Lib.hid (HO11.out.none ho (fun k e => e ▸ HG.out))
      obtain ⟨y2, hys⟩ : ∃ y2, y2 = ys.drop 2 := ⟨_, rfl⟩
      rw [← hys] at hI
      have HL2 : Hid (y2.length = 5) := by show _ = _; rw [hys, List.length_drop, HL1.out]
      have HY2 := Lib.hid hys
      obtain ⟨n2, hn2⟩ : ∃ n2, n2 = numB (ys.take 2) := ⟨_, rfl⟩
      rw [← hn2]
      have hb2 : n2 < 65536 := by rw [hn2]; exact numB_le 2 _ (by simp; omega)
      have HN2 := Lib.hid hn2
      have HI2 := Lib.hid hI
      clear HI1 hI ho HO11 hys hn2
      go_wp2_with fail
      refine (inU32 q _ _ _ _ HI2.out).mono ?_
      rintro e w13 ⟨u13, rfl, hI, ho⟩
      rw [(next_ok_eq (n := 4) (xs := y2) (by rw [HL2.out]; omega)).1]
      rw [(next_ok_eq (n := 4) (xs := y2) (by rw [HL2.out]; omega)).2.1, (next_ok_eq (n := 4) (xs := y2) (by rw [HL2.out]; omega)).2.2] at hI
      have HO13 := Lib.hid (HO12.out.none ho (fun k e => e ▸ HG.out))
      obtain ⟨y3, hys⟩ : ∃ y3, y3 = y2.drop 4 := ⟨_, rfl⟩
      rw [← hys] at hI
      have HY3 := Lib.hid hys
      obtain ⟨n3, hn3⟩ : ∃ n3, n3 = numB (y2.take 4) := ⟨_, rfl⟩
      rw [← hn3]
      have hb3 : n3 < 4294967296 := by rw [hn3]; exact numB_le 4 _ (by simp; omega)
      have HN3 := Lib.hid hn3
      have HI3 := Lib.hid hI
      clear HI2 hI ho HO12 hys hn3
      have hyx : bits .or .u64 (bits .or .u64 ((n1 : Int) * 281474976710656) ((n2 : Int) * 4294967296)) (n3 : Int) = (x : Int) := by
        rw [or_sum n1 n2 n3 hb1 hb2 hb3, HN1.out, HN2.out, HN3.out, HY2.out, HY1.out, wide_back x f HX.out zs HZ.out]
      have HF : Hid (y3 = flagB f) := by
        show _ = _
        rw [HY3.out, HY2.out, HY1.out, HZ.out, List.drop_drop, List.drop_drop]
        cases f <;> rfl
      have E3 : Hid (flagR y3 false = f) := by show _ = _; rw [HF.out]; cases f <;> decide
      have E4 : Hid (flagL y3 false = []) := by show _ = _; rw [HF.out]; cases f <;> decide
      have E5 : Hid ((!flagOk y3 false) = false) := by show _ = _; rw [HF.out]; cases f <;> decide
      go_wp2_with fail
      refine (inFlag q _ _ _ _ HI3.out).mono ?_
      rintro e w14 ⟨u14, rfl, hI, ho⟩
      rw [E4.out, E5.out] at hI
      rw [E3.out]
      have HO14 := Lib.hid (HO13.out.none ho (fun k e => e ▸ HG.out))
      have HI4 := Lib.hid hI
      clear HI3 hI ho HO13 E3 E4 E5 HF hyx
      go_wp2_with fail
      refine (inDone q _ _ _ _ HI4.out).mono ?_
      rintro e w15 ⟨rfl, rfl⟩
      go_wp2
      go_ret
      exact ⟨rfl, HO0.out.trans HO14.out (fun _ _ h => h)⟩

end Go.Proofs.Yticaonmifblnbaa
