/-
  Package msg: the number that eight bytes write, added to.
-/
import Derived.Test.YtlmpknhekoeecaaMsg1
import Derived.Test.YtlmpknhekoeecaaMemP
import Derived.Lib.AtoiErrMem
namespace Go.Proofs.Ytlmpknhekoeecaa
open Go Go.RowKit
set_option linter.unusedVariables false
set_option linter.unusedSimpArgs false
set_option maxRecDepth 100000

/-- The bytes bs lie in block g, and may be written over. -/
def Byt (W : World) (g : Nat) (bs : List UInt8) : Prop := ∃ cs fr, W.heap[g]? = some (.cells cs 5 fr) ∧ bs.length ≤ cs.size ∧ bs.length ≤ fr.1 ∧ ∀ j, j < bs.length → cs[j]? = some (.int .u8 (bs.getD j 0).toNat)
theorem Byt.cell {W : World} {g : Nat} {bs : List UInt8} (h : Byt W g bs) {j : Nat} (hj : j < bs.length) : W.cell? ⟨g, j, none⟩ = some (.int .u8 (bs.getD j 0).toNat) ∧ W.frozen? ⟨g, j, none⟩ = false := by
  obtain ⟨cs, fr, h1, h2, h3, h4⟩ := h
  constructor
  · simp [World.cell?, h1, h4 j hj]
  · simp [World.frozen?, h1]
    omega
theorem Byt.set {W : World} {g : Nat} {bs : List UInt8} (h : Byt W g bs) {k : Nat} (hk : k < bs.length) (c : UInt8) : Byt (W.setCell ⟨g, k, none⟩ (.int .u8 c.toNat)) g (bs.set k c) := by
  obtain ⟨cs, fr, h1, h2, h3, h4⟩ := h
  refine ⟨cs.setIfInBounds k (.int .u8 c.toNat), fr, heap_set h1 k _, by simpa using h2, by simpa using h3, fun j hj => ?_⟩
  rw [List.length_set] at hj
  by_cases e : j = k
  · subst e
    rw [Array.getElem?_setIfInBounds_self_of_lt (by omega)]
    simp [hj]
  · rw [Array.getElem?_setIfInBounds_ne (fun e2 => e e2.symm), h4 j hj]
    simp [List.getD_eq_getElem?_getD, List.getElem?_set, Ne.symm e]
theorem Byt.lt {W : World} {g : Nat} {bs : List UInt8} (h : Byt W g bs) : g < W.heap.size := by
  obtain ⟨cs, fr, h1, _⟩ := h
  exact lt_of_some h1
theorem Byt.keep {W W' : World} {g : Nat} {bs : List UInt8} (h : Byt W g bs) (hg : W'.heap[g]? = W.heap[g]?) : Byt W' g bs := by
  obtain ⟨cs, fr, h1, h2⟩ := h
  exact ⟨cs, fr, hg.trans h1, h2⟩
theorem Byt.quiet {W W' : World} {g : Nat} {bs : List UInt8} (h : Byt W g bs) (ho : Only (fun _ => False) W W') : Byt W' g bs := h.keep (ho.block g h.lt (fun h => h))
theorem Byt.new (w : World) (s : ByteArray) : Byt (Lib.bytesWorld w 5 s) w.heap.size s.toList := by
  have hl := ba_len s
  refine ⟨_, _, Lib.bytesWorld_at_new w 5 s, ?_, ?_, fun j hj => ?_⟩
  · simp [Lib.bytesCells]; omega
  · simp [Lib.bytesCells]; omega
  · rw [hl] at hj
    have h1 := Lib.bytesWorld_cell w 5 s j hj
    have h2 := Lib.bytesWorld_at_new w 5 s
    simp [World.cell?, h2] at h1
    rw [h1, ByteArray.toList_eq]
    simp
theorem byteOf (q : Nat) : ((q : Nat) : Int) % 256 = ((UInt8.ofNat q).toNat : Int) := by
  rw [UInt8.toNat_ofNat']
  omega
theorem beB_get : ∀ (n x j : Nat), j < n → (beB n x).getD j 0 = UInt8.ofNat (x / 256 ^ (n - 1 - j))
  | n + 1, x, 0, _ => by simp [beB]
  | n + 1, x, j + 1, h => by
    rw [beB, List.getD_cons_succ, beB_get n x j (by omega)]
    congr 3
    omega
theorem put_down (A R T O : List UInt8) (j : Nat) (hT : T.length = 8) (hO : O.length = 8) (hj : j < 8) : (A ++ ((O.take (j + 1) ++ T.drop (j + 1)) ++ R)).set (A.length + j) (T.getD j 0) = A ++ ((O.take j ++ T.drop j) ++ R) := by
  have ho : (O.take j).length = j := by rw [List.length_take]; omega
  have e : O.take (j + 1) = O.take j ++ [O[j]] := List.take_succ_eq_append_getElem (by omega)
  have e2 : T.drop j = T.getD j 0 :: T.drop (j + 1) := by
    rw [List.drop_eq_getElem_cons (by omega)]
    congr 1
    simp [hT, hj]
  rw [List.set_append_right _ _ (by omega), Nat.add_sub_cancel_left, e, e2]
  simp only [List.append_assoc, List.cons_append, List.nil_append]
  rw [List.set_append_right _ _ (by omega), ho, Nat.sub_self, List.set_cons_zero]

set_option maxHeartbeats 2000000 in
theorem number_any (W : World) (g off cap : Nat) (ys : List UInt8) (h8 : ys.length = 8) (hc : ∀ j, j < 8 → W.cell? ⟨g, off + j, none⟩ = some (.int .u8 (ys.getD j 0).toNat)) :
    Calls Try.prog 34 #[.slice (some ⟨g, off, none⟩) 8 cap] W fun e w' => e = .returned (.int .u64 (numB ys)) ∧ W = w' := by
  have HC := Lib.hid hc
  have H8 := Lib.hid h8
  clear hc h8
  go_enter Try.func34, Try.ntmps34
  go_wp2_with fail
  go_loop [3, 5, 8] (fun x _ i => ∃ k : Nat, k ≤ 8 ∧ i = .int .i64 (k : Int) ∧ x = .int .u64 (numB (ys.take k))) (fun _ _ i => 8 - (intOf i).toNat)
  case atStart => exact ⟨0, Nat.zero_le _, rfl, rfl⟩
  case round =>
    obtain ⟨k, hk, rfl, rfl⟩ := hrel
    by_cases hlt : k < 8
    · have hltI : (k : Int) < 8 := by omega
      have hcell := HC.out k hlt
      have hbd : (ys.getD k 0).toNat < 256 := (ys.getD k 0).toNat_lt
      have HNB := Lib.hid (numB_take_lt ys k (by rw [H8.out]; exact hlt) (by rw [H8.out]; exact Nat.le_refl _))
      have HTS := Lib.hid (take_snoc8 ys k (by rw [H8.out]; exact hlt))
      obtain ⟨x, hx⟩ : ∃ x, x = numB (ys.take k) := ⟨_, rfl⟩
      rw [← hx]
      have hxb : x < 72057594037927936 := by rw [hx]; exact HNB.out
      obtain ⟨b, hb⟩ : ∃ b : UInt8, b = ys.getD k 0 := ⟨_, rfl⟩
      rw [← hb] at hcell hbd
      have hor := or_step x b.toNat hxb hbd
      rw [show IntKind.u64.wrap (b.toNat : Int) = (b.toNat : Int) by rw [IntKind.wrap_u64]; omega] at hor
      have HV : Hid (((x * 256 + b.toNat : Nat) : Int) = ((numB (ys.take (k + 1)) : Nat) : Int)) := Lib.hid (by
        rw [HTS.out, numB_snoc, ← hx, ← hb])
      clear hx hb HTS HNB
      go_wp2_with fail
      go_round
      case rel => exact ⟨k + 1, by omega, by go_num, by first | exact congrArg (Value.int .u64) HV.out | (rw [← HV.out]; go_num)⟩
      case measure => simp [intOf]; omega
    · obtain rfl : k = 8 := by omega
      have HE : Hid (ys.take 8 = ys) := Lib.hid (List.take_of_length_le (by rw [H8.out]; exact Nat.le_refl _))
      rw [HE.out]
      go_wp2_with fail
      go_ret
      exact ⟨rfl, rfl⟩

/-- What putNumber leaves. -/
def PutPost (W : World) (g : Nat) (bs : List UInt8) (e : Ending) (w' : World) : Prop := e = .returned (.tuple #[]) ∧ Byt w' g bs ∧ Only (fun k => k = g) W w'
set_option maxHeartbeats 2000000 in
theorem putnumber_any (W : World) (g off cap N : Nat) (A O R : List UInt8) (hN : N < 18446744073709551616) (hA : A.length = off) (hO : O.length = 8) (hB : Byt W g (A ++ (O ++ R))) (hsz : off ≤ 140737488355328) :
    Calls Try.prog 33 #[.slice (some ⟨g, off, none⟩) 8 cap, .int .u64 N] W fun e w' => PutPost W g (A ++ (beB 8 N ++ R)) e w' := by
  obtain ⟨T, hT⟩ : ∃ T, beB 8 N = T := ⟨_, rfl⟩
  have HT8 : Hid (T.length = 8 ∧ ∀ j, j < 8 → T.getD j 0 = UInt8.ofNat (N / 256 ^ (8 - 1 - j))) := Lib.hid (by rw [← hT]; exact ⟨beB_length _ _, fun j hj => beB_get 8 N j hj⟩)
  have HO8 := Lib.hid hO
  have HA := Lib.hid hA
  have HB : Hid (Byt W g (A ++ ((O.take 8 ++ T.drop 8) ++ R))) := Lib.hid (by
    rw [List.take_of_length_le (Nat.le_of_eq hO), List.drop_of_length_le (Nat.le_of_eq HT8.out.1), List.append_nil]
    exact hB)
  have H0 := Lib.hid (Only.refl (fun k => k = g) W)
  have HNN : Hid ((N : Int) = ((N / 256 ^ (8 - 8) : Nat) : Int)) := Lib.hid (by simp)
  rw [hT]
  clear hT hO hB hA
  go_enter Try.func33, Try.ntmps33
  go_wp2_with fail
  go_loopw [1, 4] (fun nv i wr => ∃ k : Nat, k ≤ 8 ∧ i = .int .i64 ((k : Int) - 1) ∧ nv = .int .u64 ((N / 256 ^ (8 - k) : Nat) : Int) ∧ Hid (Byt wr g (A ++ ((O.take k ++ T.drop k) ++ R))) ∧ Hid (Only (fun k => k = g) W wr)) (fun _ i _ => (intOf i + 1).toNat)
  case atStart => exact ⟨8, Nat.le_refl _, rfl, congrArg (Value.int .u64) HNN.out, HB, H0⟩
  case round =>
    clear HB H0 HNN
    obtain ⟨k, hk, rfl, rfl, HB, HO⟩ := hrel
    match k, hk, HB with
    | 0, hk, HB =>
      have HE : Hid (PutPost W g (A ++ (T ++ R)) (.returned (.tuple #[])) wr) := Lib.hid ⟨rfl, by have := HB.out; rwa [List.take_zero, List.nil_append, List.drop_zero] at this, HO.out⟩
      go_wp2_with fail
      exact bodyPost_end (results_none rfl _ _ _) rfl HE.out
    | j + 1, hk, HB =>
      have hj8 : j < 8 := by omega
      rw [show (((j + 1 : Nat) : Int) - 1) = (j : Int) from by omega]
      have hj0 : (0 : Int) ≤ (j : Int) := by omega
      have hjI : (j : Int) < 8 := by omega
      have hbl : off + j < (A ++ ((O.take (j + 1) ++ T.drop (j + 1)) ++ R)).length := by
        have := HT8.out.1; have := HO8.out; have := HA.out
        simp
        omega
      obtain ⟨hcell, hfz⟩ := HB.out.cell hbl
      have hset := HB.out.set hbl (T.getD j 0)
      have hpd := put_down A R T O j HT8.out.1 HO8.out hj8
      rw [HA.out] at hpd
      rw [hpd, HT8.out.2 j hj8] at hset
      rw [show 8 - 1 - j = 8 - (j + 1) by omega] at hset
      have hnx : N / 256 ^ (8 - (j + 1)) / 256 = N / 256 ^ (8 - j) := by
        rw [Nat.div_div_eq_div_mul, ← Nat.pow_succ]
        congr 2
        omega
      have hql : N / 256 ^ (8 - (j + 1)) ≤ N := Nat.div_le_self _ _
      obtain ⟨q, hq⟩ : ∃ q, N / 256 ^ (8 - (j + 1)) = q := ⟨_, rfl⟩
      rw [hq] at hset hnx hql
      rw [hq]
      obtain ⟨zb, hzb⟩ : ∃ zb : Int, ((UInt8.ofNat q).toNat : Int) = zb := ⟨_, rfl⟩
      have hby2 : IntKind.u8.wrap ((q : Nat) : Int) = zb := by rw [← hzb, IntKind.wrap_u8']; exact byteOf q
      rw [hzb] at hset
      have HSS := Lib.hid hset
      have HNX : Hid (((q : Int) / 256) = ((N / 256 ^ (8 - j) : Nat) : Int)) := Lib.hid (by rw [← hnx]; omega)
      have HO5 := Lib.hid (HO.out.trans (Only.cell wr g (off + j) (.int .u8 zb)) (fun i hi e => e))
      have hq64 : (q : Int) < 18446744073709551616 := by omega
      have hsh : Op.shift .shr .u64 (q : Int) .u64 8 = pure (.int .u64 ((q : Int) / 256)) := by
        have := shift_shr .u64 .u64 (q : Int) 8 (by omega) (by simp [IntKind.bits])
        rw [this]
        rfl
      clear hset hpd hnx hq hzb hql HO HB
      go_wp2_with fail
      go_roundw
      case rel => exact ⟨j, by omega, rfl, congrArg (Value.int .u64) HNX.out, HSS, HO5⟩
      case measure => simp [intOf]

/-- Where add stands: the value's block, the message's, the answer's. -/
structure AdAt (w W : World) (p : Nat) (m : Ms) : Prop where
  m : W.heap[p + 1]? = some (.cells #[.int .u64 m.sq, .int .i64 m.K, .string m.k, .int .u64 m.x, .string m.v, .int .i64 m.off, .int .u64 m.num] 28 (0, 0))
  r : W.heap[p + 1 + 1]? = some (.cells #[.bool false, .string ⟨#[]⟩] 43 (0, 0))
  only : Only (fun _ => False) w W
  ge : w.heap.size ≤ p
theorem AdAt.start (w : World) (t : Bool) (b : ByteArray) (m : Ms) : AdAt w (((w.alloc (.cells #[.bool t, .string b] 43)).alloc (.cells #[.int .u64 m.sq, .int .i64 m.K, .string m.k, .int .u64 m.x, .string m.v, .int .i64 m.off, .int .u64 m.num] 28)).alloc (.cells #[.bool false, .string ⟨#[]⟩] 43)) w.heap.size m := by
  refine ⟨?_, ?_, (((Only.refl _ w).alloc _).alloc _).alloc _, Nat.le_refl _⟩
  · have := heap_alloc_new (w.alloc (.cells #[.bool t, .string b] 43)) (.cells #[.int .u64 m.sq, .int .i64 m.K, .string m.k, .int .u64 m.x, .string m.v, .int .i64 m.off, .int .u64 m.num] 28)
    rw [World.size_alloc] at this
    exact alloc_keep this
  · have := heap_alloc_new ((w.alloc (.cells #[.bool t, .string b] 43)).alloc (.cells #[.int .u64 m.sq, .int .i64 m.K, .string m.k, .int .u64 m.x, .string m.v, .int .i64 m.off, .int .u64 m.num] 28)) (.cells #[.bool false, .string ⟨#[]⟩] 43)
    rwa [World.size_alloc, World.size_alloc] at this
theorem AdAt.keep {w W W' : World} {p : Nat} {m : Ms} (H : AdAt w W p m) (ho : Only (fun _ => False) W W') : AdAt w W' p m :=
  ⟨qkeep ho H.m, qkeep ho H.r, H.only.trans ho (fun _ _ h => h), H.ge⟩
theorem AdAt.put {w W W' : World} {p g : Nat} {m : Ms} (H : AdAt w W p m) (hg : p + 1 + 1 < g) (ho : Only (fun k => k = g) W W') : AdAt w W' p m :=
  ⟨(ho.block _ (lt_of_some H.m) (by omega)).trans H.m, (ho.block _ (lt_of_some H.r) (by omega)).trans H.r, H.only.trans ho (fun k hk e => by have := H.ge; omega), H.ge⟩
theorem AdAt.done {w W : World} {p : Nat} {m : Ms} (H : AdAt w W p m) (u0 u1 : Value) : Below w.heap.size w ((W.setCell ⟨p + 1 + 1, 0, none⟩ u0).setCell ⟨p + 1 + 1, 1, none⟩ u1) := by
  have hg := H.ge
  exact only_b (only_set (only_set H.only (by omega) _ _) (by omega) _ _)

set_option maxHeartbeats 2000000 in
theorem vadd_any (v : Mv) (m : Ms) (w : World) (h0 : 0 ≤ m.off) (hn : 0 ≤ m.num ∧ m.num < 18446744073709551616) (hs : v.b.size ≤ 140737488355328) :
    Calls Try.prog 31 #[mvv v, msv m] w fun e w' => e = .returned (mvv (v.add m)) ∧ Below w.heap.size w w' := by
  obtain ⟨t, b⟩ := v
  obtain ⟨sq, K, mk, x, mv, off, num⟩ := m
  simp only at h0 hn hs
  have HB := Lib.hid (fun o p q => (((Below.refl w.heap.size w).alloc (Nat.le_refl _) o).alloc (by simp) p).alloc (by simp; omega) q)
  by_cases hlt : (b.size : Int) - 8 < off
  · have HV : Hid (Mv.add ⟨t, b⟩ ⟨sq, K, mk, x, mv, off, num⟩ = ⟨t, b⟩) := Lib.hid (if_pos hlt)
    clear hn
    go_enter Try.func31, Try.ntmps31
    go_wp2
    exact bodyPost_ret (v := .agg #[.bool t, .string b]) (by simp [results, Try.results31, go_sem]) rfl ⟨by rw [HV.out], HB.out _ _ _⟩
  · obtain ⟨N, rfl⟩ : ∃ N : Nat, num = (N : Int) := ⟨num.toNat, by omega⟩
    obtain ⟨o, rfl⟩ : ∃ o : Nat, off = (o : Int) := ⟨off.toNat, by omega⟩
    obtain ⟨n, hnb⟩ : ∃ n, n = b.size := ⟨_, rfl⟩
    have HV : Hid (Mv.add ⟨t, b⟩ ⟨sq, K, mk, x, mv, (o : Int), (N : Int)⟩ = ⟨true, ⟨(addL b.toList o N).toArray⟩⟩) := Lib.hid (if_neg hlt)
    have HN : Hid (N < 18446744073709551616) := Lib.hid (by omega)
    have hlt2 : ¬ (b.size : Int) - 8 < (o : Int) := hlt
    have hbs : (b.size : Int) ≤ 140737488355328 := by omega
    have hbs0 : (8 : Int) ≤ (b.size : Int) := by omega
    have hst := AdAt.start w t b ⟨sq, K, mk, x, mv, (o : Int), (N : Int)⟩
    obtain ⟨W0, hW0⟩ : ∃ W0, W0 = (((w.alloc (.cells #[.bool t, .string b] 43)).alloc (.cells #[.int .u64 sq, .int .i64 K, .string mk, .int .u64 x, .string mv, .int .i64 (o : Int), .int .u64 (N : Int)] 28)).alloc (.cells #[.bool false, .string ⟨#[]⟩] 43)) := ⟨_, rfl⟩
    have hst' : AdAt w W0 w.heap.size ⟨sq, K, mk, x, mv, (o : Int), (N : Int)⟩ := by rw [hW0]; exact hst
    have hz : W0.heap.size = w.heap.size + 1 + 1 + 1 := by rw [hW0]; simp
    have hcv := Lib.run_convert_string_bytes (P := Try.prog) W0 9 54 5 b (u := .string) Try.underlying9 Try.underlying54 Try.underlying5
    have hbt := Byt.new W0 b
    have had := hst'.keep (below_quiet (Lib.bytesWorld_below W0 5 b))
    obtain ⟨W1, hW1⟩ : ∃ W1, W1 = Lib.bytesWorld W0 5 b := ⟨_, rfl⟩
    rw [← hW1] at hcv hbt had
    obtain ⟨gc, hgc⟩ : ∃ gc, gc = grownCap W0 b.size 0 5 := ⟨_, rfl⟩
    have HGC : Hid (n ≤ gc) := Lib.hid (by rw [hgc, hnb]; exact grownCap_ge _ _ _ _)
    rw [← hgc, ← hnb] at hcv
    obtain ⟨g, hg⟩ : ∃ g, g = W0.heap.size := ⟨_, rfl⟩
    rw [← hg] at hcv hbt
    rw [hW0] at hcv
    have HG : Hid (w.heap.size + 1 + 1 < g) := Lib.hid (by omega)
    have HBT := Lib.hid hbt
    have HAD := Lib.hid had
    have hn0 : (n : Int) ≤ 140737488355328 := by omega
    have hsl : ¬ gc = o := by have := HGC.out; omega
    have hc1 : (o : Int) + 8 ≤ (gc : Int) := by have := HGC.out; omega
    have hc2 : (o : Int) + 8 ≤ (n : Int) := by omega
    clear hst hst' hW0 hz hbt had hW1 hgc hg hn hs hlt h0 HB
    have HNB := Lib.hid hnb
    clear hnb
    go_enter Try.func31, Try.ntmps31
    go_upto_region 4 with fail
    clear hcv hlt2 hbs hbs0
    obtain ⟨y0, y1, y2, y3, y4, y5, y6⟩ := blk7 HAD.out.m
    have hspl : b.toList = b.toList.take o ++ ((b.toList.drop o).take 8 ++ b.toList.drop (o + 8)) := by
      rw [← List.drop_drop, List.take_append_drop, List.take_append_drop]
    have HBL : Hid (b.toList.length = n) := Lib.hid (by rw [ba_len, HNB.out])
    have HO8 : Hid (((b.toList.drop o).take 8).length = 8) := Lib.hid (by have := HBL.out; simp; omega)
    have HAL : Hid ((b.toList.take o).length = o) := Lib.hid (by have := HBL.out; simp; omega)
    have HADD : Hid (addL b.toList o N = b.toList.take o ++ (beB 8 (numB ((b.toList.drop o).take 8) + N) ++ b.toList.drop (o + 8))) := Lib.hid rfl
    have HB2 : Hid (Byt W1 g (b.toList.take o ++ ((b.toList.drop o).take 8 ++ b.toList.drop (o + 8)))) := Lib.hid (by rw [← hspl]; exact HBT.out)
    have HCC : Hid (∀ j, j < 8 → W1.cell? ⟨g, o + j, none⟩ = some (.int .u8 (((b.toList.drop o).take 8).getD j 0).toNat)) := Lib.hid (fun j hj => by
      have := (HBT.out.cell (j := o + j) (by have := HBL.out; omega)).1
      rw [this]
      have e : ((b.toList.drop o).take 8).getD j 0 = b.toList.getD (o + j) 0 := by
        simp [List.getD_eq_getElem?_getD, List.getElem?_take, hj]
      rw [e])
    generalize b.toList.take o = A at *
    generalize (b.toList.drop o).take 8 = O at *
    generalize b.toList.drop (o + 8) = R at *
    have HLEN : Hid (A.length + (8 + R.length) = n) := Lib.hid (by have h1 := HBL.out; rw [hspl] at h1; simp only [List.length_append] at h1; have := HO8.out; omega)
    clear hspl HBT
    obtain ⟨M, hM⟩ : ∃ M, numB O = M := ⟨_, rfl⟩
    have HNU : Hid (∀ q, Calls Try.prog 34 #[.slice (some ⟨g, o, none⟩) 8 (gc - o)] (W1.drewN q) fun e w' => e = .returned (.int .u64 (M : Int)) ∧ W1.drewN q = w') := Lib.hid (fun q => by
      have h := number_any (W1.drewN q) g o (gc - o) O HO8.out HCC.out
      rwa [hM] at h)
    rw [hM] at HADD
    obtain ⟨q, hq⟩ : ∃ q, (M + N) % 18446744073709551616 = q := ⟨_, rfl⟩
    have HQ : Hid (beB 8 (M + N) = beB 8 q) := Lib.hid (beB_mod 8 _ _ (by rw [← hq]; show (M + N) % 18446744073709551616 = (M + N) % 18446744073709551616 % 18446744073709551616; omega))
    have hwr : IntKind.u64.wrap ((M : Int) + (N : Int)) = (q : Int) := by rw [IntKind.wrap_u64, ← hq]; omega
    have hwr2 : ((M : Int) + (N : Int)) % 18446744073709551616 = (q : Int) := by rw [← hq]; omega
    have HPN : Hid (∀ W, W = W1.drew → Calls Try.prog 33 #[.slice (some ⟨g, o, none⟩) 8 (gc - o), .int .u64 (q : Int)] W fun e w' => PutPost W g (A ++ (beB 8 q ++ R)) e w') := Lib.hid (fun W hW => putnumber_any W g o (gc - o) q A O R (by omega) HAL.out HO8.out (by subst hW; exact HB2.out.quiet ((Only.refl _ _).drew)) (by omega))
    clear hq hM
    go_upto_region 5 with fail
    rw [Nat.add_sub_cancel_left]
    go_still_tail 6, (by kernel_rfl)
    still_call ((HNU.out _).mono (fun _ _ ⟨a, b⟩ => ⟨a, b.symm⟩))
    repeat still_step
    refine wpStill_nil ?_
    change wpList _ _ _ _ _ W1.drew
    clear hwr hwr2 y0 y1 y2 y3 y4 y5 y6 HNU HCC HB2
    go_wp2_with fail
    refine (HPN.out _ rfl).mono ?_
    rintro e w2 ⟨rfl, hb2, ho2⟩
    have HA2 := Lib.hid ((HAD.out.keep ((Only.refl _ _).drew)).put HG.out ho2)
    have hcs := run_strC (w := w2) (v := .slice (some ⟨g, 0, none⟩) n gc) (xs := A ++ (beB 8 q ++ R)) (.inr ⟨⟨g, 0, none⟩, gc, by
        have h1 := HLEN.out
        rw [List.length_append, List.length_append, beB_length, h1], fun i hi => by
        rw [add_lit, Nat.zero_add, (hb2.cell hi).1]⟩)
    rw [← HQ.out, ← HADD.out] at hcs
    clear hb2 ho2 HPN HAD
    obtain ⟨⟨r0, r1⟩, f0, f1⟩ := blk2 HA2.out.r
    go_wp2_with fail
    refine bodyPost_ret (v := .agg #[.bool true, .string ⟨(addL b.toList o N).toArray⟩]) (by simp [results, Try.results31, go_sem, r0, r1]) rfl ?_
    exact ⟨by rw [HV.out], HA2.out.done _ _⟩

end Go.Proofs.Ytlmpknhekoeecaa
