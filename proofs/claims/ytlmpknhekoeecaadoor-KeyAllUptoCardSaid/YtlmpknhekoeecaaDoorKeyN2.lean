/-
  The document's own keys: the bytes of one value.
-/
import Derived.Test.YtlmpknhekoeecaaDoorKeyN1
import Derived.Test.YtlmpknhekoeecaaDoorRowJ6
import Derived.StillTailTactics
namespace Go.Proofs.YtlmpknhekoeecaaDoor
open Go Go.RowKit
set_option linter.unusedVariables false
set_option linter.unusedSimpArgs false
set_option maxRecDepth 100000

theorem beB1 (x : Nat) : beB 1 x = [UInt8.ofNat x] := by
  show [UInt8.ofNat (x / 256 ^ 0)] ++ beB 0 x = _
  simp [beB]
def PartAt (w0 : World) (R : Value → Res) (wx : World) : Prop := ∃ v1, Own w0 wx (R v1)
theorem sub_not (b : UInt8) : IntKind.u8.wrap (255 - (b.toNat : Int)) = ((not8 b).toNat : Int) := by
  rw [IntKind.wrap_u8', not8_toNat]
  have := b.toNat_lt
  omega
theorem rout_val {w0 w : World} {p q : Nat} {v : Value} {xs : List UInt8} {a0 a1 a2 : Value} {J : Res} [Stab J] (h : Own w0 w (ROut p v xs (Sep (Blk q (.cells #[a0, a1, a2] 42 (0, 0))) J))) :
    w.cell? ⟨q, 0, none⟩ = some a0 ∧ w.cell? ⟨q, 1, none⟩ = some a1 ∧ w.cell? ⟨q, 2, none⟩ = some a2 := by
  have := blk_cells3 h.snd.snd.held
  exact ⟨this.1, this.2.1, this.2.2.1⟩

set_option maxHeartbeats 8000000 in
theorem rpart (w0 w : World) (K N : Int) (S : ByteArray) (d : Bool) (J : Res) [Stab J] (h : Own w0 w J) (hN : U64 N) (hok : (vl K N S).okB = true) :
    Calls Tryd.prog 46 #[vlv K N S, .bool d] w fun e w' => ∃ v', e = .returned v' ∧ Own w0 w' (Sep (OutB v' (kb (vl K N S) d)) J) := by
  obtain ⟨x, rfl⟩ : ∃ x : Nat, N = (x : Int) := ⟨N.toNat, by have := hN.lo; omega⟩
  have hx : x < 18446744073709551616 := by have := hN.hi; omega
  have hK : K = 0 ∨ K = 1 ∨ K = 2 ∨ K = 3 ∨ K = 4 ∨ K = 5 := by
    rcases ok_kinds hok with ⟨e, _⟩ | ⟨e, _⟩ | ⟨e, _⟩ | ⟨e, _⟩ <;> simp only at e <;> omega
  have HSZ : Hid ((K = 4 ∨ K = 5) → S.size ≤ 64) := Lib.hid (fun e => by
    rcases ok_kinds hok with ⟨f, _⟩ | ⟨f, _⟩ | ⟨f, _⟩ | ⟨_, _, f⟩
    · simp only at f; omega
    · simp only at f; omega
    · simp only at f; omega
    · rw [← ba_size]; exact f)
  have HKL := Lib.hid (kb0_length hok)
  have HX := Lib.hid hx
  have HK := Lib.hid hK
  have H0 : Hid (Own w0 ((w.alloc (.cells #[.int .i64 K, .int .u64 (x : Int), .string S] 42)).alloc (.cells #[.slice none 0 0] 90)) (ROut (w.heap.size + 1) (.slice none 0 0) [] (Sep (Blk w.heap.size (.cells #[.int .i64 K, .int .u64 (x : Int), .string S] 42 (0, 0))) J))) := Lib.hid (by
    have h1 := h.alloc (.cells #[.int .i64 K, .int .u64 (x : Int), .string S] 42)
    have h2 := h1.alloc (.cells #[.slice none 0 0] 90)
    rw [World.size_alloc] at h2
    exact h2.row_nil 5 1)
  obtain ⟨X, hX⟩ : ∃ X, X = kb0 (vl K (x : Int) S) := ⟨_, rfl⟩
  have HXX := Lib.hid hX
  rw [← hX] at HKL
  have HTB : Hid (kb (vl K (x : Int) S) d = turnL d X) := Lib.hid (by rw [hX]; rfl)
  rw [HTB.out]
  clear h hN hok hx hK hX
  rcases HK.out with rfl | rfl | rfl | rfl | rfl | rfl
  · skip
    go_enter Tryd.func46, Tryd.ntmps46
    go_upto_region 2 with fail
    obtain ⟨y0, y1, y2⟩ := rout_val H0.out
    generalize (w.alloc (.cells #[.int .i64 0, .int .u64 (x : Int), .string S] 42)).alloc (.cells #[.slice none 0 0] 90) = w1 at *
    generalize w.heap.size = vb at *
    obtain ⟨po, hpo⟩ : ∃ po, po = vb + 1 := ⟨_, rfl⟩
    rw [← hpo] at H0 ⊢
    clear hpo
    go_wp2_with fail
    refine (rnum w0 w1 po 0 1 _ [] _ H0.out (by omega) (by omega) (by simp)).mono ?_
    rintro e w2 ⟨v1, rfl, h1⟩
    rw [beB1] at h1
    have H1 : Hid (Own w0 w2 (ROut po v1 [0] (Sep (Blk vb (.cells #[.int .i64 0, .int .u64 (x : Int), .string S] 42 (0, 0))) J))) := Lib.hid h1
    clear h1 y0 y1 y2 H0
    obtain ⟨y0, y1, y2⟩ := rout_val H1.out
    have HE : Hid (Own w0 w2 (ROut po v1 X (Sep (Blk vb (.cells #[.int .i64 0, .int .u64 (x : Int), .string S] 42 (0, 0))) J))) := Lib.hid (by rw [HXX.out, kb_null rfl]; exact H1.out)
    clear y0 y1 y2
    obtain ⟨y0, y1, y2⟩ := rout_val HE.out
    clear H1
    go_upto_region 21 with fail
    clear y0 y1 y2
    obtain ⟨g, cap, hve, hcap, hc9⟩ := OutB.full HE.out HKL.out.1
    subst hve
    obtain ⟨n, hn⟩ : ∃ n, n = X.length := ⟨_, rfl⟩
    rw [← hn] at HE hcap
    have HN := Lib.hid hn
    obtain ⟨c0, f0⟩ := rout_cell HE.out
    have hn131 : (n : Int) ≤ 131 := by have := HKL.out.2; omega
    clear hn
    cases d with
    | false =>
      by_cases hpos : (0 : Int) < (n : Int)
      · go_wp2_with fail
        go_loopw [7] (fun i wr => i = .int .i64 0 ∧ Hid (Own w0 wr (ROut po (.slice (some ⟨g, 0, none⟩) n cap) X (Sep (Blk vb (.cells #[.int .i64 0, .int .u64 (x : Int), .string S] 42 (0, 0))) J)))) (fun i _ => 0)
        case atStart => exact ⟨rfl, HE⟩
        case round =>
          obtain ⟨rfl, HO⟩ := hrel
          obtain ⟨c0, f0⟩ := rout_cell HO.out
          go_wp2_with fail
          go_ret
          exact ⟨_, rfl, HO.out.drop2.drop2⟩
      · exact absurd HKL.out.1 (by have := HN.out; omega)
    | true =>
      go_wp2_with fail
      go_loopw [7] (fun i wr => ∃ k : Nat, k ≤ n ∧ i = .int .i64 (k : Int) ∧ Hid (Own w0 wr (Sep (OutB (.slice (some ⟨g, 0, none⟩) n cap) ((X.take k).map not8 ++ X.drop k)) (Sep (Blk po (.cells #[.slice (some ⟨g, 0, none⟩) n cap] 90 (0, 0))) (Sep (Blk vb (.cells #[.int .i64 0, .int .u64 (x : Int), .string S] 42 (0, 0))) J))))) (fun i _ => n - (intOf i).toNat)
      case atStart => exact ⟨0, Nat.zero_le _, rfl, HE⟩
      case round =>
        clear HE c0 f0
        obtain ⟨k, hk, rfl, HO⟩ := hrel
        obtain ⟨c0, f0⟩ := rout_held HO.out
        by_cases hlt : k < n
        · have hky : k < X.length := by rw [← HN.out]; exact hlt
          obtain ⟨g2, cap2, hv, hcap2, hcell, hf, hown⟩ := out_put HO.out (k := k) (by simp; omega) (not8 (X.getD k 0))
          have hst := turn_step [] X k hky
          rw [List.nil_append, List.nil_append, List.length_nil, Nat.zero_add] at hst
          rw [hst] at hown
          have he : ((X.take k).map not8 ++ X.drop k).getD k 0 = X.getD k 0 := by
            rw [List.getD_eq_getElem?_getD, List.getElem?_append_right (by simp; omega)]
            simp
            rw [show k - min k X.length = 0 by omega]
            rfl
          rw [he] at hcell
          simp only [Value.slice.injEq, Option.some.injEq, Addr.mk.injEq] at hv
          obtain ⟨⟨rfl, a1, a2⟩, a3, rfl⟩ := hv
          clear a1 a2 a3
          obtain ⟨b, hb⟩ : ∃ b, X.getD k 0 = b := ⟨_, rfl⟩
          rw [hb] at hcell hown
          obtain ⟨z, hz⟩ : ∃ z : Int, (b.toNat : Int) = z := ⟨_, rfl⟩
          obtain ⟨z2, hz2⟩ : ∃ z2 : Int, ((not8 b).toNat : Int) = z2 := ⟨_, rfl⟩
          have hx1 := sub_not b
          rw [hz, hz2] at hx1
          have hx2 : (255 - z) % 256 = z2 := by rw [← IntKind.wrap_u8']; exact hx1
          rw [hz] at hcell
          rw [hz2] at hown
          have HOW := Lib.hid hown.drew
          have hltI : (k : Int) < (n : Int) := by omega
          have hk0 : (0 : Int) ≤ (k : Int) := by omega
          clear hown he hb hst hky hz hz2 hcap2
          go_wp2_with fail
          go_still_tail 14, (by kernel_rfl)
          change wpList _ _ _ _ _ wr.drew
          clear hx1 hx2
          go_wp2_with fail
          go_roundw
          case rel => exact ⟨k + 1, by omega, by go_num, by simpa using HOW⟩
          case measure => simp [intOf]; omega
        · obtain rfl : k = n := by omega
          have hltI : ¬ (k : Int) < (k : Int) := by omega
          go_wp2_with fail
          go_ret
          refine ⟨_, rfl, ?_⟩
          have := HO.out
          rw [List.take_of_length_le (by rw [HN.out]; exact Nat.le_refl _), List.drop_of_length_le (by rw [HN.out]; exact Nat.le_refl _), List.append_nil] at this
          exact this.drop2.drop2
  · skip
    go_enter Tryd.func46, Tryd.ntmps46
    go_upto_region 2 with fail
    obtain ⟨y0, y1, y2⟩ := rout_val H0.out
    generalize (w.alloc (.cells #[.int .i64 1, .int .u64 (x : Int), .string S] 42)).alloc (.cells #[.slice none 0 0] 90) = w1 at *
    generalize w.heap.size = vb at *
    obtain ⟨po, hpo⟩ : ∃ po, po = vb + 1 := ⟨_, rfl⟩
    rw [← hpo] at H0 ⊢
    clear hpo
    go_wp2_with fail
    refine (rnum w0 w1 po 1 1 _ [] _ H0.out (by omega) (by omega) (by simp)).mono ?_
    rintro e w2 ⟨v1, rfl, h1⟩
    rw [beB1] at h1
    have H1 : Hid (Own w0 w2 (ROut po v1 [1] (Sep (Blk vb (.cells #[.int .i64 1, .int .u64 (x : Int), .string S] 42 (0, 0))) J))) := Lib.hid h1
    clear h1 y0 y1 y2 H0
    obtain ⟨y0, y1, y2⟩ := rout_val H1.out
    have hf := flip_bits x HX.out
    obtain ⟨fx, hfx⟩ : ∃ fx, flipN x = fx := ⟨_, rfl⟩
    have HFX : Hid (fx < 18446744073709551616) := Lib.hid (by rw [← hfx]; exact flipN_lt HX.out)
    have HXF : Hid (kb0 (vl 1 (x : Int) S) = [1] ++ beB 8 fx) := Lib.hid (by rw [kb_int rfl, ← hfx]; rfl)
    rw [hfx] at hf
    clear hfx
    go_wp2_with fail
    refine (rnum w0 w2 po fx 8 _ [1] _ H1.out (by omega) HFX.out (by simp)).mono ?_
    rintro e w3 ⟨v2, rfl, h2⟩
    have HE : Hid (Own w0 w3 (ROut po v2 X (Sep (Blk vb (.cells #[.int .i64 1, .int .u64 (x : Int), .string S] 42 (0, 0))) J))) := Lib.hid (by rw [HXX.out, HXF.out]; exact h2)
    clear h2 y0 y1 y2 H1
    go_upto_region 21 with fail
    obtain ⟨g, cap, hve, hcap, hc9⟩ := OutB.full HE.out HKL.out.1
    subst hve
    obtain ⟨n, hn⟩ : ∃ n, n = X.length := ⟨_, rfl⟩
    rw [← hn] at HE hcap
    have HN := Lib.hid hn
    obtain ⟨c0, f0⟩ := rout_cell HE.out
    have hn131 : (n : Int) ≤ 131 := by have := HKL.out.2; omega
    clear hn
    cases d with
    | false =>
      by_cases hpos : (0 : Int) < (n : Int)
      · go_wp2_with fail
        go_loopw [7] (fun i wr => i = .int .i64 0 ∧ Hid (Own w0 wr (ROut po (.slice (some ⟨g, 0, none⟩) n cap) X (Sep (Blk vb (.cells #[.int .i64 1, .int .u64 (x : Int), .string S] 42 (0, 0))) J)))) (fun i _ => 0)
        case atStart => exact ⟨rfl, HE⟩
        case round =>
          obtain ⟨rfl, HO⟩ := hrel
          obtain ⟨c0, f0⟩ := rout_cell HO.out
          go_wp2_with fail
          go_ret
          exact ⟨_, rfl, HO.out.drop2.drop2⟩
      · exact absurd HKL.out.1 (by have := HN.out; omega)
    | true =>
      go_wp2_with fail
      go_loopw [7] (fun i wr => ∃ k : Nat, k ≤ n ∧ i = .int .i64 (k : Int) ∧ Hid (Own w0 wr (Sep (OutB (.slice (some ⟨g, 0, none⟩) n cap) ((X.take k).map not8 ++ X.drop k)) (Sep (Blk po (.cells #[.slice (some ⟨g, 0, none⟩) n cap] 90 (0, 0))) (Sep (Blk vb (.cells #[.int .i64 1, .int .u64 (x : Int), .string S] 42 (0, 0))) J))))) (fun i _ => n - (intOf i).toNat)
      case atStart => exact ⟨0, Nat.zero_le _, rfl, HE⟩
      case round =>
        clear HE c0 f0
        obtain ⟨k, hk, rfl, HO⟩ := hrel
        obtain ⟨c0, f0⟩ := rout_held HO.out
        by_cases hlt : k < n
        · have hky : k < X.length := by rw [← HN.out]; exact hlt
          obtain ⟨g2, cap2, hv, hcap2, hcell, hf, hown⟩ := out_put HO.out (k := k) (by simp; omega) (not8 (X.getD k 0))
          have hst := turn_step [] X k hky
          rw [List.nil_append, List.nil_append, List.length_nil, Nat.zero_add] at hst
          rw [hst] at hown
          have he : ((X.take k).map not8 ++ X.drop k).getD k 0 = X.getD k 0 := by
            rw [List.getD_eq_getElem?_getD, List.getElem?_append_right (by simp; omega)]
            simp
            rw [show k - min k X.length = 0 by omega]
            rfl
          rw [he] at hcell
          simp only [Value.slice.injEq, Option.some.injEq, Addr.mk.injEq] at hv
          obtain ⟨⟨rfl, a1, a2⟩, a3, rfl⟩ := hv
          clear a1 a2 a3
          obtain ⟨b, hb⟩ : ∃ b, X.getD k 0 = b := ⟨_, rfl⟩
          rw [hb] at hcell hown
          obtain ⟨z, hz⟩ : ∃ z : Int, (b.toNat : Int) = z := ⟨_, rfl⟩
          obtain ⟨z2, hz2⟩ : ∃ z2 : Int, ((not8 b).toNat : Int) = z2 := ⟨_, rfl⟩
          have hx1 := sub_not b
          rw [hz, hz2] at hx1
          have hx2 : (255 - z) % 256 = z2 := by rw [← IntKind.wrap_u8']; exact hx1
          rw [hz] at hcell
          rw [hz2] at hown
          have HOW := Lib.hid hown.drew
          have hltI : (k : Int) < (n : Int) := by omega
          have hk0 : (0 : Int) ≤ (k : Int) := by omega
          clear hown he hb hst hky hz hz2 hcap2
          go_wp2_with fail
          go_still_tail 14, (by kernel_rfl)
          change wpList _ _ _ _ _ wr.drew
          clear hx1 hx2
          go_wp2_with fail
          go_roundw
          case rel => exact ⟨k + 1, by omega, by go_num, by simpa using HOW⟩
          case measure => simp [intOf]; omega
        · obtain rfl : k = n := by omega
          have hltI : ¬ (k : Int) < (k : Int) := by omega
          go_wp2_with fail
          go_ret
          refine ⟨_, rfl, ?_⟩
          have := HO.out
          rw [List.take_of_length_le (by rw [HN.out]; exact Nat.le_refl _), List.drop_of_length_le (by rw [HN.out]; exact Nat.le_refl _), List.append_nil] at this
          exact this.drop2.drop2
  · skip
    go_enter Tryd.func46, Tryd.ntmps46
    go_upto_region 2 with fail
    obtain ⟨y0, y1, y2⟩ := rout_val H0.out
    generalize (w.alloc (.cells #[.int .i64 2, .int .u64 (x : Int), .string S] 42)).alloc (.cells #[.slice none 0 0] 90) = w1 at *
    generalize w.heap.size = vb at *
    obtain ⟨po, hpo⟩ : ∃ po, po = vb + 1 := ⟨_, rfl⟩
    rw [← hpo] at H0 ⊢
    clear hpo
    go_wp2_with fail
    refine (rnum w0 w1 po 1 1 _ [] _ H0.out (by omega) (by omega) (by simp)).mono ?_
    rintro e w2 ⟨v1, rfl, h1⟩
    rw [beB1] at h1
    have H1 : Hid (Own w0 w2 (ROut po v1 [1] (Sep (Blk vb (.cells #[.int .i64 2, .int .u64 (x : Int), .string S] 42 (0, 0))) J))) := Lib.hid h1
    clear h1 y0 y1 y2 H0
    obtain ⟨y0, y1, y2⟩ := rout_val H1.out
    go_wp2_with fail
    refine (rnum w0 w2 po x 8 _ [1] _ H1.out (by omega) HX.out (by simp)).mono ?_
    rintro e w3 ⟨v2, rfl, h2⟩
    have HE : Hid (Own w0 w3 (ROut po v2 X (Sep (Blk vb (.cells #[.int .i64 2, .int .u64 (x : Int), .string S] 42 (0, 0))) J))) := Lib.hid (by rw [HXX.out, kb_uint rfl]; exact h2)
    clear h2 y0 y1 y2 H1
    go_upto_region 21 with fail
    obtain ⟨g, cap, hve, hcap, hc9⟩ := OutB.full HE.out HKL.out.1
    subst hve
    obtain ⟨n, hn⟩ : ∃ n, n = X.length := ⟨_, rfl⟩
    rw [← hn] at HE hcap
    have HN := Lib.hid hn
    obtain ⟨c0, f0⟩ := rout_cell HE.out
    have hn131 : (n : Int) ≤ 131 := by have := HKL.out.2; omega
    clear hn
    cases d with
    | false =>
      by_cases hpos : (0 : Int) < (n : Int)
      · go_wp2_with fail
        go_loopw [7] (fun i wr => i = .int .i64 0 ∧ Hid (Own w0 wr (ROut po (.slice (some ⟨g, 0, none⟩) n cap) X (Sep (Blk vb (.cells #[.int .i64 2, .int .u64 (x : Int), .string S] 42 (0, 0))) J)))) (fun i _ => 0)
        case atStart => exact ⟨rfl, HE⟩
        case round =>
          obtain ⟨rfl, HO⟩ := hrel
          obtain ⟨c0, f0⟩ := rout_cell HO.out
          go_wp2_with fail
          go_ret
          exact ⟨_, rfl, HO.out.drop2.drop2⟩
      · exact absurd HKL.out.1 (by have := HN.out; omega)
    | true =>
      go_wp2_with fail
      go_loopw [7] (fun i wr => ∃ k : Nat, k ≤ n ∧ i = .int .i64 (k : Int) ∧ Hid (Own w0 wr (Sep (OutB (.slice (some ⟨g, 0, none⟩) n cap) ((X.take k).map not8 ++ X.drop k)) (Sep (Blk po (.cells #[.slice (some ⟨g, 0, none⟩) n cap] 90 (0, 0))) (Sep (Blk vb (.cells #[.int .i64 2, .int .u64 (x : Int), .string S] 42 (0, 0))) J))))) (fun i _ => n - (intOf i).toNat)
      case atStart => exact ⟨0, Nat.zero_le _, rfl, HE⟩
      case round =>
        clear HE c0 f0
        obtain ⟨k, hk, rfl, HO⟩ := hrel
        obtain ⟨c0, f0⟩ := rout_held HO.out
        by_cases hlt : k < n
        · have hky : k < X.length := by rw [← HN.out]; exact hlt
          obtain ⟨g2, cap2, hv, hcap2, hcell, hf, hown⟩ := out_put HO.out (k := k) (by simp; omega) (not8 (X.getD k 0))
          have hst := turn_step [] X k hky
          rw [List.nil_append, List.nil_append, List.length_nil, Nat.zero_add] at hst
          rw [hst] at hown
          have he : ((X.take k).map not8 ++ X.drop k).getD k 0 = X.getD k 0 := by
            rw [List.getD_eq_getElem?_getD, List.getElem?_append_right (by simp; omega)]
            simp
            rw [show k - min k X.length = 0 by omega]
            rfl
          rw [he] at hcell
          simp only [Value.slice.injEq, Option.some.injEq, Addr.mk.injEq] at hv
          obtain ⟨⟨rfl, a1, a2⟩, a3, rfl⟩ := hv
          clear a1 a2 a3
          obtain ⟨b, hb⟩ : ∃ b, X.getD k 0 = b := ⟨_, rfl⟩
          rw [hb] at hcell hown
          obtain ⟨z, hz⟩ : ∃ z : Int, (b.toNat : Int) = z := ⟨_, rfl⟩
          obtain ⟨z2, hz2⟩ : ∃ z2 : Int, ((not8 b).toNat : Int) = z2 := ⟨_, rfl⟩
          have hx1 := sub_not b
          rw [hz, hz2] at hx1
          have hx2 : (255 - z) % 256 = z2 := by rw [← IntKind.wrap_u8']; exact hx1
          rw [hz] at hcell
          rw [hz2] at hown
          have HOW := Lib.hid hown.drew
          have hltI : (k : Int) < (n : Int) := by omega
          have hk0 : (0 : Int) ≤ (k : Int) := by omega
          clear hown he hb hst hky hz hz2 hcap2
          go_wp2_with fail
          go_still_tail 14, (by kernel_rfl)
          change wpList _ _ _ _ _ wr.drew
          clear hx1 hx2
          go_wp2_with fail
          go_roundw
          case rel => exact ⟨k + 1, by omega, by go_num, by simpa using HOW⟩
          case measure => simp [intOf]; omega
        · obtain rfl : k = n := by omega
          have hltI : ¬ (k : Int) < (k : Int) := by omega
          go_wp2_with fail
          go_ret
          refine ⟨_, rfl, ?_⟩
          have := HO.out
          rw [List.take_of_length_le (by rw [HN.out]; exact Nat.le_refl _), List.drop_of_length_le (by rw [HN.out]; exact Nat.le_refl _), List.append_nil] at this
          exact this.drop2.drop2
  · skip
    go_enter Tryd.func46, Tryd.ntmps46
    go_upto_region 2 with fail
    obtain ⟨y0, y1, y2⟩ := rout_val H0.out
    generalize (w.alloc (.cells #[.int .i64 3, .int .u64 (x : Int), .string S] 42)).alloc (.cells #[.slice none 0 0] 90) = w1 at *
    generalize w.heap.size = vb at *
    obtain ⟨po, hpo⟩ : ∃ po, po = vb + 1 := ⟨_, rfl⟩
    rw [← hpo] at H0 ⊢
    clear hpo
    go_wp2_with fail
    refine (rnum w0 w1 po 1 1 _ [] _ H0.out (by omega) (by omega) (by simp)).mono ?_
    rintro e w2 ⟨v1, rfl, h1⟩
    rw [beB1] at h1
    have H1 : Hid (Own w0 w2 (ROut po v1 [1] (Sep (Blk vb (.cells #[.int .i64 3, .int .u64 (x : Int), .string S] 42 (0, 0))) J))) := Lib.hid h1
    clear h1 y0 y1 y2 H0
    obtain ⟨y0, y1, y2⟩ := rout_val H1.out
    go_wp2_with fail
    refine (rnum w0 w2 po x 1 _ [1] _ H1.out (by omega) HX.out (by simp)).mono ?_
    rintro e w3 ⟨v2, rfl, h2⟩
    have HE : Hid (Own w0 w3 (ROut po v2 X (Sep (Blk vb (.cells #[.int .i64 3, .int .u64 (x : Int), .string S] 42 (0, 0))) J))) := Lib.hid (by rw [HXX.out, kb_bool rfl, show ([1, UInt8.ofNat (vl 3 (x : Int) S).N] : List UInt8) = [1] ++ beB 1 x from by rw [beB1]; rfl]; exact h2)
    clear h2 y0 y1 y2 H1
    go_upto_region 21 with fail
    obtain ⟨g, cap, hve, hcap, hc9⟩ := OutB.full HE.out HKL.out.1
    subst hve
    obtain ⟨n, hn⟩ : ∃ n, n = X.length := ⟨_, rfl⟩
    rw [← hn] at HE hcap
    have HN := Lib.hid hn
    obtain ⟨c0, f0⟩ := rout_cell HE.out
    have hn131 : (n : Int) ≤ 131 := by have := HKL.out.2; omega
    clear hn
    cases d with
    | false =>
      by_cases hpos : (0 : Int) < (n : Int)
      · go_wp2_with fail
        go_loopw [7] (fun i wr => i = .int .i64 0 ∧ Hid (Own w0 wr (ROut po (.slice (some ⟨g, 0, none⟩) n cap) X (Sep (Blk vb (.cells #[.int .i64 3, .int .u64 (x : Int), .string S] 42 (0, 0))) J)))) (fun i _ => 0)
        case atStart => exact ⟨rfl, HE⟩
        case round =>
          obtain ⟨rfl, HO⟩ := hrel
          obtain ⟨c0, f0⟩ := rout_cell HO.out
          go_wp2_with fail
          go_ret
          exact ⟨_, rfl, HO.out.drop2.drop2⟩
      · exact absurd HKL.out.1 (by have := HN.out; omega)
    | true =>
      go_wp2_with fail
      go_loopw [7] (fun i wr => ∃ k : Nat, k ≤ n ∧ i = .int .i64 (k : Int) ∧ Hid (Own w0 wr (Sep (OutB (.slice (some ⟨g, 0, none⟩) n cap) ((X.take k).map not8 ++ X.drop k)) (Sep (Blk po (.cells #[.slice (some ⟨g, 0, none⟩) n cap] 90 (0, 0))) (Sep (Blk vb (.cells #[.int .i64 3, .int .u64 (x : Int), .string S] 42 (0, 0))) J))))) (fun i _ => n - (intOf i).toNat)
      case atStart => exact ⟨0, Nat.zero_le _, rfl, HE⟩
      case round =>
        clear HE c0 f0
        obtain ⟨k, hk, rfl, HO⟩ := hrel
        obtain ⟨c0, f0⟩ := rout_held HO.out
        by_cases hlt : k < n
        · have hky : k < X.length := by rw [← HN.out]; exact hlt
          obtain ⟨g2, cap2, hv, hcap2, hcell, hf, hown⟩ := out_put HO.out (k := k) (by simp; omega) (not8 (X.getD k 0))
          have hst := turn_step [] X k hky
          rw [List.nil_append, List.nil_append, List.length_nil, Nat.zero_add] at hst
          rw [hst] at hown
          have he : ((X.take k).map not8 ++ X.drop k).getD k 0 = X.getD k 0 := by
            rw [List.getD_eq_getElem?_getD, List.getElem?_append_right (by simp; omega)]
            simp
            rw [show k - min k X.length = 0 by omega]
            rfl
          rw [he] at hcell
          simp only [Value.slice.injEq, Option.some.injEq, Addr.mk.injEq] at hv
          obtain ⟨⟨rfl, a1, a2⟩, a3, rfl⟩ := hv
          clear a1 a2 a3
          obtain ⟨b, hb⟩ : ∃ b, X.getD k 0 = b := ⟨_, rfl⟩
          rw [hb] at hcell hown
          obtain ⟨z, hz⟩ : ∃ z : Int, (b.toNat : Int) = z := ⟨_, rfl⟩
          obtain ⟨z2, hz2⟩ : ∃ z2 : Int, ((not8 b).toNat : Int) = z2 := ⟨_, rfl⟩
          have hx1 := sub_not b
          rw [hz, hz2] at hx1
          have hx2 : (255 - z) % 256 = z2 := by rw [← IntKind.wrap_u8']; exact hx1
          rw [hz] at hcell
          rw [hz2] at hown
          have HOW := Lib.hid hown.drew
          have hltI : (k : Int) < (n : Int) := by omega
          have hk0 : (0 : Int) ≤ (k : Int) := by omega
          clear hown he hb hst hky hz hz2 hcap2
          go_wp2_with fail
          go_still_tail 14, (by kernel_rfl)
          change wpList _ _ _ _ _ wr.drew
          clear hx1 hx2
          go_wp2_with fail
          go_roundw
          case rel => exact ⟨k + 1, by omega, by go_num, by simpa using HOW⟩
          case measure => simp [intOf]; omega
        · obtain rfl : k = n := by omega
          have hltI : ¬ (k : Int) < (k : Int) := by omega
          go_wp2_with fail
          go_ret
          refine ⟨_, rfl, ?_⟩
          have := HO.out
          rw [List.take_of_length_le (by rw [HN.out]; exact Nat.le_refl _), List.drop_of_length_le (by rw [HN.out]; exact Nat.le_refl _), List.append_nil] at this
          exact this.drop2.drop2
  · skip
    go_enter Tryd.func46, Tryd.ntmps46
    go_upto_region 2 with fail
    obtain ⟨y0, y1, y2⟩ := rout_val H0.out
    generalize (w.alloc (.cells #[.int .i64 4, .int .u64 (x : Int), .string S] 42)).alloc (.cells #[.slice none 0 0] 90) = w1 at *
    generalize w.heap.size = vb at *
    obtain ⟨po, hpo⟩ : ∃ po, po = vb + 1 := ⟨_, rfl⟩
    rw [← hpo] at H0 ⊢
    clear hpo
    go_wp2_with fail
    refine (rnum w0 w1 po 1 1 _ [] _ H0.out (by omega) (by omega) (by simp)).mono ?_
    rintro e w2 ⟨v1, rfl, h1⟩
    rw [beB1] at h1
    have H1 : Hid (Own w0 w2 (ROut po v1 [1] (Sep (Blk vb (.cells #[.int .i64 4, .int .u64 (x : Int), .string S] 42 (0, 0))) J))) := Lib.hid h1
    clear h1 y0 y1 y2 H0
    obtain ⟨y0, y1, y2⟩ := rout_val H1.out
    have hs64 : S.size ≤ 64 := HSZ.out (by simp)
    have hsI : (S.size : Int) ≤ 64 := by omega
    go_wp2_with fail
    go_loopw [6] (fun i wr => ∃ (j : Nat) (v : Value), j ≤ S.size ∧ i = .int .i64 (j : Int) ∧ Hid (Own w0 wr (ROut po v ([1] ++ escK (S.toList.take j)) (Sep (Blk vb (.cells #[.int .i64 4, .int .u64 (x : Int), .string S] 42 (0, 0))) J)))) (fun i _ => S.size - (intOf i).toNat)
    case atStart => exact ⟨0, v1, Nat.zero_le _, rfl, H1⟩
    case round =>
      clear H1 y0 y1 y2
      obtain ⟨j, v, hj, rfl, HO⟩ := hrel
      obtain ⟨y0, y1, y2⟩ := rout_val HO.out
      have hln : ([1] ++ escK (S.toList.take j)).length ≤ 200 := by
        have h1 := escK_length (S.toList.take j)
        have h3 : (S.toList.take j).length ≤ j := List.length_take_le _ _
        simp only [List.length_append, List.length_singleton]
        omega
      have HLN := Lib.hid hln
      clear hln
      by_cases hlt : j < S.size
      · obtain ⟨c, hc⟩ : ∃ c, S[j]'hlt = c := ⟨_, rfl⟩
        obtain ⟨z, hz⟩ : ∃ z : Int, ((S[j]'hlt).toNat : Int) = z := ⟨_, rfl⟩
        have hcz : (c.toNat : Int) = z := by rw [← hc]; exact hz
        have HSN := Lib.hid (snoc_esc S j hlt c hc)
        have hz256 : 0 ≤ z ∧ z < 256 := by have := c.toNat_lt; omega
        obtain ⟨zn, hzn⟩ : ∃ zn : Nat, (zn : Int) = z := ⟨c.toNat, hcz⟩
        have HZN : Hid (UInt8.ofNat zn = c) := Lib.hid (by
          have : zn = c.toNat := by omega
          rw [this, UInt8.ofNat_toNat])
        have q0 : IntKind.u64.wrap z = z := by rw [IntKind.wrap_u64]; omega
        have hltI : (j : Int) < (S.size : Int) := by omega
        have hj0 : (0 : Int) ≤ (j : Int) := by omega
        have HNUM : Hid (∀ W v' xs, Own w0 W (ROut po v' xs (Sep (Blk vb (.cells #[.int .i64 4, .int .u64 (x : Int), .string S] 42 (0, 0))) J)) → xs.length ≤ 900000 → Calls Tryd.prog 54 #[.pointer (some ⟨po, 0, none⟩), .int .u64 z, .int .i64 1] W fun e w' => ∃ v2, e = .returned (.tuple #[]) ∧ Own w0 w' (ROut po v2 (xs ++ [c]) (Sep (Blk vb (.cells #[.int .i64 4, .int .u64 (x : Int), .string S] 42 (0, 0))) J))) := Lib.hid (fun W v' xs h hl => by
          have := rnum w0 W po zn 1 v' xs _ h (by omega) (by omega) hl
          rw [hzn, beB1, HZN.out] at this
          exact this)
        have HCZ := Lib.hid hcz
        clear hc hzn hcz
        go_wp2_with fail
        refine (HNUM.out _ _ _ HO.out (by have := HLN.out; omega)).mono ?_
        rintro e w5 ⟨v2, rfl, h2⟩
        have H2 := Lib.hid h2
        clear h2 y0 y1 y2 HO HNUM
        obtain ⟨y0, y1, y2⟩ := rout_val H2.out
        by_cases h0 : z = 0
        · have hzb : (z == 0) = true := by simpa using h0
          have hc0 : c = 0 := UInt8.toNat_inj.1 (by show c.toNat = 0; have := HCZ.out; omega)
          have HST : Hid (([1] ++ escK (S.toList.take j)) ++ [c] ++ [255] = [1] ++ escK (S.toList.take (j + 1))) := Lib.hid (by rw [HSN.out, if_pos hc0, hc0]; simp)
          go_wp2_with fail
          refine (rnum w0 w5 po 255 1 _ _ _ H2.out (by omega) (by omega) (by have := HLN.out; simp at this ⊢; omega)).mono ?_
          rintro e w6 ⟨v3, rfl, h3⟩
          rw [beB1, show UInt8.ofNat 255 = 255 from rfl, HST.out] at h3
          have H3 := Lib.hid h3
          clear h3 y0 y1 y2 H2 q0
          go_wp2_with fail
          go_roundw
          case rel => exact ⟨j + 1, _, by omega, by go_num, H3⟩
          case measure => simp [intOf]; omega
        · have hzb : (z == 0) = false := by simpa using h0
          have hc0 : ¬ c = 0 := fun e => h0 (by rw [← HCZ.out, e]; rfl)
          have H3 : Hid (Own w0 w5 (ROut po v2 ([1] ++ escK (S.toList.take (j + 1))) (Sep (Blk vb (.cells #[.int .i64 4, .int .u64 (x : Int), .string S] 42 (0, 0))) J))) := Lib.hid (by
            have := H2.out
            rw [List.append_assoc] at this
            rw [HSN.out, if_neg hc0]
            exact this)
          clear H2 q0 h0
          go_wp2_with fail
          go_roundw
          case rel => exact ⟨j + 1, _, by omega, by go_num, H3⟩
          case measure => simp [intOf]; omega
      · obtain rfl : j = S.size := by omega
        have hltI : ¬ (S.size : Int) < (S.size : Int) := by omega
        go_wp2_with fail
        refine (rnum w0 _ po 0 2 _ _ _ HO.out (by omega) (by omega) (by have := HLN.out; omega)).mono ?_
        rintro e w6 ⟨v3, rfl, h3⟩
        have HE : Hid (Own w0 w6 (ROut po v3 X (Sep (Blk vb (.cells #[.int .i64 4, .int .u64 (x : Int), .string S] 42 (0, 0))) J))) := Lib.hid (by
          rw [HXX.out, kb_text (by first | exact .inl rfl | exact .inr rfl)]
          rw [List.take_of_length_le (by rw [ba_size]; exact Nat.le_refl _), List.append_assoc, show beB 2 0 = [0, 0] from rfl] at h3
          exact h3)
        clear h3 y0 y1 y2 HO
        go_upto_region 21 with fail
        obtain ⟨g, cap, hve, hcap, hc9⟩ := OutB.full HE.out HKL.out.1
        subst hve
        obtain ⟨n, hn⟩ : ∃ n, n = X.length := ⟨_, rfl⟩
        rw [← hn] at HE hcap
        have HN := Lib.hid hn
        obtain ⟨c0, f0⟩ := rout_cell HE.out
        have hn131 : (n : Int) ≤ 131 := by have := HKL.out.2; omega
        clear hn
        cases d with
        | false =>
          by_cases hpos : (0 : Int) < (n : Int)
          · go_wp2_with fail
            go_loopw [7] (fun i wr => i = .int .i64 0 ∧ Hid (Own w0 wr (ROut po (.slice (some ⟨g, 0, none⟩) n cap) X (Sep (Blk vb (.cells #[.int .i64 4, .int .u64 (x : Int), .string S] 42 (0, 0))) J)))) (fun i _ => 0)
            case atStart => exact ⟨rfl, HE⟩
            case round =>
              obtain ⟨rfl, HO⟩ := hrel
              obtain ⟨c0, f0⟩ := rout_cell HO.out
              go_wp2_with fail
              go_ret
              exact ⟨_, rfl, HO.out.drop2.drop2⟩
          · exact absurd HKL.out.1 (by have := HN.out; omega)
        | true =>
          go_wp2_with fail
          go_loopw [7] (fun i wr => ∃ k : Nat, k ≤ n ∧ i = .int .i64 (k : Int) ∧ Hid (Own w0 wr (Sep (OutB (.slice (some ⟨g, 0, none⟩) n cap) ((X.take k).map not8 ++ X.drop k)) (Sep (Blk po (.cells #[.slice (some ⟨g, 0, none⟩) n cap] 90 (0, 0))) (Sep (Blk vb (.cells #[.int .i64 4, .int .u64 (x : Int), .string S] 42 (0, 0))) J))))) (fun i _ => n - (intOf i).toNat)
          case atStart => exact ⟨0, Nat.zero_le _, rfl, HE⟩
          case round =>
            clear HE c0 f0
            obtain ⟨k, hk, rfl, HO⟩ := hrel
            obtain ⟨c0, f0⟩ := rout_held HO.out
            by_cases hlt : k < n
            · have hky : k < X.length := by rw [← HN.out]; exact hlt
              obtain ⟨g2, cap2, hv, hcap2, hcell, hf, hown⟩ := out_put HO.out (k := k) (by simp; omega) (not8 (X.getD k 0))
              have hst := turn_step [] X k hky
              rw [List.nil_append, List.nil_append, List.length_nil, Nat.zero_add] at hst
              rw [hst] at hown
              have he : ((X.take k).map not8 ++ X.drop k).getD k 0 = X.getD k 0 := by
                rw [List.getD_eq_getElem?_getD, List.getElem?_append_right (by simp; omega)]
                simp
                rw [show k - min k X.length = 0 by omega]
                rfl
              rw [he] at hcell
              simp only [Value.slice.injEq, Option.some.injEq, Addr.mk.injEq] at hv
              obtain ⟨⟨rfl, a1, a2⟩, a3, rfl⟩ := hv
              clear a1 a2 a3
              obtain ⟨b, hb⟩ : ∃ b, X.getD k 0 = b := ⟨_, rfl⟩
              rw [hb] at hcell hown
              obtain ⟨z, hz⟩ : ∃ z : Int, (b.toNat : Int) = z := ⟨_, rfl⟩
              obtain ⟨z2, hz2⟩ : ∃ z2 : Int, ((not8 b).toNat : Int) = z2 := ⟨_, rfl⟩
              have hx1 := sub_not b
              rw [hz, hz2] at hx1
              have hx2 : (255 - z) % 256 = z2 := by rw [← IntKind.wrap_u8']; exact hx1
              rw [hz] at hcell
              rw [hz2] at hown
              have HOW := Lib.hid hown.drew
              have hltI : (k : Int) < (n : Int) := by omega
              have hk0 : (0 : Int) ≤ (k : Int) := by omega
              clear hown he hb hst hky hz hz2 hcap2
              go_wp2_with fail
              go_still_tail 14, (by kernel_rfl)
              change wpList _ _ _ _ _ wr.drew
              clear hx1 hx2
              go_wp2_with fail
              go_roundw
              case rel => exact ⟨k + 1, by omega, by go_num, by simpa using HOW⟩
              case measure => simp [intOf]; omega
            · obtain rfl : k = n := by omega
              have hltI : ¬ (k : Int) < (k : Int) := by omega
              go_wp2_with fail
              go_ret
              refine ⟨_, rfl, ?_⟩
              have := HO.out
              rw [List.take_of_length_le (by rw [HN.out]; exact Nat.le_refl _), List.drop_of_length_le (by rw [HN.out]; exact Nat.le_refl _), List.append_nil] at this
              exact this.drop2.drop2
  · skip
    go_enter Tryd.func46, Tryd.ntmps46
    go_upto_region 2 with fail
    obtain ⟨y0, y1, y2⟩ := rout_val H0.out
    generalize (w.alloc (.cells #[.int .i64 5, .int .u64 (x : Int), .string S] 42)).alloc (.cells #[.slice none 0 0] 90) = w1 at *
    generalize w.heap.size = vb at *
    obtain ⟨po, hpo⟩ : ∃ po, po = vb + 1 := ⟨_, rfl⟩
    rw [← hpo] at H0 ⊢
    clear hpo
    go_wp2_with fail
    refine (rnum w0 w1 po 1 1 _ [] _ H0.out (by omega) (by omega) (by simp)).mono ?_
    rintro e w2 ⟨v1, rfl, h1⟩
    rw [beB1] at h1
    have H1 : Hid (Own w0 w2 (ROut po v1 [1] (Sep (Blk vb (.cells #[.int .i64 5, .int .u64 (x : Int), .string S] 42 (0, 0))) J))) := Lib.hid h1
    clear h1 y0 y1 y2 H0
    obtain ⟨y0, y1, y2⟩ := rout_val H1.out
    have hs64 : S.size ≤ 64 := HSZ.out (by simp)
    have hsI : (S.size : Int) ≤ 64 := by omega
    go_wp2_with fail
    go_loopw [6] (fun i wr => ∃ (j : Nat) (v : Value), j ≤ S.size ∧ i = .int .i64 (j : Int) ∧ Hid (Own w0 wr (ROut po v ([1] ++ escK (S.toList.take j)) (Sep (Blk vb (.cells #[.int .i64 5, .int .u64 (x : Int), .string S] 42 (0, 0))) J)))) (fun i _ => S.size - (intOf i).toNat)
    case atStart => exact ⟨0, v1, Nat.zero_le _, rfl, H1⟩
    case round =>
      clear H1 y0 y1 y2
      obtain ⟨j, v, hj, rfl, HO⟩ := hrel
      obtain ⟨y0, y1, y2⟩ := rout_val HO.out
      have hln : ([1] ++ escK (S.toList.take j)).length ≤ 200 := by
        have h1 := escK_length (S.toList.take j)
        have h3 : (S.toList.take j).length ≤ j := List.length_take_le _ _
        simp only [List.length_append, List.length_singleton]
        omega
      have HLN := Lib.hid hln
      clear hln
      by_cases hlt : j < S.size
      · obtain ⟨c, hc⟩ : ∃ c, S[j]'hlt = c := ⟨_, rfl⟩
        obtain ⟨z, hz⟩ : ∃ z : Int, ((S[j]'hlt).toNat : Int) = z := ⟨_, rfl⟩
        have hcz : (c.toNat : Int) = z := by rw [← hc]; exact hz
        have HSN := Lib.hid (snoc_esc S j hlt c hc)
        have hz256 : 0 ≤ z ∧ z < 256 := by have := c.toNat_lt; omega
        obtain ⟨zn, hzn⟩ : ∃ zn : Nat, (zn : Int) = z := ⟨c.toNat, hcz⟩
        have HZN : Hid (UInt8.ofNat zn = c) := Lib.hid (by
          have : zn = c.toNat := by omega
          rw [this, UInt8.ofNat_toNat])
        have q0 : IntKind.u64.wrap z = z := by rw [IntKind.wrap_u64]; omega
        have hltI : (j : Int) < (S.size : Int) := by omega
        have hj0 : (0 : Int) ≤ (j : Int) := by omega
        have HNUM : Hid (∀ W v' xs, Own w0 W (ROut po v' xs (Sep (Blk vb (.cells #[.int .i64 5, .int .u64 (x : Int), .string S] 42 (0, 0))) J)) → xs.length ≤ 900000 → Calls Tryd.prog 54 #[.pointer (some ⟨po, 0, none⟩), .int .u64 z, .int .i64 1] W fun e w' => ∃ v2, e = .returned (.tuple #[]) ∧ Own w0 w' (ROut po v2 (xs ++ [c]) (Sep (Blk vb (.cells #[.int .i64 5, .int .u64 (x : Int), .string S] 42 (0, 0))) J))) := Lib.hid (fun W v' xs h hl => by
          have := rnum w0 W po zn 1 v' xs _ h (by omega) (by omega) hl
          rw [hzn, beB1, HZN.out] at this
          exact this)
        have HCZ := Lib.hid hcz
        clear hc hzn hcz
        go_wp2_with fail
        refine (HNUM.out _ _ _ HO.out (by have := HLN.out; omega)).mono ?_
        rintro e w5 ⟨v2, rfl, h2⟩
        have H2 := Lib.hid h2
        clear h2 y0 y1 y2 HO HNUM
        obtain ⟨y0, y1, y2⟩ := rout_val H2.out
        by_cases h0 : z = 0
        · have hzb : (z == 0) = true := by simpa using h0
          have hc0 : c = 0 := UInt8.toNat_inj.1 (by show c.toNat = 0; have := HCZ.out; omega)
          have HST : Hid (([1] ++ escK (S.toList.take j)) ++ [c] ++ [255] = [1] ++ escK (S.toList.take (j + 1))) := Lib.hid (by rw [HSN.out, if_pos hc0, hc0]; simp)
          go_wp2_with fail
          refine (rnum w0 w5 po 255 1 _ _ _ H2.out (by omega) (by omega) (by have := HLN.out; simp at this ⊢; omega)).mono ?_
          rintro e w6 ⟨v3, rfl, h3⟩
          rw [beB1, show UInt8.ofNat 255 = 255 from rfl, HST.out] at h3
          have H3 := Lib.hid h3
          clear h3 y0 y1 y2 H2 q0
          go_wp2_with fail
          go_roundw
          case rel => exact ⟨j + 1, _, by omega, by go_num, H3⟩
          case measure => simp [intOf]; omega
        · have hzb : (z == 0) = false := by simpa using h0
          have hc0 : ¬ c = 0 := fun e => h0 (by rw [← HCZ.out, e]; rfl)
          have H3 : Hid (Own w0 w5 (ROut po v2 ([1] ++ escK (S.toList.take (j + 1))) (Sep (Blk vb (.cells #[.int .i64 5, .int .u64 (x : Int), .string S] 42 (0, 0))) J))) := Lib.hid (by
            have := H2.out
            rw [List.append_assoc] at this
            rw [HSN.out, if_neg hc0]
            exact this)
          clear H2 q0 h0
          go_wp2_with fail
          go_roundw
          case rel => exact ⟨j + 1, _, by omega, by go_num, H3⟩
          case measure => simp [intOf]; omega
      · obtain rfl : j = S.size := by omega
        have hltI : ¬ (S.size : Int) < (S.size : Int) := by omega
        go_wp2_with fail
        refine (rnum w0 _ po 0 2 _ _ _ HO.out (by omega) (by omega) (by have := HLN.out; omega)).mono ?_
        rintro e w6 ⟨v3, rfl, h3⟩
        have HE : Hid (Own w0 w6 (ROut po v3 X (Sep (Blk vb (.cells #[.int .i64 5, .int .u64 (x : Int), .string S] 42 (0, 0))) J))) := Lib.hid (by
          rw [HXX.out, kb_text (by first | exact .inl rfl | exact .inr rfl)]
          rw [List.take_of_length_le (by rw [ba_size]; exact Nat.le_refl _), List.append_assoc, show beB 2 0 = [0, 0] from rfl] at h3
          exact h3)
        clear h3 y0 y1 y2 HO
        go_upto_region 21 with fail
        obtain ⟨g, cap, hve, hcap, hc9⟩ := OutB.full HE.out HKL.out.1
        subst hve
        obtain ⟨n, hn⟩ : ∃ n, n = X.length := ⟨_, rfl⟩
        rw [← hn] at HE hcap
        have HN := Lib.hid hn
        obtain ⟨c0, f0⟩ := rout_cell HE.out
        have hn131 : (n : Int) ≤ 131 := by have := HKL.out.2; omega
        clear hn
        cases d with
        | false =>
          by_cases hpos : (0 : Int) < (n : Int)
          · go_wp2_with fail
            go_loopw [7] (fun i wr => i = .int .i64 0 ∧ Hid (Own w0 wr (ROut po (.slice (some ⟨g, 0, none⟩) n cap) X (Sep (Blk vb (.cells #[.int .i64 5, .int .u64 (x : Int), .string S] 42 (0, 0))) J)))) (fun i _ => 0)
            case atStart => exact ⟨rfl, HE⟩
            case round =>
              obtain ⟨rfl, HO⟩ := hrel
              obtain ⟨c0, f0⟩ := rout_cell HO.out
              go_wp2_with fail
              go_ret
              exact ⟨_, rfl, HO.out.drop2.drop2⟩
          · exact absurd HKL.out.1 (by have := HN.out; omega)
        | true =>
          go_wp2_with fail
          go_loopw [7] (fun i wr => ∃ k : Nat, k ≤ n ∧ i = .int .i64 (k : Int) ∧ Hid (Own w0 wr (Sep (OutB (.slice (some ⟨g, 0, none⟩) n cap) ((X.take k).map not8 ++ X.drop k)) (Sep (Blk po (.cells #[.slice (some ⟨g, 0, none⟩) n cap] 90 (0, 0))) (Sep (Blk vb (.cells #[.int .i64 5, .int .u64 (x : Int), .string S] 42 (0, 0))) J))))) (fun i _ => n - (intOf i).toNat)
          case atStart => exact ⟨0, Nat.zero_le _, rfl, HE⟩
          case round =>
            clear HE c0 f0
            obtain ⟨k, hk, rfl, HO⟩ := hrel
            obtain ⟨c0, f0⟩ := rout_held HO.out
            by_cases hlt : k < n
            · have hky : k < X.length := by rw [← HN.out]; exact hlt
              obtain ⟨g2, cap2, hv, hcap2, hcell, hf, hown⟩ := out_put HO.out (k := k) (by simp; omega) (not8 (X.getD k 0))
              have hst := turn_step [] X k hky
              rw [List.nil_append, List.nil_append, List.length_nil, Nat.zero_add] at hst
              rw [hst] at hown
              have he : ((X.take k).map not8 ++ X.drop k).getD k 0 = X.getD k 0 := by
                rw [List.getD_eq_getElem?_getD, List.getElem?_append_right (by simp; omega)]
                simp
                rw [show k - min k X.length = 0 by omega]
                rfl
              rw [he] at hcell
              simp only [Value.slice.injEq, Option.some.injEq, Addr.mk.injEq] at hv
              obtain ⟨⟨rfl, a1, a2⟩, a3, rfl⟩ := hv
              clear a1 a2 a3
              obtain ⟨b, hb⟩ : ∃ b, X.getD k 0 = b := ⟨_, rfl⟩
              rw [hb] at hcell hown
              obtain ⟨z, hz⟩ : ∃ z : Int, (b.toNat : Int) = z := ⟨_, rfl⟩
              obtain ⟨z2, hz2⟩ : ∃ z2 : Int, ((not8 b).toNat : Int) = z2 := ⟨_, rfl⟩
              have hx1 := sub_not b
              rw [hz, hz2] at hx1
              have hx2 : (255 - z) % 256 = z2 := by rw [← IntKind.wrap_u8']; exact hx1
              rw [hz] at hcell
              rw [hz2] at hown
              have HOW := Lib.hid hown.drew
              have hltI : (k : Int) < (n : Int) := by omega
              have hk0 : (0 : Int) ≤ (k : Int) := by omega
              clear hown he hb hst hky hz hz2 hcap2
              go_wp2_with fail
              go_still_tail 14, (by kernel_rfl)
              change wpList _ _ _ _ _ wr.drew
              clear hx1 hx2
              go_wp2_with fail
              go_roundw
              case rel => exact ⟨k + 1, by omega, by go_num, by simpa using HOW⟩
              case measure => simp [intOf]; omega
            · obtain rfl : k = n := by omega
              have hltI : ¬ (k : Int) < (k : Int) := by omega
              go_wp2_with fail
              go_ret
              refine ⟨_, rfl, ?_⟩
              have := HO.out
              rw [List.take_of_length_le (by rw [HN.out]; exact Nat.le_refl _), List.drop_of_length_le (by rw [HN.out]; exact Nat.le_refl _), List.append_nil] at this
              exact this.drop2.drop2

end Go.Proofs.YtlmpknhekoeecaaDoor
