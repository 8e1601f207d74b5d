/-
  Package key's put and Encode: it answers encE.
-/
import Derived.Test.YtpedcpehomkikaaDoorKey6
import Derived.Deep.RegionLaw
namespace Go.Proofs.YtpedcpehomkikaaDoor
open Go Go.RowKit
set_option linter.unusedVariables false
set_option linter.unusedSimpArgs false
set_option maxRecDepth 100000

theorem kb_null {v : Vl} (h : v.K = 0) : kb0 v = [0] := by unfold kb0; rw [if_pos h]
theorem kb_int {v : Vl} (h : v.K = 1) : kb0 v = [1] ++ beB 8 (flipN v.N) := by unfold kb0 kNum; rw [if_neg (by omega), if_pos (.inl h), if_pos h]; rfl
theorem kb_uint {v : Vl} (h : v.K = 2) : kb0 v = [1] ++ beB 8 v.N := by unfold kb0 kNum; rw [if_neg (by omega), if_pos (.inr h), if_neg (by omega)]; rfl
theorem kb_bool {v : Vl} (h : v.K = 3) : kb0 v = [1, UInt8.ofNat v.N] := by unfold kb0; rw [if_neg (by omega), if_neg (by omega), if_pos h]
theorem kb_text {v : Vl} (h : v.K = 4 ∨ v.K = 5) : kb0 v = [1] ++ (escK v.S ++ [0, 0]) := by unfold kb0; rw [if_neg (by omega), if_neg (by omega), if_neg (by omega)]; rfl

/-- The same in a region that draws its order. -/
theorem own_step {ops : Array Oper} {o : Oper} {a : Act} {K : Act → World → Prop} {Q : Exit → Act → World → Prop} {E : Prop} {w0 W : World} {v : Value} {xs : List UInt8} {J : Res} [Stab J] (h : Own w0 W (Sep (OutB v xs) J)) (ys : List UInt8) (c b : Nat)
    (hy : 1 ≤ ys.length) (hyl : ys.length ≤ 1000) (hlen : xs.length ≤ 1000000) (hgd : o.guard = none) (s x : Operand) (ho : o.op = .call { callee := .builtin .append, args := #[s, x], argTypes := #[50, 50] })
    (cs : Array Value) (hcs : cs = (u8s ys).toArray) (hb : W.heap[b]? = some (.cells cs 5 (0, 0))) (hs : a.eval s = v) (hx : a.eval x = .slice (some ⟨b, 0, none⟩) ys.length c)
    (k : ∀ g cap n w', Hid (n = (xs ++ ys).length) → Hid (Own w0 w' (Sep (OutB (.slice (some ⟨g, 0, none⟩) n cap) (xs ++ ys)) J)) → K (a.put o.dst (.slice (some ⟨g, 0, none⟩) n cap)) w') :
    if Region.wanted o (yielded ops a.tmps) = true then Oper.wp Tryd.prog o a W K Q else E := by
  subst hcs
  obtain ⟨i0, hi, hz0, hz1, hz2⟩ := info_parts Tryd.infoU8
  refine step_append_lies (P := Tryd.prog) W hgd s x 50 ho 0 5 i0 (.int .u8 0) 1 1 Tryd.underlying50 hi hz0 hz1 hz2 rfl (by decide) v xs.length (u8s xs) hs
    h.owns ⟨b, 0, none⟩ ys.length c (u8s ys) hx (by rw [u8s_length, Nat.mul_one]) (World.news_of_block hb) (u8s_oneCell _) hy (by unfold maxLen; omega) (by omega) (Nat.zero_le _) W.heap.size rfl ?_
  intro g cap w1 hown hgrow hat hlt
  have h5 := h.appended hown hgrow (hat.imp id (fun e => by omega))
  rw [← u8s_append] at h5
  refine k g cap (xs.length + ys.length) w1 (Lib.hid (by simp)) (Lib.hid ?_)
  unfold OutB
  rw [List.length_append]
  exact h5

set_option maxHeartbeats 600000 in
theorem put_any (w0 w : World) (ao : Option Addr) (cap n : Nat) (K N : Int) (S : ByteArray) (xs : List UInt8) (J : Res) [Stab J] (h : Own w0 w (Sep (OutB (.slice ao n cap) xs) J)) (hN : U64 N) (hok : (vl K N S).okB = true) (hlen : xs.length ≤ 50000) :
    Calls Tryd.prog 26 #[.slice ao n cap, vlv K N S] w fun e w' => ∃ v, e = .returned v ∧ Own w0 w' (Sep (OutB v (xs ++ kb0 (vl K N S))) J) := by
  have HL := Lib.hid hlen
  have HA := Lib.hid (h.alloc (.cells #[.int .i64 K, .int .u64 N, .string S] 35)).snd
  have HB := Lib.hid (h.lend (.cells #[.int .i64 K, .int .u64 N, .string S] 35))
  obtain ⟨x, rfl⟩ : ∃ x : Nat, N = (x : Int) := ⟨N.toNat, by have := hN.lo; omega⟩
  have hx : x < 18446744073709551616 := by have := hN.hi; omega
  have hK : K = 0 ∨ K = 1 ∨ K = 2 ∨ K = 3 ∨ K = 4 ∨ K = 5 := by
    rcases ok_kinds hok with ⟨e, _⟩ | ⟨e, _⟩ | ⟨e, _⟩ | ⟨e, _⟩ <;> simp only at e <;> omega
  have HSZ : Hid ((K = 4 ∨ K = 5) → S.size ≤ 64) := Lib.hid (fun e => by
    rcases ok_kinds hok with ⟨f, _⟩ | ⟨f, _⟩ | ⟨f, _⟩ | ⟨_, _, f⟩
    · simp only at f; omega
    · simp only at f; omega
    · simp only at f; omega
    · rw [← ba_size]; exact f)
  clear h hlen hN hok
  rcases hK with rfl | rfl | rfl | rfl | rfl | rfl
  · have HE := Lib.hid (kb_null (v := vl 0 (x : Int) S) rfl)
    generalize kb0 (vl 0 (x : Int) S) = E at *
    go_enter Tryd.func26, Tryd.ntmps26
    go_wp2_with (at_builtin; refine own_append HA.out [0] 1 (by simp) (by simp) (by have := HL.out; omega) rfl _ _ rfl rfl _ rfl (by simp [Act.eval]) ?_)
    intro g cap2 n2 w5 hn2 hown
    go_wp2_with fail
    go_ret
    exact ⟨_, rfl, by rw [HE.out]; exact hown.out⟩
  · have HE := Lib.hid (kb_int (v := vl 1 (x : Int) S) rfl)
    have hf := flip_bits x hx
    have HF := Lib.hid (flipN_lt hx)
    clear hx
    have he : (vl 1 (x : Int) S).N = x := rfl
    rw [he] at HE
    generalize flipN x = m at hf HF HE
    generalize kb0 (vl 1 (x : Int) S) = E at *
    go_enter Tryd.func26, Tryd.ntmps26
    go_upto_region 5 with fail
    generalize w.alloc (.cells #[.int .i64 1, .int .u64 (x : Int), .string S] 35) = w1 at *
    generalize w.heap.size = vb at *
    have HR1 : Hid (Own w0 (w1.alloc (.cells #[.int .u8 1] 5)).drew (Sep (OutB (.slice ao n cap) xs) (Sep (Blk w1.heap.size (.cells #[.int .u8 1] 5)) (Sep (Blk vb (.cells #[.int .i64 1, .int .u64 (x : Int), .string S] 35)) J)))) := Lib.hid (HB.out.lend (.cells #[.int .u8 1] 5)).drew
    have n1 : w1.cell? ⟨vb, 1, none⟩ = some (.int .u64 (x : Int)) := (blk_cells3 HB.out.swap.held).2.1
    have HRB := Lib.hid HR1.out.swap.held
    have n2 : (w1.alloc (.cells #[.int .u8 1] 5)).cell? ⟨vb, 1, none⟩ = some (.int .u64 (x : Int)) := (blk_cells3 (HB.out.lend (.cells #[.int .u8 1] 5)).snd.snd.held).2.1
    go_region_law (first
      | (go_simp; go_at_call 37; refine (put_number w0 _ _ _ _ m (xs ++ [1]) _ hown.out HF.out (by have := HL.out; simp; omega)).mono ?_; rintro e w6 ⟨v6, rfl, h6⟩; have H6 := Lib.hid h6; clear h6)
      | (refine own_step HR1.out [1] 1 w1.heap.size (by simp) (by simp) (by have := HL.out; omega) rfl (.tmp 14) (.tmp 15) rfl #[.int .u8 1] rfl HRB.out ?_ ?_ ?_; (go_must (first | rfl | simp [Act.eval])); (go_must (first | rfl | simp [Act.eval])); (go_must (intro g cap2 n2 w5 hn2 hown; have n5 := (blk_cells3 hown.out.snd.snd.held).2.1))))
    all_goals
      clear hown n5
      go_wp2
      go_ret
      exact ⟨_, rfl, by rw [HE.out, ← List.append_assoc]; exact H6.out.drop2.drop2⟩
  · have HE := Lib.hid (kb_uint (v := vl 2 (x : Int) S) rfl)
    have HX := Lib.hid hx
    have he : (vl 2 (x : Int) S).N = x := rfl
    rw [he] at HE
    generalize kb0 (vl 2 (x : Int) S) = E at *
    clear hx he
    go_enter Tryd.func26, Tryd.ntmps26
    go_upto_region 7 with fail
    generalize w.alloc (.cells #[.int .i64 2, .int .u64 (x : Int), .string S] 35) = w1 at *
    generalize w.heap.size = vb at *
    have HR1 : Hid (Own w0 (w1.alloc (.cells #[.int .u8 1] 5)).drew (Sep (OutB (.slice ao n cap) xs) (Sep (Blk w1.heap.size (.cells #[.int .u8 1] 5)) (Sep (Blk vb (.cells #[.int .i64 2, .int .u64 (x : Int), .string S] 35)) J)))) := Lib.hid (HB.out.lend (.cells #[.int .u8 1] 5)).drew
    have n1 : w1.cell? ⟨vb, 1, none⟩ = some (.int .u64 (x : Int)) := (blk_cells3 HB.out.swap.held).2.1
    have HRB := Lib.hid HR1.out.swap.held
    have n2 : (w1.alloc (.cells #[.int .u8 1] 5)).cell? ⟨vb, 1, none⟩ = some (.int .u64 (x : Int)) := (blk_cells3 (HB.out.lend (.cells #[.int .u8 1] 5)).snd.snd.held).2.1
    go_region_law (first
      | (go_simp; go_at_call 37; refine (put_number w0 _ _ _ _ x (xs ++ [1]) _ hown.out HX.out (by have := HL.out; simp; omega)).mono ?_; rintro e w6 ⟨v6, rfl, h6⟩; have H6 := Lib.hid h6; clear h6)
      | (refine own_step HR1.out [1] 1 w1.heap.size (by simp) (by simp) (by have := HL.out; omega) rfl (.tmp 23) (.tmp 24) rfl #[.int .u8 1] rfl HRB.out ?_ ?_ ?_; (go_must (first | rfl | simp [Act.eval])); (go_must (first | rfl | simp [Act.eval])); (go_must (intro g cap2 n2 w5 hn2 hown; have n5 := (blk_cells3 hown.out.snd.snd.held).2.1))))
    all_goals
      clear hown n5
      go_wp2
      go_ret
      exact ⟨_, rfl, by rw [HE.out, ← List.append_assoc]; exact H6.out.drop2.drop2⟩
  · have HE := Lib.hid (kb_bool (v := vl 3 (x : Int) S) rfl)
    have he : (vl 3 (x : Int) S).N = x := rfl
    rw [he] at HE
    generalize kb0 (vl 3 (x : Int) S) = E at *
    have HBY := Lib.hid (byte_of x)
    go_enter Tryd.func26, Tryd.ntmps26
    go_wp2_with (at_builtin; refine own_append HA.out [1, UInt8.ofNat x] 2 (by simp) (by simp) (by have := HL.out; omega) rfl _ _ rfl rfl _ (by rw [HBY.out]; rfl) (by simp [Act.eval]) ?_)
    intro g cap2 n2 w5 hn2 hown
    go_wp2_with fail
    go_ret
    exact ⟨_, rfl, by rw [HE.out]; exact hown.out⟩
  · have HE := Lib.hid (kb_text (v := vl 4 (x : Int) S) (.inl rfl))
    have HS64 : Hid (S.size ≤ 4096) := Lib.hid (by have := HSZ.out (.inl rfl); omega)
    have he : (vl 4 (x : Int) S).S = S.toList := rfl
    rw [he] at HE
    generalize kb0 (vl 4 (x : Int) S) = E at *
    clear hx he
    go_enter Tryd.func26, Tryd.ntmps26
    go_upto_region 10 with fail
    generalize w.alloc (.cells #[.int .i64 4, .int .u64 (x : Int), .string S] 35) = w1 at *
    generalize w.heap.size = vb at *
    have HR1 : Hid (Own w0 (w1.alloc (.cells #[.int .u8 1] 5)).drew (Sep (OutB (.slice ao n cap) xs) (Sep (Blk w1.heap.size (.cells #[.int .u8 1] 5)) (Sep (Blk vb (.cells #[.int .i64 4, .int .u64 (x : Int), .string S] 35)) J)))) := Lib.hid (HB.out.lend (.cells #[.int .u8 1] 5)).drew
    have n1 : w1.cell? ⟨vb, 2, none⟩ = some (.string S) := (blk_cells3 HB.out.swap.held).2.2.1
    have HRB := Lib.hid HR1.out.swap.held
    have n2 : (w1.alloc (.cells #[.int .u8 1] 5)).cell? ⟨vb, 2, none⟩ = some (.string S) := (blk_cells3 (HB.out.lend (.cells #[.int .u8 1] 5)).snd.snd.held).2.2.1
    go_region_law (first
      | (go_simp; go_at_call 38; refine (put_text w0 _ _ _ _ S (xs ++ [1]) _ hown.out HS64.out (by have := HL.out; simp; omega)).mono ?_; rintro e w6 ⟨v6, rfl, h6⟩; have H6 := Lib.hid h6; clear h6)
      | (refine own_step HR1.out [1] 1 w1.heap.size (by simp) (by simp) (by have := HL.out; omega) rfl (.tmp 37) (.tmp 38) rfl #[.int .u8 1] rfl HRB.out ?_ ?_ ?_; (go_must (first | rfl | simp [Act.eval])); (go_must (first | rfl | simp [Act.eval])); (go_must (intro g cap2 n2 w5 hn2 hown; have n5 := (blk_cells3 hown.out.snd.snd.held).2.2.1))))
    all_goals
      clear hown n5
      go_wp2
      go_ret
      exact ⟨_, rfl, by rw [HE.out, ← List.append_assoc]; exact H6.out.drop2.drop2⟩
  · have HE := Lib.hid (kb_text (v := vl 5 (x : Int) S) (.inr rfl))
    have HS64 : Hid (S.size ≤ 4096) := Lib.hid (by have := HSZ.out (.inr rfl); omega)
    have he : (vl 5 (x : Int) S).S = S.toList := rfl
    rw [he] at HE
    generalize kb0 (vl 5 (x : Int) S) = E at *
    clear hx he
    go_enter Tryd.func26, Tryd.ntmps26
    go_upto_region 10 with fail
    generalize w.alloc (.cells #[.int .i64 5, .int .u64 (x : Int), .string S] 35) = w1 at *
    generalize w.heap.size = vb at *
    have HR1 : Hid (Own w0 (w1.alloc (.cells #[.int .u8 1] 5)).drew (Sep (OutB (.slice ao n cap) xs) (Sep (Blk w1.heap.size (.cells #[.int .u8 1] 5)) (Sep (Blk vb (.cells #[.int .i64 5, .int .u64 (x : Int), .string S] 35)) J)))) := Lib.hid (HB.out.lend (.cells #[.int .u8 1] 5)).drew
    have n1 : w1.cell? ⟨vb, 2, none⟩ = some (.string S) := (blk_cells3 HB.out.swap.held).2.2.1
    have HRB := Lib.hid HR1.out.swap.held
    have n2 : (w1.alloc (.cells #[.int .u8 1] 5)).cell? ⟨vb, 2, none⟩ = some (.string S) := (blk_cells3 (HB.out.lend (.cells #[.int .u8 1] 5)).snd.snd.held).2.2.1
    go_region_law (first
      | (go_simp; go_at_call 38; refine (put_text w0 _ _ _ _ S (xs ++ [1]) _ hown.out HS64.out (by have := HL.out; simp; omega)).mono ?_; rintro e w6 ⟨v6, rfl, h6⟩; have H6 := Lib.hid h6; clear h6)
      | (refine own_step HR1.out [1] 1 w1.heap.size (by simp) (by simp) (by have := HL.out; omega) rfl (.tmp 37) (.tmp 38) rfl #[.int .u8 1] rfl HRB.out ?_ ?_ ?_; (go_must (first | rfl | simp [Act.eval])); (go_must (first | rfl | simp [Act.eval])); (go_must (intro g cap2 n2 w5 hn2 hown; have n5 := (blk_cells3 hown.out.snd.snd.held).2.2.1))))
    all_goals
      clear hown n5
      go_wp2
      go_ret
      exact ⟨_, rfl, by rw [HE.out, ← List.append_assoc]; exact H6.out.drop2.drop2⟩

end Go.Proofs.YtpedcpehomkikaaDoor
