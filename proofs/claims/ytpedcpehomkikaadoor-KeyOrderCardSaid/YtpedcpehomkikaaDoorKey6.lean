/-
  Package key's bytes of a value: putNumber, putText, put, turn.
-/
import Derived.Test.YtpedcpehomkikaaDoorKey5
namespace Go.Proofs.YtpedcpehomkikaaDoor
open Go Go.RowKit
set_option linter.unusedVariables false
set_option linter.unusedSimpArgs false
set_option maxRecDepth 100000

/-- Bytes in a row of one's own. -/
def OutB (v : Value) (xs : List UInt8) : Res := RowV 5 1 v xs.length (u8s xs)
instance {v : Value} {xs : List UInt8} : Stab (OutB v xs) := inferInstanceAs (Stab (RowV _ _ _ _ _))
theorem OutB.shape {w0 w : World} {v : Value} {xs : List UInt8} {J : Res} (h : Own w0 w (Sep (OutB v xs) J)) : ∃ ao cap, v = .slice ao xs.length cap := own_shape h.owns
/-- What an append of new bytes leaves. -/
theorem own_append {ops : Array Oper} {rest : List Oper} {o : Oper} {a : Act} {Q : Exit → Act → World → Prop} {w0 wx : World} {v : Value} {xs : List UInt8} {J : Res} [Stab J] (h : Own w0 wx (Sep (OutB v xs) J)) (ys : List UInt8) (c : Nat)
    (hy : 1 ≤ ys.length) (hyl : ys.length ≤ 1000) (hlen : xs.length ≤ 1000000) (hgd : o.guard = none) (s x : Operand) (ho : o.op = .call { callee := .builtin .append, args := #[s, x], argTypes := #[50, 50] })
    (hs : a.eval s = v) (cs : Array Value) (hcs : cs = (u8s ys).toArray) (hx : a.eval x = .slice (some ⟨wx.heap.size, 0, none⟩) ys.length c)
    (k : ∀ g cap n w', Hid (n = (xs ++ ys).length) → Hid (Own w0 w' (Sep (OutB (.slice (some ⟨g, 0, none⟩) n cap) (xs ++ ys)) J)) → wpList Tryd.prog ops Q rest (a.put o.dst (.slice (some ⟨g, 0, none⟩) n cap)) w') :
    wpList Tryd.prog ops Q (o :: rest) a (wx.alloc (.cells cs 5)) := by
  subst hcs
  obtain ⟨i0, hi, hz0, hz1, hz2⟩ := info_parts Tryd.infoU8
  have HA := (h.alloc (.cells (u8s ys).toArray 5)).snd
  refine wpList_append_lies (P := Tryd.prog) (wx.alloc (.cells (u8s ys).toArray 5)) hgd s x 50 ho 0 5 i0 (.int .u8 0) 1 1 Tryd.underlying50 hi hz0 hz1 hz2 rfl (by decide) v xs.length (u8s xs) hs
    HA.owns ⟨wx.heap.size, 0, none⟩ ys.length c (u8s ys) hx (by rw [u8s_length, Nat.mul_one]) (World.news_of_block (B := wx.heap.size) (heap_alloc_new wx _)) (u8s_oneCell _) hy (by unfold maxLen; omega) (by omega) (Nat.zero_le _) (wx.heap.size + 1) (by simp) ?_
  intro g cap w1 hown hgrow hat hlt
  have h5 := HA.appended hown hgrow (hat.imp id (fun e => by simp; omega))
  rw [← u8s_append] at h5
  refine k g cap (xs.length + ys.length) w1 (Lib.hid (by simp)) (Lib.hid ?_)
  unfold OutB
  rw [List.length_append]
  exact h5
theorem byte_of (q : Nat) : ((q : Nat) : Int) % 256 = ((UInt8.ofNat q).toNat : Int) := by
  rw [UInt8.toNat_ofNat']
  omega
theorem shr_at (x m : Nat) (hm : m ≤ 7) (z : Int) (hz : z = ((8 * m : Nat) : Int)) : Op.shift .shr .u64 (x : Int) .i64 z = pure (.int .u64 ((x / 256 ^ m : Nat) : Int)) := by
  rw [hz, ← shift_at x m hm, IntWalk.i64_in _ (by omega)]
  rfl

set_option maxHeartbeats 2000000 in
theorem put_number (w0 w : World) (ao : Option Addr) (cap n : Nat) (x : Nat) (xs : List UInt8) (J : Res) [Stab J] (h : Own w0 w (Sep (OutB (.slice ao n cap) xs) J)) (hx : x < 18446744073709551616) (hlen : xs.length ≤ 100000) :
    Calls Tryd.prog 37 #[.slice ao n cap, .int .u64 (x : Int)] w fun e w' => ∃ v, e = .returned v ∧ Own w0 w' (Sep (OutB v (xs ++ beB 8 x)) J) := by
  have H := Lib.hid h
  have HL := Lib.hid hlen
  clear h hlen
  go_enter Tryd.func37, Tryd.ntmps37
  go_wp2_with fail
  go_loopw [0, 5] (fun v i wr => ∃ (m : Nat) (lo : Option Addr) (n c : Nat) (D : List UInt8), m ≤ 8 ∧ i = .int .i64 (8 * (m : Int) - 8) ∧ v = .slice lo n c ∧ Hid (D ++ beB m x = beB 8 x) ∧ Hid (Own w0 wr (Sep (OutB (.slice lo n c) (xs ++ D)) J))) (fun _ i _ => ((intOf i + 8) / 8).toNat)
  case atStart => exact ⟨8, ao, n, cap, [], by omega, rfl, rfl, Lib.hid rfl, Lib.hid (by rw [List.append_nil]; exact H.out)⟩
  case round =>
    clear H
    obtain ⟨m, lo, n, c, D, hm, rfl, rfl, HD, HO⟩ := hrel
    match m, hm, HD, HO with
    | 0, hm, HD, HO =>
      go_wp2
      go_ret
      exact ⟨_, rfl, by have := HD.out; rw [← this, beB, List.append_nil]; exact HO.out⟩
    | m + 1, hm, HD, HO =>
      have hi0 : (0 : Int) ≤ 8 * ((m + 1 : Nat) : Int) - 8 := by omega
      obtain ⟨q, hq⟩ : ∃ q, x / 256 ^ m = q := ⟨_, rfl⟩
      have hsh := shr_at x m (by omega) (8 * ((m + 1 : Nat) : Int) - 8) (by omega)
      rw [hq] at hsh
      have HBY := Lib.hid (byte_of q)
      have HQ := Lib.hid hq
      have HLD : Hid (D.length ≤ 8) := Lib.hid (by have := congrArg List.length HD.out; simp only [List.length_append, beB_length] at this; omega)
      obtain ⟨z, hz⟩ : ∃ z : Int, 8 * ((m + 1 : Nat) : Int) - 8 = z := ⟨_, rfl⟩
      rw [hz] at hi0 hsh ⊢
      have HZ := Lib.hid hz
      have HW : Hid (wrap64 (z - 8) = z - 8) := Lib.hid (by unfold wrap64; omega)
      clear hq hz
      go_wp2_with (at_builtin; refine own_append HO.out [UInt8.ofNat q] 1 (by simp) (by simp) (by have := HL.out; have := HLD.out; simp; omega) rfl _ _ rfl rfl _ (by rw [HBY.out]; rfl) rfl ?_)
      intro g cap2 n2 w5 hn2 hown
      clear HO hsh
      go_wp2_with fail
      go_roundw
      case rel => exact ⟨m, some ⟨g, 0, none⟩, n2, cap2, D ++ [UInt8.ofNat q], by omega, (by rw [HW.out]; exact congrArg (Value.int .i64) (by have := HZ.out; omega)), rfl, Lib.hid (by rw [← HD.out, beB, HQ.out]; simp), hown⟩
      case measure => have := HZ.out; simp only [intOf, Array.getD_eq_getD_getElem?, List.getElem?_toArray, List.getElem?_cons_succ, List.getElem?_cons_zero, Option.getD_some]; rw [HW.out]; omega

theorem snoc_esc (s : ByteArray) (k : Nat) (h : k < s.size) (c : UInt8) (hc : s[k] = c) : escK (s.toList.take (k + 1)) = escK (s.toList.take k) ++ (if c = 0 then [0, 255] else [c]) := by
  rw [take_step s k h, escK_snoc, hc]

set_option maxHeartbeats 2000000 in
theorem put_text (w0 w : World) (ao : Option Addr) (cap n : Nat) (s : ByteArray) (xs : List UInt8) (J : Res) [Stab J] (h : Own w0 w (Sep (OutB (.slice ao n cap) xs) J)) (hs : s.size ≤ 4096) (hlen : xs.length ≤ 100000) :
    Calls Tryd.prog 38 #[.slice ao n cap, .string s] w fun e w' => ∃ v, e = .returned v ∧ Own w0 w' (Sep (OutB v (xs ++ (escK s.toList ++ [0, 0]))) J) := by
  have H := Lib.hid h
  have HL := Lib.hid hlen
  clear h hlen
  go_enter Tryd.func38, Tryd.ntmps38
  go_wp2_with fail
  go_loopw [0, 5, 8] (fun v _ i wr => ∃ (k : Nat) (lo : Option Addr) (n c : Nat), k ≤ s.size ∧ i = .int .i64 (k : Int) ∧ v = .slice lo n c ∧ Hid (Own w0 wr (Sep (OutB (.slice lo n c) (xs ++ escK (s.toList.take k))) J))) (fun _ _ i _ => s.size - (intOf i).toNat)
  case atStart => exact ⟨0, ao, n, cap, Nat.zero_le _, rfl, rfl, Lib.hid (by rw [List.take_zero, escK, List.append_nil]; exact H.out)⟩
  case round =>
    clear H
    obtain ⟨k, lo, n, c, hk, rfl, rfl, HO⟩ := hrel
    have HEL : Hid ((escK (s.toList.take k)).length ≤ 10000) := Lib.hid (by
      have h1 := escK_length (s.toList.take k)
      have h2 := List.length_take_le k s.toList
      omega)
    by_cases hlt : k < s.size
    · obtain ⟨b, hb⟩ : ∃ b, s[k] = b := ⟨_, rfl⟩
      have HSN := Lib.hid (snoc_esc s k hlt b hb)
      generalize escK (s.toList.take k) = E at *
      go_wp2_with (at_builtin; refine own_append HO.out [b] 1 (by simp) (by simp) (by have := HL.out; have := HEL.out; simp; omega) rfl _ _ rfl rfl _ (by rw [← hb]; rfl) rfl ?_)
      intro g cap2 n2 w5 hn2 hown
      clear HO
      by_cases hb0 : b = 0
      · have hz : (b.toNat : Int) = 0 := by rw [hb0]; rfl
        have HB0 := Lib.hid hb0
        clear hb0
        go_wp2_with (at_builtin; refine own_append hown.out [255] 1 (by simp) (by simp) (by have := HL.out; have := HEL.out; simp; omega) rfl _ _ rfl rfl _ rfl rfl ?_)
        intro g3 cap3 n3 w6 hn3 hown3
        go_wp2_with fail
        go_roundw
        case rel => exact ⟨k + 1, some ⟨g3, 0, none⟩, n3, cap3, by omega, by go_num, rfl, Lib.hid (by rw [HSN.out, HB0.out, if_pos rfl]; have := hown3.out; rw [HB0.out] at this; simpa [List.append_assoc] using this)⟩
        case measure => simp [intOf]; omega
      · have hz := nxt_int hb0
        have HB0 := Lib.hid hb0
        clear hb0
        go_wp2_with fail
        go_roundw
        case rel => exact ⟨k + 1, some ⟨g, 0, none⟩, n2, cap2, by omega, by go_num, rfl, Lib.hid (by rw [HSN.out, if_neg HB0.out]; have := hown.out; simpa [List.append_assoc] using this)⟩
        case measure => simp [intOf]; omega
    · obtain rfl : k = s.size := by omega
      go_wp2_with (at_builtin; refine own_append HO.out [0, 0] 2 (by simp) (by simp) (by have := HL.out; have := HEL.out; simp; omega) rfl _ _ rfl rfl _ rfl rfl ?_)
      intro g3 cap3 n3 w6 hn3 hown3
      go_wp2_with fail
      go_ret
      refine ⟨_, rfl, ?_⟩
      have := hown3.out
      rw [List.take_of_length_le (by rw [ba_size]; exact Nat.le_refl _)] at this
      simpa [List.append_assoc] using this

/-- A byte of such a row is written over. -/
theorem out_put {w0 w : World} {v : Value} {ys : List UInt8} {J : Res} [Stab J] (h : Own w0 w (Sep (OutB v ys) J)) {k : Nat} (hk : k < ys.length) (c : UInt8) :
    ∃ g cap, v = .slice (some ⟨g, 0, none⟩) ys.length cap ∧ ys.length ≤ cap ∧ w.cell? ⟨g, k, none⟩ = some (.int .u8 (ys.getD k 0).toNat) ∧ w.frozen? ⟨g, k, none⟩ = false ∧ Own w0 (w.setCell ⟨g, k, none⟩ (.int .u8 c.toNat)) (Sep (OutB v (ys.set k c)) J) := by
  obtain ⟨F, ⟨A, B, hA, hB, hd, hF⟩, h2, h3⟩ := h
  have hA' := hA
  rcases hA.1.2 with ⟨rfl, h0⟩ | ⟨g, cap, cur, rfl, _, hg, hc, hm, hs, ht⟩
  · omega
  · have hAg : A g := (hA.2 g).2 rfl
    have hcell : w.cell? ⟨g, k, none⟩ = some (.int .u8 (ys.getD k 0).toNat) := by
      have := hA.1.cellAt k (by simpa [u8s] using hk)
      rw [this]
      exact u8s_at hk
    have hj : ∀ i, i ≠ g → (w.setCell ⟨g, k, none⟩ (.int .u8 c.toNat)).heap[i]? = w.heap[i]? := fun i hi => Below.heap_setCell _ _ _ _ hi
    refine ⟨g, cap, rfl, by omega, hcell, by simp [World.frozen?, hg], F, ⟨A, B, ⟨⟨by simp [u8s], .inr ⟨g, cap, cur.setIfInBounds k (.int .u8 c.toNat), by simp, Nat.zero_le _, heap_set hg k _, by simpa using hc, hm, by simpa using hs, ?_⟩⟩, hA.2⟩,
      Stab.keep hB (fun i hi => hj i (fun e => hd g hAg (e ▸ hi))), hd, hF⟩, h2, h3.trans (Only.cell w g k _) (fun i hi e => by have := h2 g ((hF g).2 (.inl hAg)); omega)⟩
    simp only [Nat.mul_one] at ht ⊢
    simp only [List.length_set, Array.toList_setIfInBounds]
    rw [List.take_set, ht]
    simp [u8s, List.map_set]
theorem turn_step (xs ys : List UInt8) (k : Nat) (hk : k < ys.length) : ((xs ++ ((ys.take k).map not8 ++ ys.drop k)).set (xs.length + k) (not8 (ys.getD k 0))) = xs ++ ((ys.take (k + 1)).map not8 ++ ys.drop (k + 1)) := by
  rw [List.set_append_right _ _ (by omega), Nat.add_sub_cancel_left, List.set_append_right _ _ (by simp; omega), List.drop_eq_getElem_cons hk]
  rw [show k - ((ys.take k).map not8).length = 0 by simp; omega, List.set_cons_zero, List.take_succ_eq_append_getElem hk, show ys.getD k 0 = ys[k] by simp [hk]]
  simp only [List.map_append, List.map_cons, List.map_nil, List.append_assoc, List.cons_append, List.nil_append]

set_option maxHeartbeats 2000000 in
theorem turn_any (w0 w : World) (g n cap m c : Nat) (xs ys : List UInt8) (J : Res) [Stab J] (h : Own w0 w (Sep (OutB (.slice (some ⟨g, 0, none⟩) n cap) (xs ++ ys)) J)) (hm : m = ys.length) (hlen : xs.length + ys.length ≤ 100000) :
    Calls Tryd.prog 27 #[.slice (some ⟨g, xs.length, none⟩) m c] w fun e w' => e = .returned (.tuple #[]) ∧ Own w0 w' (Sep (OutB (.slice (some ⟨g, 0, none⟩) n cap) (xs ++ ys.map not8)) J) := by
  have H := Lib.hid h
  have HM := Lib.hid hm
  have HL := Lib.hid hlen
  clear h hm hlen
  go_enter Tryd.func27, Tryd.ntmps27
  go_wp2_with fail
  go_loopw [2, 5] (fun _ i wr => ∃ (k : Nat), k ≤ m ∧ i = .int .i64 (k : Int) ∧ Hid (Own w0 wr (Sep (OutB (.slice (some ⟨g, 0, none⟩) n cap) (xs ++ ((ys.take k).map not8 ++ ys.drop k))) J))) (fun _ i _ => m - (intOf i).toNat)
  case atStart => exact ⟨0, Nat.zero_le _, rfl, Lib.hid (by simpa using H.out)⟩
  case round =>
    clear H
    obtain ⟨k, hk, rfl, HO⟩ := hrel
    by_cases hlt : k < m
    · have hky : k < ys.length := by rw [← HM.out]; exact hlt
      obtain ⟨g2, cap2, hv, hcap, hcell, hf, hown⟩ := out_put HO.out (k := xs.length + k) (by simp; omega) (not8 (ys.getD k 0))
      rw [turn_step xs ys k hky] at hown
      have he : (xs ++ ((ys.take k).map not8 ++ ys.drop k)).getD (xs.length + k) 0 = ys.getD k 0 := by
        rw [List.getD_eq_getElem?_getD, List.getElem?_append_right (by omega), Nat.add_sub_cancel_left, List.getElem?_append_right (by simp; omega)]
        simp
        rw [show k - min k ys.length = 0 by omega]
        rfl
      rw [he] at hcell
      simp only [Value.slice.injEq, Option.some.injEq, Addr.mk.injEq] at hv
      obtain ⟨⟨rfl, _, _⟩, _, rfl⟩ := hv
      obtain ⟨b, hb⟩ : ∃ b, ys.getD k 0 = b := ⟨_, rfl⟩
      rw [hb] at hcell hown
      have hx : bits .xor .u8 (if IntKind.u8.signed = true then -1 else IntKind.u8.max) (b.toNat : Int) = ((not8 b).toNat : Int) := xor_not b
      have hm5 : m ≤ 100000 := by have := HM.out; have := HL.out; omega
      have HOW := Lib.hid hown
      have hltI : (k : Int) < (m : Int) := by omega
      have hk0 : (0 : Int) ≤ (k : Int) := by omega
      clear hown he hb hcap HO hky
      go_wp2_with fail
      go_roundw
      case rel => exact ⟨k + 1, by omega, by go_num, HOW⟩
      case measure => simp [intOf]; omega
    · obtain rfl : k = m := by omega
      go_wp2_with fail
      go_end0
      refine ⟨rfl, ?_⟩
      have := HO.out
      rw [List.take_of_length_le (by rw [HM.out]; exact Nat.le_refl _), List.drop_of_length_le (by rw [HM.out]; exact Nat.le_refl _), List.append_nil] at this
      exact this

end Go.Proofs.YtpedcpehomkikaaDoor
