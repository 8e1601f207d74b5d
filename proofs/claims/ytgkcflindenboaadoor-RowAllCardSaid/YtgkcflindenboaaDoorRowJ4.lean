/-
  Joined: Key6 Key7 Key8 Row1 RowU Row2 InR RowIn Row3 KeyRaw Shp.
-/
import Derived.Test.YtgkcflindenboaaDoorRowJ3
import Derived.Deep.RegionLaw
import Derived.Deep.RegionHeld3
import Derived.Deep.RegionWith
import Derived.BigQuiet
import Derived.Deep.QuietTactic
import Derived.StillTailTactics
import Derived.ArgAppend

namespace Go.Proofs.YtgkcflindenboaaDoor
open Go Go.RowKit
set_option linter.unusedVariables false
set_option linter.unusedSimpArgs false
set_option maxRecDepth 100000
set_option linter.unusedSimpArgs false
set_option maxRecDepth 100000

/-- Bytes in a row of one's own. -/
def OutB (v : Value) (xs : List UInt8) : Res := RowV 5 1 v xs.length (u8s xs)
instance {v : Value} {xs : List UInt8} : Stab (OutB v xs) := inferInstanceAs (Stab (RowV _ _ _ _ _))
theorem OutB.shape {w0 w : World} {v : Value} {xs : List UInt8} {J : Res} (h : Own w0 w (Sep (OutB v xs) J)) : ∃ ao cap, v = .slice ao xs.length cap := own_shape h.owns
/-- What an append of new bytes leaves. -/
theorem own_append {ops : Array Oper} {rest : List Oper} {o : Oper} {a : Act} {Q : Exit → Act → World → Prop} {w0 wx : World} {v : Value} {xs : List UInt8} {J : Res} [Stab J] (h : Own w0 wx (Sep (OutB v xs) J)) (ys : List UInt8) (c : Nat)
    (hy : 1 ≤ ys.length) (hyl : ys.length ≤ 1000) (hlen : xs.length ≤ 1000000) (hgd : o.guard = none) (s x : Operand) (ho : o.op = .call { callee := .builtin .append, args := #[s, x], argTypes := #[49, 49] })
    (hs : a.eval s = v) (cs : Array Value) (hcs : cs = (u8s ys).toArray) (hx : a.eval x = .slice (some ⟨wx.heap.size, 0, none⟩) ys.length c)
    (k : ∀ g cap n w', Hid (n = (xs ++ ys).length) → Hid (Own w0 w' (Sep (OutB (.slice (some ⟨g, 0, none⟩) n cap) (xs ++ ys)) J)) → wpList Tryd.prog ops Q rest (a.put o.dst (.slice (some ⟨g, 0, none⟩) n cap)) w') :
    wpList Tryd.prog ops Q (o :: rest) a (wx.alloc (.cells cs 5)) := by
  subst hcs
  obtain ⟨i0, hi, hz0, hz1, hz2⟩ := info_parts Tryd.infoU8
  have HA := (h.alloc (.cells (u8s ys).toArray 5)).snd
  refine wpList_append_lies (P := Tryd.prog) (wx.alloc (.cells (u8s ys).toArray 5)) hgd s x 49 ho 0 5 i0 (.int .u8 0) 1 1 Tryd.underlying49 hi hz0 hz1 hz2 rfl (by decide) v xs.length (u8s xs) hs
    HA.owns ⟨wx.heap.size, 0, none⟩ ys.length c (u8s ys) hx (by rw [u8s_length, Nat.mul_one]) (World.news_of_block (B := wx.heap.size) (heap_alloc_new wx _)) (u8s_oneCell _) hy (by unfold maxLen; omega) (by omega) (Nat.zero_le _) (wx.heap.size + 1) (by simp) ?_
  intro g cap w1 hown hgrow hat hlt
  have h5 := HA.appended hown hgrow (hat.imp id (fun e => by simp; omega))
  rw [← u8s_append] at h5
  refine k g cap (xs.length + ys.length) w1 (Lib.hid (by simp)) (Lib.hid ?_)
  unfold OutB
  rw [List.length_append]
  exact h5
theorem byte_of (q : Nat) : ((q : Nat) : Int) % 256 = ((UInt8.ofNat q).toNat : Int) := by
  rw [UInt8.toNat_ofNat']
  omega
theorem shr_at (x m : Nat) (hm : m ≤ 7) (z : Int) (hz : z = ((8 * m : Nat) : Int)) : Op.shift .shr .u64 (x : Int) .i64 z = pure (.int .u64 ((x / 256 ^ m : Nat) : Int)) := by
  rw [hz, ← shift_at x m hm, IntWalk.i64_in _ (by omega)]
  rfl

set_option maxHeartbeats 2000000 in
theorem put_number (w0 w : World) (ao : Option Addr) (cap n : Nat) (x : Nat) (xs : List UInt8) (J : Res) [Stab J] (h : Own w0 w (Sep (OutB (.slice ao n cap) xs) J)) (hx : x < 18446744073709551616) (hlen : xs.length ≤ 100000) :
    Calls Tryd.prog 43 #[.slice ao n cap, .int .u64 (x : Int)] w fun e w' => ∃ v, e = .returned v ∧ Own w0 w' (Sep (OutB v (xs ++ beB 8 x)) J) := by
  have H := Lib.hid h
  have HL := Lib.hid hlen
  clear h hlen
  go_enter Tryd.func43, Tryd.ntmps43
  go_wp2_with fail
  go_loopw [0, 5] (fun v i wr => ∃ (m : Nat) (lo : Option Addr) (n c : Nat) (D : List UInt8), m ≤ 8 ∧ i = .int .i64 (8 * (m : Int) - 8) ∧ v = .slice lo n c ∧ Hid (D ++ beB m x = beB 8 x) ∧ Hid (Own w0 wr (Sep (OutB (.slice lo n c) (xs ++ D)) J))) (fun _ i _ => ((intOf i + 8) / 8).toNat)
  case atStart => exact ⟨8, ao, n, cap, [], by omega, rfl, rfl, Lib.hid rfl, Lib.hid (by rw [List.append_nil]; exact H.out)⟩
  case round =>
    clear H
    obtain ⟨m, lo, n, c, D, hm, rfl, rfl, HD, HO⟩ := hrel
    match m, hm, HD, HO with
    | 0, hm, HD, HO =>
      go_wp2
      go_ret
      exact ⟨_, rfl, by have := HD.out; rw [← this, beB, List.append_nil]; exact HO.out⟩
    | m + 1, hm, HD, HO =>
      have hi0 : (0 : Int) ≤ 8 * ((m + 1 : Nat) : Int) - 8 := by omega
      obtain ⟨q, hq⟩ : ∃ q, x / 256 ^ m = q := ⟨_, rfl⟩
      have hsh := shr_at x m (by omega) (8 * ((m + 1 : Nat) : Int) - 8) (by omega)
      rw [hq] at hsh
      have HBY := Lib.hid (byte_of q)
      have HQ := Lib.hid hq
      have HLD : Hid (D.length ≤ 8) := Lib.hid (by have := congrArg List.length HD.out; simp only [List.length_append, beB_length] at this; omega)
      obtain ⟨z, hz⟩ : ∃ z : Int, 8 * ((m + 1 : Nat) : Int) - 8 = z := ⟨_, rfl⟩
      rw [hz] at hi0 hsh ⊢
      have HZ := Lib.hid hz
      have HW : Hid (wrap64 (z - 8) = z - 8) := Lib.hid (by unfold wrap64; omega)
      clear hq hz
      go_wp2_with (at_builtin; refine own_append HO.out [UInt8.ofNat q] 1 (by simp) (by simp) (by have := HL.out; have := HLD.out; simp; omega) rfl _ _ rfl rfl _ (by rw [HBY.out]; rfl) rfl ?_)
      intro g cap2 n2 w5 hn2 hown
      clear HO hsh
      go_wp2_with fail
      go_roundw
      case rel => exact ⟨m, some ⟨g, 0, none⟩, n2, cap2, D ++ [UInt8.ofNat q], by omega, (by rw [HW.out]; exact congrArg (Value.int .i64) (by have := HZ.out; omega)), rfl, Lib.hid (by rw [← HD.out, beB, HQ.out]; simp), hown⟩
      case measure => have := HZ.out; simp only [intOf, Array.getD_eq_getD_getElem?, List.getElem?_toArray, List.getElem?_cons_succ, List.getElem?_cons_zero, Option.getD_some]; rw [HW.out]; omega

theorem snoc_esc (s : ByteArray) (k : Nat) (h : k < s.size) (c : UInt8) (hc : s[k] = c) : escK (s.toList.take (k + 1)) = escK (s.toList.take k) ++ (if c = 0 then [0, 255] else [c]) := by
  rw [take_step s k h, escK_snoc, hc]

set_option maxHeartbeats 2000000 in
theorem put_text (w0 w : World) (ao : Option Addr) (cap n : Nat) (s : ByteArray) (xs : List UInt8) (J : Res) [Stab J] (h : Own w0 w (Sep (OutB (.slice ao n cap) xs) J)) (hs : s.size ≤ 4096) (hlen : xs.length ≤ 100000) :
    Calls Tryd.prog 44 #[.slice ao n cap, .string s] w fun e w' => ∃ v, e = .returned v ∧ Own w0 w' (Sep (OutB v (xs ++ (escK s.toList ++ [0, 0]))) J) := by
  have H := Lib.hid h
  have HL := Lib.hid hlen
  clear h hlen
  go_enter Tryd.func44, Tryd.ntmps44
  go_wp2_with fail
  go_loopw [0, 5, 8] (fun v _ i wr => ∃ (k : Nat) (lo : Option Addr) (n c : Nat), k ≤ s.size ∧ i = .int .i64 (k : Int) ∧ v = .slice lo n c ∧ Hid (Own w0 wr (Sep (OutB (.slice lo n c) (xs ++ escK (s.toList.take k))) J))) (fun _ _ i _ => s.size - (intOf i).toNat)
  case atStart => exact ⟨0, ao, n, cap, Nat.zero_le _, rfl, rfl, Lib.hid (by rw [List.take_zero, escK, List.append_nil]; exact H.out)⟩
  case round =>
    clear H
    obtain ⟨k, lo, n, c, hk, rfl, rfl, HO⟩ := hrel
    have HEL : Hid ((escK (s.toList.take k)).length ≤ 10000) := Lib.hid (by
      have h1 := escK_length (s.toList.take k)
      have h2 := List.length_take_le k s.toList
      omega)
    by_cases hlt : k < s.size
    · obtain ⟨b, hb⟩ : ∃ b, s[k] = b := ⟨_, rfl⟩
      have HSN := Lib.hid (snoc_esc s k hlt b hb)
      generalize escK (s.toList.take k) = E at *
      go_wp2_with (at_builtin; refine own_append HO.out [b] 1 (by simp) (by simp) (by have := HL.out; have := HEL.out; simp; omega) rfl _ _ rfl rfl _ (by rw [← hb]; rfl) rfl ?_)
      intro g cap2 n2 w5 hn2 hown
      clear HO
      by_cases hb0 : b = 0
      · have hz : (b.toNat : Int) = 0 := by rw [hb0]; rfl
        have HB0 := Lib.hid hb0
        clear hb0
        go_wp2_with (at_builtin; refine own_append hown.out [255] 1 (by simp) (by simp) (by have := HL.out; have := HEL.out; simp; omega) rfl _ _ rfl rfl _ rfl rfl ?_)
        intro g3 cap3 n3 w6 hn3 hown3
        go_wp2_with fail
        go_roundw
        case rel => exact ⟨k + 1, some ⟨g3, 0, none⟩, n3, cap3, by omega, by go_num, rfl, Lib.hid (by rw [HSN.out, HB0.out, if_pos rfl]; have := hown3.out; rw [HB0.out] at this; simpa [List.append_assoc] using this)⟩
        case measure => simp [intOf]; omega
      · have hz := nxt_int hb0
        have HB0 := Lib.hid hb0
        clear hb0
        go_wp2_with fail
        go_roundw
        case rel => exact ⟨k + 1, some ⟨g, 0, none⟩, n2, cap2, by omega, by go_num, rfl, Lib.hid (by rw [HSN.out, if_neg HB0.out]; have := hown.out; simpa [List.append_assoc] using this)⟩
        case measure => simp [intOf]; omega
    · obtain rfl : k = s.size := by omega
      go_wp2_with (at_builtin; refine own_append HO.out [0, 0] 2 (by simp) (by simp) (by have := HL.out; have := HEL.out; simp; omega) rfl _ _ rfl rfl _ rfl rfl ?_)
      intro g3 cap3 n3 w6 hn3 hown3
      go_wp2_with fail
      go_ret
      refine ⟨_, rfl, ?_⟩
      have := hown3.out
      rw [List.take_of_length_le (by rw [ba_size]; exact Nat.le_refl _)] at this
      simpa [List.append_assoc] using this

/-- A byte of such a row is written over. -/
theorem out_put {w0 w : World} {v : Value} {ys : List UInt8} {J : Res} [Stab J] (h : Own w0 w (Sep (OutB v ys) J)) {k : Nat} (hk : k < ys.length) (c : UInt8) :
    ∃ g cap, v = .slice (some ⟨g, 0, none⟩) ys.length cap ∧ ys.length ≤ cap ∧ w.cell? ⟨g, k, none⟩ = some (.int .u8 (ys.getD k 0).toNat) ∧ w.frozen? ⟨g, k, none⟩ = false ∧ Own w0 (w.setCell ⟨g, k, none⟩ (.int .u8 c.toNat)) (Sep (OutB v (ys.set k c)) J) := by
  obtain ⟨F, ⟨A, B, hA, hB, hd, hF⟩, h2, h3⟩ := h
  have hA' := hA
  rcases hA.1.2 with ⟨rfl, h0⟩ | ⟨g, cap, cur, rfl, _, hg, hc, hm, hs, ht⟩
  · omega
  · have hAg : A g := (hA.2 g).2 rfl
    have hcell : w.cell? ⟨g, k, none⟩ = some (.int .u8 (ys.getD k 0).toNat) := by
      have := hA.1.cellAt k (by simpa [u8s] using hk)
      rw [this]
      exact u8s_at hk
    have hj : ∀ i, i ≠ g → (w.setCell ⟨g, k, none⟩ (.int .u8 c.toNat)).heap[i]? = w.heap[i]? := fun i hi => Below.heap_setCell _ _ _ _ hi
    refine ⟨g, cap, rfl, by omega, hcell, by simp [World.frozen?, hg], F, ⟨A, B, ⟨⟨by simp [u8s], .inr ⟨g, cap, cur.setIfInBounds k (.int .u8 c.toNat), by simp, Nat.zero_le _, heap_set hg k _, by simpa using hc, hm, by simpa using hs, ?_⟩⟩, hA.2⟩,
      Stab.keep hB (fun i hi => hj i (fun e => hd g hAg (e ▸ hi))), hd, hF⟩, h2, h3.trans (Only.cell w g k _) (fun i hi e => by have := h2 g ((hF g).2 (.inl hAg)); omega)⟩
    simp only [Nat.mul_one] at ht ⊢
    simp only [List.length_set, Array.toList_setIfInBounds]
    rw [List.take_set, ht]
    simp [u8s, List.map_set]
theorem turn_step (xs ys : List UInt8) (k : Nat) (hk : k < ys.length) : ((xs ++ ((ys.take k).map not8 ++ ys.drop k)).set (xs.length + k) (not8 (ys.getD k 0))) = xs ++ ((ys.take (k + 1)).map not8 ++ ys.drop (k + 1)) := by
  rw [List.set_append_right _ _ (by omega), Nat.add_sub_cancel_left, List.set_append_right _ _ (by simp; omega), List.drop_eq_getElem_cons hk]
  rw [show k - ((ys.take k).map not8).length = 0 by simp; omega, List.set_cons_zero, List.take_succ_eq_append_getElem hk, show ys.getD k 0 = ys[k] by simp [hk]]
  simp only [List.map_append, List.map_cons, List.map_nil, List.append_assoc, List.cons_append, List.nil_append]

set_option maxHeartbeats 2000000 in
theorem turn_any (w0 w : World) (g n cap m c : Nat) (xs ys : List UInt8) (J : Res) [Stab J] (h : Own w0 w (Sep (OutB (.slice (some ⟨g, 0, none⟩) n cap) (xs ++ ys)) J)) (hm : m = ys.length) (hlen : xs.length + ys.length ≤ 100000) :
    Calls Tryd.prog 24 #[.slice (some ⟨g, xs.length, none⟩) m c] w fun e w' => e = .returned (.tuple #[]) ∧ Own w0 w' (Sep (OutB (.slice (some ⟨g, 0, none⟩) n cap) (xs ++ ys.map not8)) J) := by
  have H := Lib.hid h
  have HM := Lib.hid hm
  have HL := Lib.hid hlen
  clear h hm hlen
  go_enter Tryd.func24, Tryd.ntmps24
  go_wp2_with fail
  go_loopw [2, 5] (fun _ i wr => ∃ (k : Nat), k ≤ m ∧ i = .int .i64 (k : Int) ∧ Hid (Own w0 wr (Sep (OutB (.slice (some ⟨g, 0, none⟩) n cap) (xs ++ ((ys.take k).map not8 ++ ys.drop k))) J))) (fun _ i _ => m - (intOf i).toNat)
  case atStart => exact ⟨0, Nat.zero_le _, rfl, Lib.hid (by simpa using H.out)⟩
  case round =>
    clear H
    obtain ⟨k, hk, rfl, HO⟩ := hrel
    by_cases hlt : k < m
    · have hky : k < ys.length := by rw [← HM.out]; exact hlt
      obtain ⟨g2, cap2, hv, hcap, hcell, hf, hown⟩ := out_put HO.out (k := xs.length + k) (by simp; omega) (not8 (ys.getD k 0))
      rw [turn_step xs ys k hky] at hown
      have he : (xs ++ ((ys.take k).map not8 ++ ys.drop k)).getD (xs.length + k) 0 = ys.getD k 0 := by
        rw [List.getD_eq_getElem?_getD, List.getElem?_append_right (by omega), Nat.add_sub_cancel_left, List.getElem?_append_right (by simp; omega)]
        simp
        rw [show k - min k ys.length = 0 by omega]
        rfl
      rw [he] at hcell
      simp only [Value.slice.injEq, Option.some.injEq, Addr.mk.injEq] at hv
      obtain ⟨⟨rfl, _, _⟩, _, rfl⟩ := hv
      obtain ⟨b, hb⟩ : ∃ b, ys.getD k 0 = b := ⟨_, rfl⟩
      rw [hb] at hcell hown
      have hx : bits .xor .u8 (if IntKind.u8.signed = true then -1 else IntKind.u8.max) (b.toNat : Int) = ((not8 b).toNat : Int) := xor_not b
      have hm5 : m ≤ 100000 := by have := HM.out; have := HL.out; omega
      have HOW := Lib.hid hown
      have hltI : (k : Int) < (m : Int) := by omega
      have hk0 : (0 : Int) ≤ (k : Int) := by omega
      clear hown he hb hcap HO hky
      go_wp2_with fail
      go_roundw
      case rel => exact ⟨k + 1, by omega, by go_num, HOW⟩
      case measure => simp [intOf]; omega
    · obtain rfl : k = m := by omega
      go_wp2_with fail
      go_end0
      refine ⟨rfl, ?_⟩
      have := HO.out
      rw [List.take_of_length_le (by rw [HM.out]; exact Nat.le_refl _), List.drop_of_length_le (by rw [HM.out]; exact Nat.le_refl _), List.append_nil] at this
      exact this

end Go.Proofs.YtgkcflindenboaaDoor

namespace Go.Proofs.YtgkcflindenboaaDoor
open Go Go.RowKit
set_option linter.unusedVariables false
set_option linter.unusedSimpArgs false
set_option maxRecDepth 100000
set_option linter.unusedSimpArgs false
set_option maxRecDepth 100000

theorem kb_null {v : Vl} (h : v.K = 0) : kb0 v = [0] := by unfold kb0; rw [if_pos h]
theorem kb_int {v : Vl} (h : v.K = 1) : kb0 v = [1] ++ beB 8 (flipN v.N) := by unfold kb0 kNum; rw [if_neg (by omega), if_pos (.inl h), if_pos h]; rfl
theorem kb_uint {v : Vl} (h : v.K = 2) : kb0 v = [1] ++ beB 8 v.N := by unfold kb0 kNum; rw [if_neg (by omega), if_pos (.inr h), if_neg (by omega)]; rfl
theorem kb_bool {v : Vl} (h : v.K = 3) : kb0 v = [1, UInt8.ofNat v.N] := by unfold kb0; rw [if_neg (by omega), if_neg (by omega), if_pos h]
theorem kb_text {v : Vl} (h : v.K = 4 ∨ v.K = 5) : kb0 v = [1] ++ (escK v.S ++ [0, 0]) := by unfold kb0; rw [if_neg (by omega), if_neg (by omega), if_neg (by omega)]; rfl

/-- The same in a region that draws its order. -/
theorem own_step {ops : Array Oper} {o : Oper} {a : Act} {K : Act → World → Prop} {Q : Exit → Act → World → Prop} {E : Prop} {w0 W : World} {v : Value} {xs : List UInt8} {J : Res} [Stab J] (h : Own w0 W (Sep (OutB v xs) J)) (ys : List UInt8) (c b : Nat)
    (hy : 1 ≤ ys.length) (hyl : ys.length ≤ 1000) (hlen : xs.length ≤ 1000000) (hgd : o.guard = none) (s x : Operand) (ho : o.op = .call { callee := .builtin .append, args := #[s, x], argTypes := #[49, 49] })
    (cs : Array Value) (hcs : cs = (u8s ys).toArray) (hb : W.heap[b]? = some (.cells cs 5 (0, 0))) (hs : a.eval s = v) (hx : a.eval x = .slice (some ⟨b, 0, none⟩) ys.length c)
    (k : ∀ g cap n w', Hid (n = (xs ++ ys).length) → Hid (Own w0 w' (Sep (OutB (.slice (some ⟨g, 0, none⟩) n cap) (xs ++ ys)) J)) → K (a.put o.dst (.slice (some ⟨g, 0, none⟩) n cap)) w') :
    if Region.wanted o (yielded ops a.tmps) = true then Oper.wp Tryd.prog o a W K Q else E := by
  subst hcs
  obtain ⟨i0, hi, hz0, hz1, hz2⟩ := info_parts Tryd.infoU8
  refine step_append_lies (P := Tryd.prog) W hgd s x 49 ho 0 5 i0 (.int .u8 0) 1 1 Tryd.underlying49 hi hz0 hz1 hz2 rfl (by decide) v xs.length (u8s xs) hs
    h.owns ⟨b, 0, none⟩ ys.length c (u8s ys) hx (by rw [u8s_length, Nat.mul_one]) (World.news_of_block hb) (u8s_oneCell _) hy (by unfold maxLen; omega) (by omega) (Nat.zero_le _) W.heap.size rfl ?_
  intro g cap w1 hown hgrow hat hlt
  have h5 := h.appended hown hgrow (hat.imp id (fun e => by omega))
  rw [← u8s_append] at h5
  refine k g cap (xs.length + ys.length) w1 (Lib.hid (by simp)) (Lib.hid ?_)
  unfold OutB
  rw [List.length_append]
  exact h5

set_option maxHeartbeats 600000 in
theorem put_any (w0 w : World) (ao : Option Addr) (cap n : Nat) (K N : Int) (S : ByteArray) (xs : List UInt8) (J : Res) [Stab J] (h : Own w0 w (Sep (OutB (.slice ao n cap) xs) J)) (hN : U64 N) (hok : (vl K N S).okB = true) (hlen : xs.length ≤ 50000) :
    Calls Tryd.prog 23 #[.slice ao n cap, vlv K N S] w fun e w' => ∃ v, e = .returned v ∧ Own w0 w' (Sep (OutB v (xs ++ kb0 (vl K N S))) J) := by
  have HL := Lib.hid hlen
  have HA := Lib.hid (h.alloc (.cells #[.int .i64 K, .int .u64 N, .string S] 42)).snd
  have HB := Lib.hid (h.lend (.cells #[.int .i64 K, .int .u64 N, .string S] 42))
  obtain ⟨x, rfl⟩ : ∃ x : Nat, N = (x : Int) := ⟨N.toNat, by have := hN.lo; omega⟩
  have hx : x < 18446744073709551616 := by have := hN.hi; omega
  have hK : K = 0 ∨ K = 1 ∨ K = 2 ∨ K = 3 ∨ K = 4 ∨ K = 5 := by
    rcases ok_kinds hok with ⟨e, _⟩ | ⟨e, _⟩ | ⟨e, _⟩ | ⟨e, _⟩ <;> simp only at e <;> omega
  have HSZ : Hid ((K = 4 ∨ K = 5) → S.size ≤ 64) := Lib.hid (fun e => by
    rcases ok_kinds hok with ⟨f, _⟩ | ⟨f, _⟩ | ⟨f, _⟩ | ⟨_, _, f⟩
    · simp only at f; omega
    · simp only at f; omega
    · simp only at f; omega
    · rw [← ba_size]; exact f)
  clear h hlen hN hok
  rcases hK with rfl | rfl | rfl | rfl | rfl | rfl
  · have HE := Lib.hid (kb_null (v := vl 0 (x : Int) S) rfl)
    generalize kb0 (vl 0 (x : Int) S) = E at *
    go_enter Tryd.func23, Tryd.ntmps23
    go_wp2_with (at_builtin; refine own_append HA.out [0] 1 (by simp) (by simp) (by have := HL.out; omega) rfl _ _ rfl rfl _ rfl (by simp [Act.eval]) ?_)
    intro g cap2 n2 w5 hn2 hown
    go_wp2_with fail
    go_ret
    exact ⟨_, rfl, by rw [HE.out]; exact hown.out⟩
  · have HE := Lib.hid (kb_int (v := vl 1 (x : Int) S) rfl)
    have hf := flip_bits x hx
    have HF := Lib.hid (flipN_lt hx)
    clear hx
    have he : (vl 1 (x : Int) S).N = x := rfl
    rw [he] at HE
    generalize flipN x = m at hf HF HE
    generalize kb0 (vl 1 (x : Int) S) = E at *
    go_enter Tryd.func23, Tryd.ntmps23
    go_upto_region 5 with fail
    generalize w.alloc (.cells #[.int .i64 1, .int .u64 (x : Int), .string S] 42) = w1 at *
    generalize w.heap.size = vb at *
    have HR1 : Hid (Own w0 (w1.alloc (.cells #[.int .u8 1] 5)).drew (Sep (OutB (.slice ao n cap) xs) (Sep (Blk w1.heap.size (.cells #[.int .u8 1] 5)) (Sep (Blk vb (.cells #[.int .i64 1, .int .u64 (x : Int), .string S] 42)) J)))) := Lib.hid (HB.out.lend (.cells #[.int .u8 1] 5)).drew
    have n1 : w1.cell? ⟨vb, 1, none⟩ = some (.int .u64 (x : Int)) := (blk_cells3 HB.out.swap.held).2.1
    have HRB := Lib.hid HR1.out.swap.held
    have n2 : (w1.alloc (.cells #[.int .u8 1] 5)).cell? ⟨vb, 1, none⟩ = some (.int .u64 (x : Int)) := (blk_cells3 (HB.out.lend (.cells #[.int .u8 1] 5)).snd.snd.held).2.1
    go_region_law (first
      | (go_simp; go_at_call 43; refine (put_number w0 _ _ _ _ m (xs ++ [1]) _ hown.out HF.out (by have := HL.out; simp; omega)).mono ?_; rintro e w6 ⟨v6, rfl, h6⟩; have H6 := Lib.hid h6; clear h6)
      | (refine own_step HR1.out [1] 1 w1.heap.size (by simp) (by simp) (by have := HL.out; omega) rfl (.tmp 14) (.tmp 15) rfl #[.int .u8 1] rfl HRB.out ?_ ?_ ?_; (go_must (first | rfl | simp [Act.eval])); (go_must (first | rfl | simp [Act.eval])); (go_must (intro g cap2 n2 w5 hn2 hown; have n5 := (blk_cells3 hown.out.snd.snd.held).2.1))))
    all_goals
      clear hown n5
      go_wp2
      go_ret
      exact ⟨_, rfl, by rw [HE.out, ← List.append_assoc]; exact H6.out.drop2.drop2⟩
  · have HE := Lib.hid (kb_uint (v := vl 2 (x : Int) S) rfl)
    have HX := Lib.hid hx
    have he : (vl 2 (x : Int) S).N = x := rfl
    rw [he] at HE
    generalize kb0 (vl 2 (x : Int) S) = E at *
    clear hx he
    go_enter Tryd.func23, Tryd.ntmps23
    go_upto_region 7 with fail
    generalize w.alloc (.cells #[.int .i64 2, .int .u64 (x : Int), .string S] 42) = w1 at *
    generalize w.heap.size = vb at *
    have HR1 : Hid (Own w0 (w1.alloc (.cells #[.int .u8 1] 5)).drew (Sep (OutB (.slice ao n cap) xs) (Sep (Blk w1.heap.size (.cells #[.int .u8 1] 5)) (Sep (Blk vb (.cells #[.int .i64 2, .int .u64 (x : Int), .string S] 42)) J)))) := Lib.hid (HB.out.lend (.cells #[.int .u8 1] 5)).drew
    have n1 : w1.cell? ⟨vb, 1, none⟩ = some (.int .u64 (x : Int)) := (blk_cells3 HB.out.swap.held).2.1
    have HRB := Lib.hid HR1.out.swap.held
    have n2 : (w1.alloc (.cells #[.int .u8 1] 5)).cell? ⟨vb, 1, none⟩ = some (.int .u64 (x : Int)) := (blk_cells3 (HB.out.lend (.cells #[.int .u8 1] 5)).snd.snd.held).2.1
    go_region_law (first
      | (go_simp; go_at_call 43; refine (put_number w0 _ _ _ _ x (xs ++ [1]) _ hown.out HX.out (by have := HL.out; simp; omega)).mono ?_; rintro e w6 ⟨v6, rfl, h6⟩; have H6 := Lib.hid h6; clear h6)
      | (refine own_step HR1.out [1] 1 w1.heap.size (by simp) (by simp) (by have := HL.out; omega) rfl (.tmp 23) (.tmp 24) rfl #[.int .u8 1] rfl HRB.out ?_ ?_ ?_; (go_must (first | rfl | simp [Act.eval])); (go_must (first | rfl | simp [Act.eval])); (go_must (intro g cap2 n2 w5 hn2 hown; have n5 := (blk_cells3 hown.out.snd.snd.held).2.1))))
    all_goals
      clear hown n5
      go_wp2
      go_ret
      exact ⟨_, rfl, by rw [HE.out, ← List.append_assoc]; exact H6.out.drop2.drop2⟩
  · have HE := Lib.hid (kb_bool (v := vl 3 (x : Int) S) rfl)
    have he : (vl 3 (x : Int) S).N = x := rfl
    rw [he] at HE
    generalize kb0 (vl 3 (x : Int) S) = E at *
    have HBY := Lib.hid (byte_of x)
    go_enter Tryd.func23, Tryd.ntmps23
    go_wp2_with (at_builtin; refine own_append HA.out [1, UInt8.ofNat x] 2 (by simp) (by simp) (by have := HL.out; omega) rfl _ _ rfl rfl _ (by rw [HBY.out]; rfl) (by simp [Act.eval]) ?_)
    intro g cap2 n2 w5 hn2 hown
    go_wp2_with fail
    go_ret
    exact ⟨_, rfl, by rw [HE.out]; exact hown.out⟩
  · have HE := Lib.hid (kb_text (v := vl 4 (x : Int) S) (.inl rfl))
    have HS64 : Hid (S.size ≤ 4096) := Lib.hid (by have := HSZ.out (.inl rfl); omega)
    have he : (vl 4 (x : Int) S).S = S.toList := rfl
    rw [he] at HE
    generalize kb0 (vl 4 (x : Int) S) = E at *
    clear hx he
    go_enter Tryd.func23, Tryd.ntmps23
    go_upto_region 10 with fail
    generalize w.alloc (.cells #[.int .i64 4, .int .u64 (x : Int), .string S] 42) = w1 at *
    generalize w.heap.size = vb at *
    have HR1 : Hid (Own w0 (w1.alloc (.cells #[.int .u8 1] 5)).drew (Sep (OutB (.slice ao n cap) xs) (Sep (Blk w1.heap.size (.cells #[.int .u8 1] 5)) (Sep (Blk vb (.cells #[.int .i64 4, .int .u64 (x : Int), .string S] 42)) J)))) := Lib.hid (HB.out.lend (.cells #[.int .u8 1] 5)).drew
    have n1 : w1.cell? ⟨vb, 2, none⟩ = some (.string S) := (blk_cells3 HB.out.swap.held).2.2.1
    have HRB := Lib.hid HR1.out.swap.held
    have n2 : (w1.alloc (.cells #[.int .u8 1] 5)).cell? ⟨vb, 2, none⟩ = some (.string S) := (blk_cells3 (HB.out.lend (.cells #[.int .u8 1] 5)).snd.snd.held).2.2.1
    go_region_law (first
      | (go_simp; go_at_call 44; refine (put_text w0 _ _ _ _ S (xs ++ [1]) _ hown.out HS64.out (by have := HL.out; simp; omega)).mono ?_; rintro e w6 ⟨v6, rfl, h6⟩; have H6 := Lib.hid h6; clear h6)
      | (refine own_step HR1.out [1] 1 w1.heap.size (by simp) (by simp) (by have := HL.out; omega) rfl (.tmp 37) (.tmp 38) rfl #[.int .u8 1] rfl HRB.out ?_ ?_ ?_; (go_must (first | rfl | simp [Act.eval])); (go_must (first | rfl | simp [Act.eval])); (go_must (intro g cap2 n2 w5 hn2 hown; have n5 := (blk_cells3 hown.out.snd.snd.held).2.2.1))))
    all_goals
      clear hown n5
      go_wp2
      go_ret
      exact ⟨_, rfl, by rw [HE.out, ← List.append_assoc]; exact H6.out.drop2.drop2⟩
  · have HE := Lib.hid (kb_text (v := vl 5 (x : Int) S) (.inr rfl))
    have HS64 : Hid (S.size ≤ 4096) := Lib.hid (by have := HSZ.out (.inr rfl); omega)
    have he : (vl 5 (x : Int) S).S = S.toList := rfl
    rw [he] at HE
    generalize kb0 (vl 5 (x : Int) S) = E at *
    clear hx he
    go_enter Tryd.func23, Tryd.ntmps23
    go_upto_region 10 with fail
    generalize w.alloc (.cells #[.int .i64 5, .int .u64 (x : Int), .string S] 42) = w1 at *
    generalize w.heap.size = vb at *
    have HR1 : Hid (Own w0 (w1.alloc (.cells #[.int .u8 1] 5)).drew (Sep (OutB (.slice ao n cap) xs) (Sep (Blk w1.heap.size (.cells #[.int .u8 1] 5)) (Sep (Blk vb (.cells #[.int .i64 5, .int .u64 (x : Int), .string S] 42)) J)))) := Lib.hid (HB.out.lend (.cells #[.int .u8 1] 5)).drew
    have n1 : w1.cell? ⟨vb, 2, none⟩ = some (.string S) := (blk_cells3 HB.out.swap.held).2.2.1
    have HRB := Lib.hid HR1.out.swap.held
    have n2 : (w1.alloc (.cells #[.int .u8 1] 5)).cell? ⟨vb, 2, none⟩ = some (.string S) := (blk_cells3 (HB.out.lend (.cells #[.int .u8 1] 5)).snd.snd.held).2.2.1
    go_region_law (first
      | (go_simp; go_at_call 44; refine (put_text w0 _ _ _ _ S (xs ++ [1]) _ hown.out HS64.out (by have := HL.out; simp; omega)).mono ?_; rintro e w6 ⟨v6, rfl, h6⟩; have H6 := Lib.hid h6; clear h6)
      | (refine own_step HR1.out [1] 1 w1.heap.size (by simp) (by simp) (by have := HL.out; omega) rfl (.tmp 37) (.tmp 38) rfl #[.int .u8 1] rfl HRB.out ?_ ?_ ?_; (go_must (first | rfl | simp [Act.eval])); (go_must (first | rfl | simp [Act.eval])); (go_must (intro g cap2 n2 w5 hn2 hown; have n5 := (blk_cells3 hown.out.snd.snd.held).2.2.1))))
    all_goals
      clear hown n5
      go_wp2
      go_ret
      exact ⟨_, rfl, by rw [HE.out, ← List.append_assoc]; exact H6.out.drop2.drop2⟩

end Go.Proofs.YtgkcflindenboaaDoor

namespace Go.Proofs.YtgkcflindenboaaDoor
open Go Go.RowKit
set_option linter.unusedVariables false
set_option linter.unusedSimpArgs false
set_option maxRecDepth 100000
set_option linter.unusedSimpArgs false
set_option maxRecDepth 100000

/-- A value in three cells. -/
structure VvAt (w : World) (g o : Nat) (v : Vv) : Prop where
  k : w.cell? ⟨g, o, none⟩ = some (.int .i64 v.K)
  n : w.cell? ⟨g, o + 1, none⟩ = some (.int .u64 v.N)
  s : w.cell? ⟨g, o + 2, none⟩ = some (.string v.S)
  u : U64 v.N
instance : Inhabited Vv := ⟨⟨0, 0, ⟨#[]⟩⟩⟩
/-- A slice of values. -/
def SlV (w : World) (ao : Option Addr) (vs : List Vv) : Prop := ∀ j, j < vs.length → ∃ g off, ao = some ⟨g, off, none⟩ ∧ VvAt w g (off + j * 3) (vs.getD j default)
theorem VvAt.keep {w w' : World} {g o : Nat} {v : Vv} (h : VvAt w g o v) (ho : Only (fun _ => False) w w') : VvAt w' g o v := ⟨ho.cellq h.k, ho.cellq h.n, ho.cellq h.s, h.u⟩
theorem SlV.keep {w w' : World} {ao : Option Addr} {vs : List Vv} (h : SlV w ao vs) (ho : Only (fun _ => False) w w') : SlV w' ao vs := fun j hj => by
  obtain ⟨g, off, h1, h2⟩ := h j hj
  exact ⟨g, off, h1, h2.keep ho⟩
theorem SlV.u64 {w : World} {ao : Option Addr} {vs : List Vv} (h : SlV w ao vs) : ∀ v ∈ vs, U64 v.N := fun v hv => by
  obtain ⟨j, hj, rfl⟩ := List.getElem_of_mem hv
  obtain ⟨g, off, _, h2⟩ := h j hj
  have := h2.u
  simpa [hj] using this
theorem keyL_snoc : ∀ (l : List Vl) (ds : List Bool) (v : Vl) (d : Bool), l.length = ds.length → keyL (l ++ [v]) (ds ++ [d]) = keyL l ds ++ kb v d
  | [], [], v, d, _ => by simp [keyL]
  | a :: l, e :: ds, v, d, h => by
    rw [List.cons_append, List.cons_append, keyL, keyL, keyL_snoc l ds v d (by simpa using h), List.append_assoc]
  | [], _ :: _, _, _, h => by simp at h
  | _ :: _, [], _, _, h => by simp at h
theorem own_slC {w0 w : World} {v : Value} {xs : List UInt8} {J : Res} (h : Own w0 w (Sep (OutB v xs) J)) : SlC w v xs := by
  have ho : w.ownsRow 0 5 1 v xs.length (u8s xs) := h.owns
  rcases ho.2 with ⟨rfl, h0⟩ | ⟨g, cap, cur, rfl, _, hg, hc, hm, hs, ht⟩
  · exact .inl ⟨rfl, List.eq_nil_of_length_eq_zero h0⟩
  · refine .inr ⟨⟨g, 0, none⟩, cap, rfl, fun j hj => ?_⟩
    rw [add_lit, Nat.zero_add, ho.cellAt j (by simpa [u8s] using hj)]
    exact u8s_at hj
theorem kb_of (v : Vl) (d : Bool) : kb v d = if d = true then (kb0 v).map not8 else kb0 v := rfl

def EncPost (l : List Vl) (ds : List Bool) (w : World) (e : Ending) (w' : World) : Prop :=
  ∃ (s : List UInt8) (er : Int), e = .returned (.tuple #[.string ⟨s.toArray⟩, .int .i64 er]) ∧ (s, er) = encE l ds ∧ Only (fun _ => False) w w'
theorem enc_none {l : List Vl} {ds : List Bool} {w w' : World} {er : Int} (h : ([], er) = encE l ds) (ho : Only (fun _ => False) w w') : EncPost l ds w (.returned (.tuple #[.string ⟨#[]⟩, .int .i64 er])) w' :=
  ⟨[], er, rfl, h, ho⟩
/-- Where Encode stands. -/
structure EncIn (l : List Vl) (ds : List Bool) (k : Nat) (xs : List UInt8) : Prop where
  at' : xs = keyL (l.take k) (ds.take k)
  size : xs.length ≤ 256
theorem enc_step {l : List Vl} {ds : List Bool} {k : Nat} {xs : List UInt8} (h : EncIn l ds k xs) (hl : k < l.length) (hd : k < ds.length) (v : Vl) (hv : l[k]? = some v) (d : Bool) (hdd : ds.getD k false = d) : xs ++ kb v d = keyL (l.take (k + 1)) (ds.take (k + 1)) := by
  have e1 : l.take (k + 1) = l.take k ++ [v] := by rw [List.take_add_one, hv]; rfl
  have e2 : ds.take (k + 1) = ds.take k ++ [d] := by
    rw [List.take_succ_eq_append_getElem hd, ← hdd]
    simp [hd]
  rw [e1, e2, keyL_snoc _ _ _ _ (by simp; omega), h.at']
theorem enc_long {l : List Vl} {ds : List Bool} {k : Nat} {xs : List UInt8} (h : xs = keyL (l.take k) (ds.take k)) (h256 : 256 < xs.length) (hl : l.length = ds.length) (hok : l.all Vl.okB = true) : ([], 7) = encE l ds := by
  have hp := (keyL_front k l ds).length_le
  rw [← h] at hp
  unfold encE
  rw [if_neg (by simpa using hl), if_neg (by simp [hok]), if_pos (by omega)]
theorem enc_ends {l : List Vl} {ds : List Bool} {k : Nat} {xs : List UInt8} (h : EncIn l ds k xs) (hk : k = l.length) (hl : l.length = ds.length) (hok : l.all Vl.okB = true) : (xs, 0) = encE l ds := by
  have e : xs = keyL l ds := by
    rw [h.at', List.take_of_length_le (by omega), List.take_of_length_le (by omega)]
  rw [encE_of hl hok (by rw [← e]; exact h.size), e]

theorem OutB.full {w0 w : World} {v : Value} {xs : List UInt8} {J : Res} (h : Own w0 w (Sep (OutB v xs) J)) (hne : 1 ≤ xs.length) : ∃ g cap, v = .slice (some ⟨g, 0, none⟩) xs.length cap ∧ xs.length ≤ cap ∧ cap ≤ 9223372036854775807 := by
  have ho : w.ownsRow 0 5 1 v xs.length (u8s xs) := h.owns
  rcases ho.2 with ⟨rfl, h0⟩ | ⟨g, cap, cur, rfl, _, hg, hc, hm, hs, ht⟩
  · omega
  · exact ⟨g, cap, rfl, by simpa using hc, by unfold maxLen at hm; omega⟩
theorem kb_len (v : Vl) (d : Bool) : (kb v d).length = (kb0 v).length := turnL_length d _

set_option maxHeartbeats 8000000 in
theorem encode_any (lo dao : Option Addr) (n lc m dc : Nat) (vs : List Vv) (ds : List Bool) (w : World) (hT : UTab w) (hv : SlV w lo vs) (hd : SlBo w dao ds) (hn : n = vs.length) (hm : m = ds.length) (hn47 : n ≤ 140737488355328) :
    Calls Tryd.prog 6 #[.slice lo n lc, .slice dao m dc] w fun e w' => EncPost (vs.map Vv.vl) ds w e w' := by
  have HT := Lib.hid hT
  have HV := Lib.hid hv
  have HD := Lib.hid hd
  have HN := Lib.hid hn
  have HM := Lib.hid hm
  clear hT hv hd hn hm
  by_cases hnm : m = n
  · subst hnm
    have HLL : Hid ((vs.map Vv.vl).length = ds.length) := Lib.hid (by rw [List.length_map, ← HN.out, ← HM.out])
    go_enter Tryd.func6, Tryd.ntmps6
    go_wp2_with fail
    go_loopw [7, 19] (fun _ i wr => ∃ (k : Nat), k ≤ m ∧ i = .int .i64 (k : Int) ∧ Hid ((vs.take k).all (fun v => v.vl.okB) = true) ∧ Hid (Only (fun _ => False) w wr)) (fun _ i _ => m - (intOf i).toNat)
    case atStart => exact ⟨0, Nat.zero_le _, rfl, Lib.hid rfl, Lib.hid (Only.refl _ _)⟩
    case round =>
      obtain ⟨k, hk, rfl, HA, HO⟩ := hrel
      by_cases hlt : k < m
      · have HKL : Hid (k < vs.length) := Lib.hid (by rw [← HN.out]; exact hlt)
        obtain ⟨g, off, rfl, hva⟩ := (HV.out.keep HO.out) k HKL.out
        obtain ⟨v, hve⟩ : ∃ v, vs.getD k default = v := ⟨_, rfl⟩
        rw [hve] at hva
        have HVE : Hid (vs[k]? = some v) := Lib.hid (by
          have := HKL.out
          rw [List.getElem?_eq_getElem this, ← hve]
          simp [this])
        obtain ⟨y0, y1, y2, hu⟩ := hva
        have HU := Lib.hid hu
        have H1 := Lib.hid (HO.out.alloc (.cells #[.int .i64 v.K, .int .u64 v.N, .string v.S] 42))
        obtain ⟨B, hB⟩ : ∃ B, v.vl.okB = B := ⟨_, rfl⟩
        have HBV := Lib.hid hB
        have HVL : Hid (Calls Tryd.prog 22 #[vlv v.K v.N v.S] (wr.alloc (.cells #[.int .i64 v.K, .int .u64 v.N, .string v.S] 42)) fun e w' => e = .returned (.bool B) ∧ Below (wr.alloc (.cells #[.int .i64 v.K, .int .u64 v.N, .string v.S] 42)).heap.size (wr.alloc (.cells #[.int .i64 v.K, .int .u64 v.N, .string v.S] 42)) w') := Lib.hid (by
          have h := valid_u (K := v.K) (s := v.S) HU.out _ (HT.out.keep (H1.out.below (Nat.le_refl _) (fun _ h => h.elim)))
          rw [show (vl v.K v.N v.S) = v.vl from rfl, hB] at h
          exact h)
        have hltI : (k : Int) < (m : Int) := by omega
        clear hve hu hB
        go_wp2_with fail
        refine HVL.out.mono ?_
        rintro e w4 ⟨rfl, hb4⟩
        have H4 := Lib.hid (H1.out.trans (below_quiet hb4) (fun _ _ h => h))
        clear hb4 HVL H1 y0 y1 y2
        cases B with
        | false =>
          have HE : Hid (([], 8) = encE (vs.map Vv.vl) ds) := Lib.hid (by
            unfold encE
            rw [if_neg (by simpa using HLL.out), if_pos]
            rw [List.all_eq_false]
            exact ⟨v.vl, List.mem_map.2 ⟨v, List.mem_of_getElem? HVE.out, rfl⟩, by rw [HBV.out]; simp⟩)
          go_wp2_with fail
          go_ret2
          exact enc_none HE.out H4.out
        | true =>
          go_wp2_with fail
          go_roundw
          case rel => exact ⟨k + 1, by omega, by go_num, Lib.hid (by rw [List.take_add_one, HVE.out, List.all_append, HA.out]; simp [HBV.out]), H4⟩
          case measure => simp [intOf]; omega
      · obtain rfl : k = m := by omega
        have HOK : Hid ((vs.map Vv.vl).all Vl.okB = true) := Lib.hid (by
          have := HA.out
          rw [List.take_of_length_le (by rw [HN.out]; exact Nat.le_refl _)] at this
          rw [List.all_map]
          exact this)
        have HQ0 : Hid (Own w wr (Sep (OutB (.slice none 0 0) []) Emp)) := Lib.hid (by
          have h0 : Own w wr Emp := ⟨fun _ => False, fun _ h => h, fun _ h => h.elim, HO.out⟩
          exact h0.row_nil 5 1)
        clear HA HO
        go_wp2_with fail
        go_loopw [8, 9, 10, 11, 29] (fun ov _ _ _ i wr => ∃ (q : Nat) (oo : Option Addr) (on oc : Nat) (xs : List UInt8), q ≤ k ∧ i = .int .i64 (q : Int) ∧ ov = .slice oo on oc ∧ Hid (on = xs.length ∧ EncIn (vs.map Vv.vl) ds q xs) ∧ Hid (Own w wr (Sep (OutB (.slice oo on oc) xs) Emp))) (fun _ _ _ _ i _ => k - (intOf i).toNat)
        case atStart => exact ⟨0, none, 0, 0, [], Nat.zero_le _, rfl, rfl, Lib.hid ⟨rfl, by simp [keyL], by simp⟩, HQ0⟩
        case round =>
          clear HQ0
          obtain ⟨q, oo, on, oc, xs, hq, rfl, rfl, HI, HO⟩ := hrel
          by_cases hlt : q < k
          · have HKL : Hid (q < vs.length ∧ q < ds.length) := Lib.hid (by rw [← HN.out, ← HM.out]; exact ⟨hlt, hlt⟩)
            obtain ⟨g, off, rfl, hva⟩ := (HV.out.keep HO.out.only) q HKL.out.1
            obtain ⟨gd, od, rfl, hcd⟩ := (HD.out.keep (HO.out.only)) q HKL.out.2
            obtain ⟨v, hve⟩ : ∃ v, vs.getD q default = v := ⟨_, rfl⟩
            obtain ⟨dd, hdd⟩ : ∃ dd, ds.getD q false = dd := ⟨_, rfl⟩
            rw [hve] at hva
            rw [hdd] at hcd
            have HVE : Hid ((vs.map Vv.vl)[q]? = some v.vl) := Lib.hid (by
              have := HKL.out.1
              rw [List.getElem?_map, List.getElem?_eq_getElem this, ← hve]
              simp [this])
            obtain ⟨y0, y1, y2, hu⟩ := hva
            have HU := Lib.hid hu
            have HOV : Hid (v.vl.okB = true) := Lib.hid (List.all_eq_true.1 HOK.out _ (List.mem_of_getElem? HVE.out))
            have HST : Hid (xs ++ kb v.vl dd = keyL ((vs.map Vv.vl).take (q + 1)) (ds.take (q + 1))) := Lib.hid (enc_step HI.out.2 (by rw [List.length_map]; exact HKL.out.1) HKL.out.2 v.vl HVE.out dd hdd)
            have HKS : Hid ((kb0 v.vl).length ≤ 131 ∧ 1 ≤ (kb0 v.vl).length ∧ xs.length ≤ 256) := Lib.hid ⟨(kb0_length HOV.out).2, (kb0_length HOV.out).1, HI.out.2.size⟩
            have H1 := Lib.hid (HO.out.lend (.cells #[.int .i64 v.K, .int .u64 v.N, .string v.S] 42))
            have hltI : (q : Int) < (k : Int) := by omega
            have HON : Hid (on = xs.length) := Lib.hid HI.out.1
            have HDE := Lib.hid hdd
            clear hve hdd hu HO
            go_upto_region 14 with fail
            generalize wr.alloc (.cells #[.int .i64 v.K, .int .u64 v.N, .string v.S] 42) = w3 at *
            generalize wr.heap.size = vb at *
            obtain ⟨x0, x1, x2, _, _, _⟩ := blk_cells3 H1.out.swap.held
            clear y0 y1 y2 hcd
            go_wp2_with fail
            refine (put_any w w3 oo oc on v.K v.N v.S xs _ H1.out HU.out HOV.out (by have := HKS.out; omega)).mono ?_
            rintro e w4 ⟨v4, rfl, h4⟩
            rw [show (vl v.K v.N v.S) = v.vl from rfl] at h4
            obtain ⟨g4, c4, hv4, hc4, hm4⟩ := OutB.full h4 (by rw [List.length_append]; have := HKS.out; omega)
            obtain ⟨n4, hn4⟩ : ∃ n4, n4 = (xs ++ kb0 v.vl).length := ⟨_, rfl⟩
            rw [← hn4] at hv4 hc4
            subst hv4
            have HN4 : Hid (n4 = xs.length + (kb0 v.vl).length) := Lib.hid (by rw [hn4, List.length_append])
            have H4 := Lib.hid h4.drop2
            obtain ⟨gd', od', hgd, hcd⟩ := (HD.out.keep h4.only) q HKL.out.2
            simp only [Option.some.injEq, Addr.mk.injEq, and_true] at hgd
            obtain ⟨rfl, rfl⟩ := hgd
            rw [HDE.out] at hcd
            clear h4 hn4 x0 x1 x2
            cases dd with
            | false =>
              by_cases h256 : 256 < n4
              · have hI : (256 : Int) < (n4 : Int) := by omega
                have HE : Hid (([], 7) = encE (vs.map Vv.vl) ds) := Lib.hid (enc_long HST.out (by rw [List.length_append, kb_len, ← HN4.out]; exact h256) HLL.out HOK.out)
                go_wp2_with fail
                go_ret2
                exact enc_none HE.out H4.out.only
              · have hI : ¬ (256 : Int) < (n4 : Int) := by omega
                have HEN : Hid (EncIn (vs.map Vv.vl) ds (q + 1) (xs ++ kb v.vl false)) := Lib.hid ⟨HST.out, by rw [List.length_append, kb_len, ← HN4.out]; omega⟩
                go_wp2_with fail
                go_roundw
                case rel => exact ⟨q + 1, some ⟨g4, 0, none⟩, n4, c4, xs ++ kb v.vl false, by omega, by go_num, rfl, Lib.hid ⟨by rw [List.length_append, kb_len, ← HN4.out], HEN.out⟩, H4⟩
                case measure => simp [intOf]; omega
            | true =>
              have hon4 : on < n4 := by have := HN4.out; have := HON.out; have := HKS.out; omega
              have honc : on < c4 := by omega
              have HTC := Lib.hid (turn_any w w4 g4 n4 c4 (n4 - on) (c4 - on) xs (kb0 v.vl) Emp H4.out (by have := HN4.out; have := HON.out; omega) (by have := HKS.out; omega))
              rw [← HON.out] at HTC
              go_wp2_with fail
              refine HTC.out.mono ?_
              rintro e w5 ⟨rfl, h5⟩
              have H5 := Lib.hid h5
              clear h5 HTC hcd
              by_cases h256 : 256 < n4
              · have hI : (256 : Int) < (n4 : Int) := by omega
                have HE : Hid (([], 7) = encE (vs.map Vv.vl) ds) := Lib.hid (enc_long HST.out (by rw [List.length_append, kb_len, ← HN4.out]; exact h256) HLL.out HOK.out)
                go_wp2_with fail
                go_ret2
                exact enc_none HE.out H5.out.only
              · have hI : ¬ (256 : Int) < (n4 : Int) := by omega
                have HEN : Hid (EncIn (vs.map Vv.vl) ds (q + 1) (xs ++ kb v.vl true)) := Lib.hid ⟨HST.out, by rw [List.length_append, kb_len, ← HN4.out]; omega⟩
                go_wp2_with fail
                go_roundw
                case rel => exact ⟨q + 1, some ⟨g4, 0, none⟩, n4, c4, xs ++ kb v.vl true, by omega, by go_num, rfl, Lib.hid ⟨by rw [List.length_append, kb_len, ← HN4.out], HEN.out⟩, H5⟩
                case measure => simp [intOf]; omega
          · obtain rfl : q = k := by omega
            have HC := Lib.hid (run_strC (own_slC HO.out))
            have HE : Hid ((xs, 0) = encE (vs.map Vv.vl) ds) := Lib.hid (enc_ends HI.out.2 (by rw [List.length_map]; exact HN.out) HLL.out HOK.out)
            have hc := HC.out
            have hltI : ¬ (q : Int) < (q : Int) := by omega
            go_wp2_with fail
            go_ret2
            exact ⟨xs, 0, rfl, HE.out, HO.out.only⟩
  · have HE : Hid (([], 1) = encE (vs.map Vv.vl) ds) := Lib.hid (by unfold encE; rw [if_pos (by rw [List.length_map, ← HN.out, ← HM.out]; omega)])
    have hne : ((n : Int) != (m : Int)) = true := by simp; omega
    go_enter Tryd.func6, Tryd.ntmps6
    go_wp2
    go_ret2
    exact enc_none HE.out (Only.refl _ _)

end Go.Proofs.YtgkcflindenboaaDoor

namespace Go.Proofs.YtgkcflindenboaaDoor
open Go Go.RowKit
set_option linter.unusedVariables false
set_option linter.unusedSimpArgs false
set_option maxRecDepth 100000
set_option linter.unusedSimpArgs false
set_option maxRecDepth 100000

theorem OutV.other {w : World} {p k : Nat} {v : Value} {xs : List UInt8} {cs : Array Value} (h : OutV w p v xs) (hk : w.heap[k]? = some (.cells cs 42 (0, 0))) : ¬ OutS p v k := by
  rintro (rfl | e)
  · have := h.at'
    rw [hk] at this
    simp at this
  · rcases h.own.2 with ⟨rfl, _⟩ | ⟨g, cap, cur, rfl, _, hg, _⟩
    · simp [Value.ownBlock] at e
    · simp [Value.ownBlock] at e
      subst e
      rw [hk] at hg
      simp at hg
/-- Where put stands: its value's box, the Out. -/
structure PutS (w w1 : World) (p pb : Nat) (v0 v : Value) (cs : Array Value) (xs : List UInt8) : Prop where
  out : OutV w1 p v xs
  row : v.ownBlock = v0.ownBlock ∨ ∃ g, v.ownBlock = some g ∧ w.heap.size ≤ g
  only : Only (OutS p v0) w w1
  box : w1.heap[pb]? = some (.cells cs 42 (0, 0))
theorem PutS.start {w : World} {p : Nat} {v : Value} {xs : List UInt8} (h : OutV w p v xs) (cs : Array Value) : PutS w (w.alloc (.cells cs 42)) p w.heap.size v v cs xs :=
  ⟨h.keep ((Only.refl (fun _ => False) w).alloc _) (fun h => h) (fun _ _ h => h), .inl rfl, (Only.refl _ w).alloc _, heap_alloc_new w _⟩
theorem PutS.put {w w1 w2 : World} {p pb : Nat} {v0 v : Value} {cs : Array Value} {xs ys : List UInt8} (h : PutS w w1 p pb v0 v cs xs)
    (hp : ∃ v', OutV w2 p v' ys ∧ (v'.ownBlock = v.ownBlock ∨ ∃ g, v'.ownBlock = some g ∧ w1.heap.size ≤ g) ∧ Only (OutS p v) w1 w2) : ∃ v', PutS w w2 p pb v0 v' cs ys := by
  obtain ⟨v', h1, h2, h3⟩ := hp
  exact ⟨v', h1, row_trans h.only.size h.row h2, put_chain h.only h.row h3, h3.keep h.box (h.out.other h.box)⟩
theorem PutS.done {w w1 : World} {p pb : Nat} {v0 v : Value} {cs : Array Value} {xs : List UInt8} (h : PutS w w1 p pb v0 v cs xs) : PutPost w p v0 xs (.returned (.tuple #[])) w1 := ⟨rfl, v, h.out, h.row, h.only⟩
theorem PutS.c3 {w w1 : World} {p pb : Nat} {v0 v a b c : Value} {xs : List UInt8} (h : PutS w w1 p pb v0 v #[a, b, c] xs) : w1.cell? ⟨pb, 0, none⟩ = some a ∧ w1.cell? ⟨pb, 1, none⟩ = some b ∧ w1.cell? ⟨pb, 2, none⟩ = some c := by
  simp [World.cell?, h.box]

theorem rb_null {v : Vl} (h : v.K = 0) : rb v = flagB true := by unfold rb; rw [if_pos h]; rfl
theorem rb_num {v : Vl} (h : v.K = 1 ∨ v.K = 2) : rb v = flagB false ++ beB 8 v.N := by unfold rb; rw [if_neg (by omega), if_pos h]; rfl
theorem rb_bool {v : Vl} (h : v.K = 3) : rb v = flagB false ++ beB 1 v.N := by unfold rb; rw [if_neg (by omega), if_neg (by omega), if_pos h]; simp [beB, flagB]
theorem rb_text {v : Vl} (h : v.K = 4 ∨ v.K = 5) : rb v = flagB false ++ txtB v.S := by unfold rb; rw [if_neg (by omega), if_neg (by omega), if_neg (by omega)]; rfl

set_option maxHeartbeats 2000000 in
theorem rput_any (p : Nat) (K N : Int) (S : ByteArray) (v : Value) (xs : List UInt8) (w : World) (hO : OutV w p v xs) (hN : U64 N) (hok : (vl K N S).okB = true) (hlen : xs.length ≤ 100000) :
    Calls Tryd.prog 52 #[.pointer (some ⟨p, 0, none⟩), vlv K N S] w (PutPost w p v (xs ++ rb (vl K N S))) := by
  have HL := Lib.hid hlen
  obtain ⟨x, rfl⟩ : ∃ x : Nat, N = (x : Int) := ⟨N.toNat, by have := hN.lo; omega⟩
  have hx : x < 18446744073709551616 := by have := hN.hi; omega
  have HS := Lib.hid (PutS.start hO #[.int .i64 K, .int .u64 (x : Int), .string S])
  have hK : K = 0 ∨ K = 1 ∨ K = 2 ∨ K = 3 ∨ K = 4 ∨ K = 5 := by
    rcases ok_kinds hok with ⟨e, _⟩ | ⟨e, _⟩ | ⟨e, _⟩ | ⟨e, _⟩ <;> simp only at e <;> omega
  have HSZ : Hid ((K = 4 ∨ K = 5) → S.size ≤ 64) := Lib.hid (fun e => by
    rcases ok_kinds hok with ⟨f, _⟩ | ⟨f, _⟩ | ⟨f, _⟩ | ⟨_, _, f⟩
    · simp only at f; omega
    · simp only at f; omega
    · simp only at f; omega
    · rw [← ba_size]; exact f)
  have HB3 : Hid (K = 3 → x < 2) := Lib.hid (fun e => by
    rcases ok_kinds hok with ⟨f, _⟩ | ⟨f, _⟩ | ⟨_, f, _⟩ | ⟨f, _, _⟩
    · simp only at f; omega
    · simp only at f; omega
    · simp only at f; omega
    · simp only at f; omega)
  clear hO hN hok hlen
  rcases hK with rfl | rfl | rfl | rfl | rfl | rfl
  · have HE := Lib.hid (rb_null (v := vl 0 (x : Int) S) rfl)
    generalize rb (vl 0 (x : Int) S) = E at *
    obtain ⟨c0, c1, c2⟩ := HS.out.c3
    go_enter Tryd.func52, Tryd.ntmps52
    go_wp2_with fail
    refine (outFlag p true v xs _ HS.out.out (by have := HL.out; omega)).mono ?_
    rintro e w1 ⟨rfl, h1⟩
    obtain ⟨v1, h2⟩ := HS.out.put h1
    have H2 := Lib.hid h2
    clear h1 h2 c0 c1 c2
    obtain ⟨c0, c1, c2⟩ := H2.out.c3
    go_wp2_with fail
    refine bodyPost_end (results_none rfl _ _ _) rfl ?_
    rw [HE.out]
    exact H2.out.done
  · have HE := Lib.hid (rb_num (v := vl 1 (x : Int) S) (.inl rfl))
    generalize rb (vl 1 (x : Int) S) = E at *
    obtain ⟨c0, c1, c2⟩ := HS.out.c3
    go_enter Tryd.func52, Tryd.ntmps52
    go_wp2_with fail
    refine (outFlag p false v xs _ HS.out.out (by have := HL.out; omega)).mono ?_
    rintro e w1 ⟨rfl, h1⟩
    obtain ⟨v1, h2⟩ := HS.out.put h1
    have H2 := Lib.hid h2
    clear h1 h2 c0 c1 c2
    obtain ⟨c0, c1, c2⟩ := H2.out.c3
    go_wp2_with fail
    refine (outU64 p x v1 (xs ++ flagB false) w1 H2.out.out hx (by have := HL.out; simp [flagB]; omega)).mono ?_
    rintro e w2 ⟨rfl, h3⟩
    obtain ⟨v2, h4⟩ := H2.out.put h3
    have H4 := Lib.hid h4
    clear h3 h4 c0 c1 c2
    go_wp2_with fail
    refine bodyPost_end (results_none rfl _ _ _) rfl ?_
    rw [HE.out, ← List.append_assoc]
    exact H4.out.done
  · have HE := Lib.hid (rb_num (v := vl 2 (x : Int) S) (.inr rfl))
    generalize rb (vl 2 (x : Int) S) = E at *
    obtain ⟨c0, c1, c2⟩ := HS.out.c3
    go_enter Tryd.func52, Tryd.ntmps52
    go_wp2_with fail
    refine (outFlag p false v xs _ HS.out.out (by have := HL.out; omega)).mono ?_
    rintro e w1 ⟨rfl, h1⟩
    obtain ⟨v1, h2⟩ := HS.out.put h1
    have H2 := Lib.hid h2
    clear h1 h2 c0 c1 c2
    obtain ⟨c0, c1, c2⟩ := H2.out.c3
    go_wp2_with fail
    refine (outU64 p x v1 (xs ++ flagB false) w1 H2.out.out hx (by have := HL.out; simp [flagB]; omega)).mono ?_
    rintro e w2 ⟨rfl, h3⟩
    obtain ⟨v2, h4⟩ := H2.out.put h3
    have H4 := Lib.hid h4
    clear h3 h4 c0 c1 c2
    go_wp2_with fail
    refine bodyPost_end (results_none rfl _ _ _) rfl ?_
    rw [HE.out, ← List.append_assoc]
    exact H4.out.done
  · have HE := Lib.hid (rb_bool (v := vl 3 (x : Int) S) rfl)
    generalize rb (vl 3 (x : Int) S) = E at *
    have hw : IntKind.u8.wrap (x : Int) = (x : Int) := by rw [IntKind.wrap_u8']; have := HB3.out (by simp); omega
    obtain ⟨c0, c1, c2⟩ := HS.out.c3
    go_enter Tryd.func52, Tryd.ntmps52
    go_wp2_with fail
    refine (outFlag p false v xs _ HS.out.out (by have := HL.out; omega)).mono ?_
    rintro e w1 ⟨rfl, h1⟩
    obtain ⟨v1, h2⟩ := HS.out.put h1
    have H2 := Lib.hid h2
    clear h1 h2 c0 c1 c2
    obtain ⟨c0, c1, c2⟩ := H2.out.c3
    go_wp2_with fail
    try rw [hw]
    refine (outU8 p x v1 (xs ++ flagB false) w1 H2.out.out (by have := HB3.out (by simp); omega) (by have := HL.out; simp [flagB]; omega)).mono ?_
    rintro e w2 ⟨rfl, h3⟩
    obtain ⟨v2, h4⟩ := H2.out.put h3
    have H4 := Lib.hid h4
    clear h3 h4 c0 c1 c2
    go_wp2_with fail
    refine bodyPost_end (results_none rfl _ _ _) rfl ?_
    rw [HE.out, ← List.append_assoc]
    exact H4.out.done
  · have HE := Lib.hid (rb_text (v := vl 4 (x : Int) S) (.inl rfl))
    generalize rb (vl 4 (x : Int) S) = E at *
    obtain ⟨c0, c1, c2⟩ := HS.out.c3
    go_enter Tryd.func52, Tryd.ntmps52
    go_wp2_with fail
    refine (outFlag p false v xs _ HS.out.out (by have := HL.out; omega)).mono ?_
    rintro e w1 ⟨rfl, h1⟩
    obtain ⟨v1, h2⟩ := HS.out.put h1
    have H2 := Lib.hid h2
    clear h1 h2 c0 c1 c2
    obtain ⟨c0, c1, c2⟩ := H2.out.c3
    go_wp2_with fail
    refine (outText p S v1 (xs ++ flagB false) w1 H2.out.out (by have := HSZ.out (by simp); omega) (by have := HSZ.out (by simp); have := HL.out; simp [flagB]; omega)).mono ?_
    rintro e w2 ⟨rfl, h3⟩
    obtain ⟨v2, h4⟩ := H2.out.put h3
    have H4 := Lib.hid h4
    clear h3 h4 c0 c1 c2
    go_wp2_with fail
    refine bodyPost_end (results_none rfl _ _ _) rfl ?_
    rw [HE.out, ← List.append_assoc, ByteArray.toList_eq]
    exact H4.out.done
  · have HE := Lib.hid (rb_text (v := vl 5 (x : Int) S) (.inr rfl))
    generalize rb (vl 5 (x : Int) S) = E at *
    obtain ⟨c0, c1, c2⟩ := HS.out.c3
    go_enter Tryd.func52, Tryd.ntmps52
    go_wp2_with fail
    refine (outFlag p false v xs _ HS.out.out (by have := HL.out; omega)).mono ?_
    rintro e w1 ⟨rfl, h1⟩
    obtain ⟨v1, h2⟩ := HS.out.put h1
    have H2 := Lib.hid h2
    clear h1 h2 c0 c1 c2
    obtain ⟨c0, c1, c2⟩ := H2.out.c3
    go_wp2_with fail
    refine (outText p S v1 (xs ++ flagB false) w1 H2.out.out (by have := HSZ.out (by simp); omega) (by have := HSZ.out (by simp); have := HL.out; simp [flagB]; omega)).mono ?_
    rintro e w2 ⟨rfl, h3⟩
    obtain ⟨v2, h4⟩ := H2.out.put h3
    have H4 := Lib.hid h4
    clear h3 h4 c0 c1 c2
    go_wp2_with fail
    refine bodyPost_end (results_none rfl _ _ _) rfl ?_
    rw [HE.out, ← List.append_assoc, ByteArray.toList_eq]
    exact H4.out.done

/-- Where lay stands. -/
def LayAt (w wr : World) (po : Nat) (xs : List UInt8) : Prop := ∃ v, OutV wr po v xs ∧ (v.ownBlock = .none ∨ ∃ g, v.ownBlock = some g ∧ w.heap.size ≤ g) ∧ w.heap.size ≤ po ∧ Only (fun _ => False) w wr
theorem LayAt.put {w w1 w2 : World} {po : Nat} {v : Value} {xs ys : List UInt8} {e : Ending} (h1 : OutV w1 po v xs) (h2 : v.ownBlock = .none ∨ ∃ g, v.ownBlock = some g ∧ w.heap.size ≤ g) (h3 : w.heap.size ≤ po) (h4 : Only (fun _ => False) w w1) (hp : PutPost w1 po v ys e w2) : LayAt w w2 po ys := by
  obtain ⟨_, v', q1, q2, q3⟩ := hp
  exact ⟨v', q1, row_ge h4.size h2 q2, h3, h4.none q3 (OutS.ge h3 h2)⟩
theorem rowL_take_succ {l : List Vl} {k : Nat} (h : k < l.length) (v : Vl) (hv : l[k]? = some v) : rowL (l.take (k + 1)) = rowL (l.take k) ++ rb v := by
  rw [List.take_add_one, hv]
  exact rowL_snoc _ _

set_option maxHeartbeats 4000000 in
theorem lay_any (lo : Option Addr) (n c : Nat) (vs : List Vv) (w : World) (hv : SlV w lo vs) (hn : n = vs.length) (h24 : n ≤ 24) (hok : ∀ v ∈ vs, v.vl.okB = true) :
    Calls Tryd.prog 32 #[.slice lo n c] w fun e w' => e = .returned (.string ⟨(rowS (vs.map Vv.vl)).toArray⟩) ∧ Only (fun _ => False) w w' := by
  have HV := Lib.hid hv
  have HN := Lib.hid hn
  have HOK := Lib.hid hok
  have hO := OutV.new w
  have hw8 : IntKind.u8.wrap (n : Int) = (n : Int) := by rw [IntKind.wrap_u8']; omega
  have HU8 := Lib.hid (outU8 w.heap.size n (.slice none 0 0) [] _ hO (by omega) (by simp))
  have HO := Lib.hid hO
  have HA := Lib.hid ((Only.refl (fun _ => False) w).alloc (.cells #[.slice none 0 0] 84))
  clear hv hn hok hO
  go_enter Tryd.func32, Tryd.ntmps32
  go_wp2_with fail
  try rw [hw8]
  refine HU8.out.mono ?_
  rintro e w1 ⟨rfl, h1⟩
  have HLA : Hid (LayAt w w1 w.heap.size ([UInt8.ofNat n] ++ rowL ((vs.map Vv.vl).take 0))) := Lib.hid (by
    have := LayAt.put HO.out (.inl rfl) (Nat.le_refl _) HA.out (e := .returned (.tuple #[])) ⟨rfl, h1⟩
    simpa [beB, rowL] using this)
  clear h1 HU8 HO HA hw8
  go_wp2_with fail
  go_loopw [5, 15] (fun _ i wr => ∃ (k : Nat), k ≤ n ∧ i = .int .i64 (k : Int) ∧ Hid (LayAt w wr w.heap.size ([UInt8.ofNat n] ++ rowL ((vs.map Vv.vl).take k)))) (fun _ i _ => n - (intOf i).toNat)
  case atStart => exact ⟨0, Nat.zero_le _, rfl, HLA⟩
  case round =>
    clear HLA
    obtain ⟨k, hk, rfl, HO⟩ := hrel
    obtain ⟨v0, o1, o2, o3, o4⟩ := HO.out
    by_cases hlt : k < n
    · have HKL : Hid (k < vs.length) := Lib.hid (by rw [← HN.out]; exact hlt)
      obtain ⟨g, off, rfl, hva⟩ := (HV.out.keep o4) k HKL.out
      obtain ⟨v, hve⟩ : ∃ v, vs.getD k default = v := ⟨_, rfl⟩
      rw [hve] at hva
      have HVE : Hid ((vs.map Vv.vl)[k]? = some v.vl) := Lib.hid (by
        have := HKL.out
        rw [List.getElem?_map, List.getElem?_eq_getElem this, ← hve]
        simp [this])
      have HVO : Hid (v.vl.okB = true) := Lib.hid (HOK.out v (by rw [← hve]; have := HKL.out; simp [this]))
      obtain ⟨y0, y1, y2, hu⟩ := hva
      obtain ⟨xs, hxs⟩ : ∃ xs, xs = [UInt8.ofNat n] ++ rowL ((vs.map Vv.vl).take k) := ⟨_, rfl⟩
      have HST : Hid ([UInt8.ofNat n] ++ rowL ((vs.map Vv.vl).take (k + 1)) = xs ++ rb v.vl) := Lib.hid (by
        rw [rowL_take_succ (by have := HKL.out; simpa using this) v.vl HVE.out, hxs, List.append_assoc])
      have HXL : Hid (xs.length ≤ 100000) := Lib.hid (by
        have h1 := rowL_len (l := (vs.map Vv.vl).take k) (fun u hu => by
          obtain ⟨z, hz, rfl⟩ := List.mem_map.1 (List.mem_of_mem_take hu)
          exact HOK.out z hz)
        have h2 : ((vs.map Vv.vl).take k).length ≤ k := List.length_take_le _ _
        rw [hxs, List.length_append]
        simp only [List.length_cons, List.length_nil]
        omega)
      rw [← hxs] at o1
      have HPU := Lib.hid (rput_any w.heap.size v.K v.N v.S v0 xs _ (o1.keep ((Only.refl (fun _ => False) wr).alloc (.cells #[.int .i64 v.K, .int .u64 v.N, .string v.S] 42)) (fun h => h) (fun _ _ h => h)) hu HVO.out HXL.out)
      have HO1 := Lib.hid (o1.keep ((Only.refl (fun _ => False) wr).alloc (.cells #[.int .i64 v.K, .int .u64 v.N, .string v.S] 42)) (fun h => h) (fun _ _ h => h))
      have HO4 := Lib.hid (o4.alloc (.cells #[.int .i64 v.K, .int .u64 v.N, .string v.S] 42))
      have HO2 := Lib.hid (And.intro o2 o3)
      have hltI : (k : Int) < (n : Int) := by omega
      have hk0 : (0 : Int) ≤ (k : Int) := by omega
      clear hve hxs o1 o2 o3 o4 HO hu
      go_wp2_with fail
      refine HPU.out.mono ?_
      rintro e w2 hp
      have HL2 := Lib.hid (LayAt.put HO1.out HO2.out.1 HO2.out.2 HO4.out hp)
      rw [show rb (vl v.K v.N v.S) = rb v.vl from rfl, ← HST.out] at HL2
      obtain ⟨rfl, _⟩ := hp
      clear HPU HO1 HO4 HO2 y0 y1 y2
      go_wp2_with fail
      go_roundw
      case rel => exact ⟨k + 1, by omega, by go_num, HL2⟩
      case measure => simp [intOf]; omega
    · obtain rfl : k = n := by omega
      have hltI : ¬ (k : Int) < (k : Int) := by omega
      obtain ⟨xs, hxs⟩ : ∃ xs, xs = [UInt8.ofNat k] ++ rowL ((vs.map Vv.vl).take k) := ⟨_, rfl⟩
      have HX : Hid (xs = rowS (vs.map Vv.vl)) := Lib.hid (by
        rw [hxs, List.take_of_length_le (by rw [List.length_map, ← HN.out]; exact Nat.le_refl _), rowS, List.length_map, ← HN.out]
        rfl)
      have HXL : Hid (xs.length ≤ 100000) := Lib.hid (by
        have h1 := rowL_len (l := (vs.map Vv.vl).take k) (fun u hu => by
          obtain ⟨z, hz, rfl⟩ := List.mem_map.1 (List.mem_of_mem_take hu)
          exact HOK.out z hz)
        have h2 : ((vs.map Vv.vl).take k).length ≤ k := List.length_take_le _ _
        rw [hxs, List.length_append]
        simp only [List.length_cons, List.length_nil]
        omega)
      rw [← hxs] at o1
      have HBY := Lib.hid (outBytes w.heap.size v0 xs wr o1 (by have := HXL.out; omega))
      have HO4 := Lib.hid o4
      clear hxs o1 o2 o3 o4 HO
      go_wp2_with fail
      refine HBY.out.mono ?_
      rintro e w2 ⟨r, rfl, hr, ho⟩
      have hcv := run_str (own_toB hr)
      rw [HX.out] at hcv
      have HO5 := Lib.hid (HO4.out.trans ho (fun _ _ h => h))
      clear hr ho HBY
      go_wp2_with fail
      go_ret
      exact ⟨rfl, HO5.out⟩

end Go.Proofs.YtgkcflindenboaaDoor

namespace Go.Proofs.YtgkcflindenboaaDoor
open Go Go.RowKit
set_option linter.unusedVariables false
set_option linter.unusedSimpArgs false
set_option maxRecDepth 100000
set_option linter.unusedSimpArgs false
set_option maxRecDepth 100000

set_option maxHeartbeats 1000000 in
theorem fits_u {nm : ByteArray} {cK cM : Int} {nu : Bool} {dK dN : Int} {dS : ByteArray} {K N : Int} {s : ByteArray} (hN : U64 N) (w : World) (hT : UTab w) :
    Calls Tryd.prog 40 #[colv nm cK cM nu dK dN dS, vlv K N s] w fun e w' => e = .returned (.int .i64 (fitsE cK cM nu (vl K N s))) ∧ Below w.heap.size w w' := by
  have HB := Lib.hid (fun o p => below_2 w o p)
  have HT := Lib.hid (fun o p => hT.keep (HB.out o p))
  clear hT
  have hsz := ba_size s
  by_cases ho : (vl K N s).okB = true
  case neg =>
    have ho : (vl K N s).okB = false := by simpa using ho
    have HOK := Lib.hid ho
    have hr : fitsE cK cM nu (vl K N s) = 8 := by rw [fitsE, if_pos ho]
    rw [hr]
    clear ho hr hsz
    go_enter Tryd.func40, Tryd.ntmps40
    go_wp2_with fail
    refine (valid_u hN _ (HT.out _ _)).mono ?_
    rintro e w1 ⟨rfl, hb1⟩
    rw [HOK.out]
    obtain ⟨c0, c1, c2, c3, v0, v2⟩ := fits_cells hb1
    have H1 := Lib.hid ((HB.out _ _).trans (hb1.mono (by simp; omega)))
    clear hb1
    go_wp2
    go_ret
    exact ⟨rfl, H1.out⟩
  have HOK := Lib.hid ho
  by_cases k0 : K = 0
  · subst k0
    cases nu with
    | false =>
      have hr : fitsE cK cM false (vl 0 N s) = 8 := by rw [fitsE, if_neg (by rw [ho]; decide), if_pos (by simp)]
      rw [hr]
      clear ho hr hsz
      go_enter Tryd.func40, Tryd.ntmps40
      go_wp2_with fail
      refine (valid_u hN _ (HT.out _ _)).mono ?_
      rintro e w1 ⟨rfl, hb1⟩
      rw [HOK.out]
      obtain ⟨c0, c1, c2, c3, v0, v2⟩ := fits_cells hb1
      have H1 := Lib.hid ((HB.out _ _).trans (hb1.mono (by simp; omega)))
      clear hb1
      go_wp2
      go_ret
      exact ⟨rfl, H1.out⟩
    | true =>
      have hr : fitsE cK cM true (vl 0 N s) = 0 := by rw [fitsE, if_neg (by rw [ho]; decide), if_neg (by simp), if_neg (by simp), if_neg (by simp)]
      rw [hr]
      clear ho hr hsz
      go_enter Tryd.func40, Tryd.ntmps40
      go_wp2_with fail
      refine (valid_u hN _ (HT.out _ _)).mono ?_
      rintro e w1 ⟨rfl, hb1⟩
      rw [HOK.out]
      obtain ⟨c0, c1, c2, c3, v0, v2⟩ := fits_cells hb1
      have H1 := Lib.hid ((HB.out _ _).trans (hb1.mono (by simp; omega)))
      clear hb1
      go_wp2
      go_ret
      exact ⟨rfl, H1.out⟩
  have b0 : (K == 0) = false := by simpa using k0
  have d0 : (K != 0) = true := by simpa using k0
  by_cases hk : K = cK
  case neg =>
    have hr : fitsE cK cM nu (vl K N s) = 8 := by rw [fitsE, if_neg (by rw [ho]; decide), if_neg (by simp [k0]), if_pos ⟨k0, hk⟩]
    have d1 : (K != cK) = true := by simpa using hk
    rw [hr]
    clear ho hr hsz k0 hk
    go_enter Tryd.func40, Tryd.ntmps40
    go_wp2_with fail
    refine (valid_u hN _ (HT.out _ _)).mono ?_
    rintro e w1 ⟨rfl, hb1⟩
    rw [HOK.out]
    obtain ⟨c0, c1, c2, c3, v0, v2⟩ := fits_cells hb1
    have H1 := Lib.hid ((HB.out _ _).trans (hb1.mono (by simp; omega)))
    clear hb1
    go_wp2
    go_ret
    exact ⟨rfl, H1.out⟩
  subst hk
  have d1 : (K != K) = false := by simp
  by_cases h45 : K = 4 ∨ K = 5
  case neg =>
    have hr : fitsE K cM nu (vl K N s) = 0 := by rw [fitsE, if_neg (by rw [ho]; decide), if_neg (by simp [k0]), if_neg (by simp), if_neg (fun h => h45 h.1)]
    have b4 : (K == 4) = false := by simp; omega
    have b5 : (K == 5) = false := by simp; omega
    rw [hr]
    clear ho hr hsz k0 h45
    go_enter Tryd.func40, Tryd.ntmps40
    go_wp2_with fail
    refine (valid_u hN _ (HT.out _ _)).mono ?_
    rintro e w1 ⟨rfl, hb1⟩
    rw [HOK.out]
    obtain ⟨c0, c1, c2, c3, v0, v2⟩ := fits_cells hb1
    have H1 := Lib.hid ((HB.out _ _).trans (hb1.mono (by simp; omega)))
    clear hb1
    go_wp2
    go_ret
    exact ⟨rfl, H1.out⟩
  by_cases hl : cM < (s.size : Int)
  · have hr : fitsE K cM nu (vl K N s) = 7 := by rw [fitsE, if_neg (by rw [ho]; decide), if_neg (by simp [k0]), if_neg (by simp), if_pos ⟨h45, by simp only [hsz]; exact hl⟩]
    rw [hr]
    rcases h45 with rfl | rfl
    all_goals
      clear ho hr hsz k0
      go_enter Tryd.func40, Tryd.ntmps40
      go_wp2_with fail
      refine (valid_u hN _ (HT.out _ _)).mono ?_
      rintro e w1 ⟨rfl, hb1⟩
      rw [HOK.out]
      obtain ⟨c0, c1, c2, c3, v0, v2⟩ := fits_cells hb1
      have H1 := Lib.hid ((HB.out _ _).trans (hb1.mono (by simp; omega)))
      clear hb1
      go_wp2
      go_ret
      exact ⟨rfl, H1.out⟩
  · have hr : fitsE K cM nu (vl K N s) = 0 := by rw [fitsE, if_neg (by rw [ho]; decide), if_neg (by simp [k0]), if_neg (by simp), if_neg (fun h => hl (by have := h.2; simp only [hsz] at this; exact this))]
    rw [hr]
    rcases h45 with rfl | rfl
    all_goals
      clear ho hr hsz k0
      go_enter Tryd.func40, Tryd.ntmps40
      go_wp2_with fail
      refine (valid_u hN _ (HT.out _ _)).mono ?_
      rintro e w1 ⟨rfl, hb1⟩
      rw [HOK.out]
      obtain ⟨c0, c1, c2, c3, v0, v2⟩ := fits_cells hb1
      have H1 := Lib.hid ((HB.out _ _).trans (hb1.mono (by simp; omega)))
      clear hb1
      go_wp2
      go_ret
      exact ⟨rfl, H1.out⟩

set_option maxHeartbeats 1000000 in
theorem column_u {nm : ByteArray} {cK cM : Int} {nu : Bool} {dK dN : Int} {dS : ByteArray} (hD : U64 dN) (w : World) (hT : UTab w) :
    Calls Tryd.prog 56 #[colv nm cK cM nu dK dN dS] w fun e w' => e = .returned (.int .i64 (colE nm.toList cK cM nu (vl dK dN dS))) ∧ Below w.heap.size w w' := by
  have HB := Lib.hid (fun o => (Below.refl w.heap.size w).alloc (Nat.le_refl _) o)
  have HT := Lib.hid (fun o => hT.keep (HB.out o))
  clear hT
  by_cases hn : nameB nm.toList = true
  case neg =>
    have hn : nameB nm.toList = false := by simpa using hn
    have HN := Lib.hid hn
    have hr : colE nm.toList cK cM nu (vl dK dN dS) = 1 := by rw [colE, if_pos hn]
    rw [hr]
    clear hn hr
    go_enter Tryd.func56, Tryd.ntmps56
    go_wp2_with fail
    refine (name_any _ _).mono ?_
    rintro e w1 ⟨rfl, rfl⟩
    rw [HN.out]
    go_wp2
    go_ret
    exact ⟨rfl, HB.out _⟩
  have HN := Lib.hid hn
  by_cases hk : cK < 1 ∨ 5 < cK
  · have hr : colE nm.toList cK cM nu (vl dK dN dS) = 8 := by rw [colE, if_neg (by rw [hn]; decide), if_pos hk]
    rw [hr]
    clear hn hr
    have hk2 : cK < 1 ∨ (¬ cK < 1 ∧ 5 < cK) := by omega
    clear hk
    rcases hk2 with h1 | ⟨h1, h2⟩
    all_goals
      go_enter Tryd.func56, Tryd.ntmps56
      go_wp2_with fail
      refine (name_any _ _).mono ?_
      rintro e w1 ⟨rfl, rfl⟩
      rw [HN.out]
      go_wp2
      go_ret
      exact ⟨rfl, HB.out _⟩
  have h1 : ¬ cK < 1 := by omega
  have h2 : ¬ 5 < cK := by omega
  by_cases hb : boundB cK cM = true
  case neg =>
    have hb : boundB cK cM = false := by simpa using hb
    have HBO := Lib.hid hb
    have hr : colE nm.toList cK cM nu (vl dK dN dS) = 7 := by rw [colE, if_neg (by rw [hn]; decide), if_neg hk, if_pos hb]
    rw [hr]
    clear hn hr hk hb
    go_enter Tryd.func56, Tryd.ntmps56
    go_wp2_with fail
    refine (name_any _ _).mono ?_
    rintro e w1 ⟨rfl, rfl⟩
    rw [HN.out]
    go_wp2_with fail
    refine (bound_any _).mono ?_
    rintro e w1 ⟨rfl, hb1⟩
    rw [HBO.out]
    have H1 := Lib.hid ((HB.out _).trans (hb1.mono (by simp)))
    clear hb1
    go_wp2
    go_ret
    exact ⟨rfl, H1.out⟩
  have HBO := Lib.hid hb
  have hr : colE nm.toList cK cM nu (vl dK dN dS) = fitsE cK cM nu (vl dK dN dS) := by rw [colE, if_neg (by rw [hn]; decide), if_neg hk, if_neg (by rw [hb]; decide)]
  rw [hr]
  clear hn hr hk hb
  go_enter Tryd.func56, Tryd.ntmps56
  go_wp2_with fail
  refine (name_any _ _).mono ?_
  rintro e w1 ⟨rfl, rfl⟩
  rw [HN.out]
  go_wp2_with fail
  refine (bound_any _).mono ?_
  rintro e w1 ⟨rfl, hb1⟩
  rw [HBO.out]
  obtain ⟨c0, c1, c2, c3, c4, c5, c6⟩ := col_cells hb1
  have HT1 := Lib.hid ((HT.out _).keep hb1)
  have H1 := Lib.hid ((HB.out _).trans (hb1.mono (by simp)))
  clear hb1
  go_wp2_with fail
  refine (fits_u hD _ HT1.out).mono ?_
  rintro e w2 ⟨rfl, hb2⟩
  have H2 := Lib.hid (H1.out.trans (hb2.mono H1.out.size))
  clear hb2
  go_wp2
  go_ret
  exact ⟨rfl, H2.out⟩

end Go.Proofs.YtgkcflindenboaaDoor

namespace Go.Proofs.YtgkcflindenboaaDoor
open Go Go.RowKit
set_option linter.unusedVariables false
set_option linter.unusedSimpArgs false
set_option maxRecDepth 100000
set_option linter.unusedSimpArgs false
set_option maxRecDepth 100000

instance : Inhabited Cv := ⟨⟨⟨#[]⟩, 0, 0, false, 0, 0, ⟨#[]⟩⟩⟩
/-- A column in seven cells. -/
structure CvAt (w : World) (g o : Nat) (c : Cv) : Prop where
  c0 : w.cell? ⟨g, o, none⟩ = some (.string c.nm)
  c1 : w.cell? ⟨g, o + 1, none⟩ = some (.int .i64 c.K)
  c2 : w.cell? ⟨g, o + 2, none⟩ = some (.int .i64 c.M)
  c3 : w.cell? ⟨g, o + 3, none⟩ = some (.bool c.nu)
  c4 : w.cell? ⟨g, o + 4, none⟩ = some (.int .i64 c.dK)
  c5 : w.cell? ⟨g, o + 5, none⟩ = some (.int .u64 c.dN)
  c6 : w.cell? ⟨g, o + 6, none⟩ = some (.string c.dS)
  u : U64 c.dN
theorem CvAt.keep {w w' : World} {g o : Nat} {c : Cv} (h : CvAt w g o c) (ho : Only (fun _ => False) w w') : CvAt w' g o c :=
  ⟨ho.cellq h.c0, ho.cellq h.c1, ho.cellq h.c2, ho.cellq h.c3, ho.cellq h.c4, ho.cellq h.c5, ho.cellq h.c6, h.u⟩
/-- A slice of columns. -/
def SlCs (w : World) (ao : Option Addr) (cs : List Cv) : Prop := ∀ j, j < cs.length → ∃ g off, ao = some ⟨g, off, none⟩ ∧ CvAt w g (off + j * 7) (cs.getD j default)
theorem SlCs.keep {w w' : World} {ao : Option Addr} {cs : List Cv} (h : SlCs w ao cs) (ho : Only (fun _ => False) w w') : SlCs w' ao cs := fun j hj => by
  obtain ⟨g, off, h1, h2⟩ := h j hj
  exact ⟨g, off, h1, h2.keep ho⟩
theorem only_bw {w w' : World} (h : Only (fun _ => False) w w') : Below w.heap.size w w' := h.below (Nat.le_refl _) (fun _ h => h.elim)
theorem SlCs.u64 {w : World} {ao : Option Addr} {cs : List Cv} (h : SlCs w ao cs) : ∀ c ∈ cs, U64 c.dN := fun c hc => by
  obtain ⟨j, hj, rfl⟩ := List.getElem_of_mem hc
  obtain ⟨g, off, _, h2⟩ := h j hj
  have := h2.u
  simpa [hj] using this
set_option maxHeartbeats 4000000 in
theorem arecols_any (co : Option Addr) (n cc : Nat) (cs : List Cv) (w : World) (hT : UTab w) (hc : SlCs w co cs) (hn : n = cs.length) :
    Calls Tryd.prog 34 #[.slice co n cc] w fun e w' => e = .returned (.bool (colsB cs)) ∧ Only (fun _ => False) w w' := by
  have HT := Lib.hid hT
  have HC := Lib.hid hc
  have HN := Lib.hid hn
  clear hT hc
  by_cases h1 : n < 1
  · have h1I : (n : Int) < 1 := by omega
    have hE : colsB cs = false := by
      rw [← Bool.not_eq_true, colsB_iff]
      omega
    rw [hE]
    clear hn h1 hE
    go_enter Tryd.func34, Tryd.ntmps34
    go_wp2_with fail
    go_ret
    exact ⟨rfl, Only.refl _ _⟩
  by_cases h24 : 24 < n
  · have h1I : ¬ (n : Int) < 1 := by omega
    have h2I : (24 : Int) < (n : Int) := by omega
    have hE : colsB cs = false := by
      rw [← Bool.not_eq_true, colsB_iff]
      omega
    rw [hE]
    clear hn h1 hE h24
    go_enter Tryd.func34, Tryd.ntmps34
    go_wp2_with fail
    go_ret
    exact ⟨rfl, Only.refl _ _⟩
  have h1I : ¬ (n : Int) < 1 := by omega
  have h2I : ¬ (24 : Int) < (n : Int) := by omega
  have HSZ : Hid (1 ≤ cs.length ∧ cs.length ≤ 24) := Lib.hid (by omega)
  obtain ⟨R, hR⟩ : ∃ R, colsB cs = R := ⟨_, rfl⟩
  rw [hR]
  have HR := Lib.hid hR
  clear hn hR
  go_enter Tryd.func34, Tryd.ntmps34
  go_wp2_with fail
  go_loopw [4, 15] (fun _ i wr => ∃ (k : Nat), k ≤ n ∧ i = .int .i64 (k : Int) ∧ Hid (∀ j, j < k → (cs.getD j default).E = 0) ∧ Hid (Only (fun _ => False) w wr)) (fun _ i _ => n - (intOf i).toNat)
  case atStart => exact ⟨0, Nat.zero_le _, rfl, Lib.hid (fun j hj => absurd hj (Nat.not_lt_zero _)), Lib.hid (Only.refl _ _)⟩
  case round =>
    obtain ⟨k, hk, rfl, HA, HO⟩ := hrel
    by_cases hlt : k < n
    · have HKL : Hid (k < cs.length) := Lib.hid (by rw [← HN.out]; exact hlt)
      obtain ⟨g, off, rfl, hca⟩ := (HC.out.keep HO.out) k HKL.out
      obtain ⟨c, hce⟩ : ∃ c, cs.getD k default = c := ⟨_, rfl⟩
      rw [hce] at hca
      have HCE := Lib.hid hce
      obtain ⟨y0, y1, y2, y3, y4, y5, y6, hu⟩ := hca
      have H1 := Lib.hid (HO.out.alloc (.cells #[.string c.nm, .int .i64 c.K, .int .i64 c.M, .bool c.nu, .int .i64 c.dK, .int .u64 c.dN, .string c.dS] 67))
      obtain ⟨er, her⟩ : ∃ er, c.E = er := ⟨_, rfl⟩
      have HER := Lib.hid her
      have hcu := column_u (nm := c.nm) (cK := c.K) (cM := c.M) (nu := c.nu) (dK := c.dK) (dS := c.dS) hu _ (HT.out.keep (only_bw H1.out))
      rw [show colE c.nm.toList c.K c.M c.nu (vl c.dK c.dN c.dS) = c.E from rfl, her] at hcu
      have HCU := Lib.hid hcu
      have hltI : (k : Int) < (n : Int) := by omega
      have hk0 : (0 : Int) ≤ (k : Int) := by omega
      clear hce her hcu hu HO
      go_wp2_with fail
      refine HCU.out.mono ?_
      rintro e w4 ⟨rfl, hb4⟩
      have H4 := Lib.hid (H1.out.trans (below_quiet hb4) (fun _ _ h => h))
      clear hb4 HCU H1 y0 y1 y2 y3 y4 y5 y6
      by_cases h0 : er = 0
      · subst h0
        go_wp2_with fail
        go_roundw
        case rel =>
          refine ⟨k + 1, by omega, by go_num, Lib.hid (fun j hj => ?_), H4⟩
          rcases Nat.lt_or_ge j k with h | h
          · exact HA.out j h
          · obtain rfl : j = k := by omega
            rw [HCE.out]
            exact HER.out
        case measure => simp [intOf]; omega
      · have hne : (er != 0) = true := by simpa using h0
        have HRF : Hid (R = false) := Lib.hid (by
          rw [← HR.out, ← Bool.not_eq_true, colsB_iff]
          rintro ⟨_, _, h⟩
          have := h c (by rw [← HCE.out]; have := HKL.out; simp [this])
          rw [HER.out] at this
          exact h0 this)
        clear h0
        go_wp2_with fail
        go_ret
        exact ⟨by rw [HRF.out]; rfl, H4.out⟩
    · obtain rfl : k = n := by omega
      have hltI : ¬ (k : Int) < (k : Int) := by omega
      have HRT : Hid (R = true) := Lib.hid (by
        rw [← HR.out, colsB_iff]
        refine ⟨HSZ.out.1, HSZ.out.2, fun c hc => ?_⟩
        obtain ⟨j, hj, rfl⟩ := List.getElem_of_mem hc
        have := HA.out j (by rw [HN.out]; exact hj)
        simpa [hj] using this)
      go_wp2_with fail
      go_ret
      exact ⟨by rw [HRT.out]; rfl, HO.out⟩

theorem fitsL_at : ∀ {cs : List Cv} {l : List Vl} {k : Nat}, k < cs.length → k < l.length → (∀ j, j < k → (cs.getD j default).fit (l.getD j ⟨0, 0, []⟩) = 0) → fitsL cs l = fitsL (cs.drop k) (l.drop k)
  | cs, l, 0, _, _, _ => by simp
  | c :: cs, v :: l, k + 1, hc, hl, h => by
    have h0 := h 0 (by omega)
    simp only [List.getD_cons_zero] at h0
    rw [fitsL, if_pos h0, List.drop_succ_cons, List.drop_succ_cons]
    exact fitsL_at (by simpa using hc) (by simpa using hl) (fun j hj => by have := h (j + 1) (by omega); simpa using this)
  | [], _, _ + 1, h, _, _ => by simp at h
  | _ :: _, [], _ + 1, _, h, _ => by simp at h
theorem fitsL_stop {cs : List Cv} {l : List Vl} {k : Nat} (hc : k < cs.length) (hl : k < l.length) (h : ∀ j, j < k → (cs.getD j default).fit (l.getD j ⟨0, 0, []⟩) = 0) (hk : (cs.getD k default).fit (l.getD k ⟨0, 0, []⟩) ≠ 0) : fitsL cs l = (cs.getD k default).fit (l.getD k ⟨0, 0, []⟩) := by
  rw [fitsL_at hc hl h, List.drop_eq_getElem_cons hc, List.drop_eq_getElem_cons hl, fitsL]
  rw [show cs.getD k default = cs[k] by simp [hc], show l.getD k ⟨0, 0, []⟩ = l[k] by simp [hl]] at *
  rw [if_neg hk]
theorem fitsL_all : ∀ {cs : List Cv} {l : List Vl}, l.length = cs.length → (∀ j, j < cs.length → (cs.getD j default).fit (l.getD j ⟨0, 0, []⟩) = 0) → fitsL cs l = 0
  | [], _, _, _ => by simp [fitsL]
  | c :: cs, v :: l, hl, h => by
    have h0 := h 0 (by simp)
    simp only [List.getD_cons_zero] at h0
    rw [fitsL, if_pos h0]
    exact fitsL_all (by simpa using hl) (fun j hj => by have := h (j + 1) (by simpa using hj); simpa using this)
  | _ :: _, [], h, _ => by simp at h

set_option maxHeartbeats 8000000 in
theorem wfits_any (co lo : Option Addr) (n cc m lc : Nat) (cs : List Cv) (vs : List Vv) (w : World) (hT : UTab w) (hc : SlCs w co cs) (hv : SlV w lo vs) (hn : n = cs.length) (hm : m = vs.length) :
    Calls Tryd.prog 18 #[.slice co n cc, .slice lo m lc] w fun e w' => e = .returned (.int .i64 (rfits cs (vs.map Vv.vl))) ∧ Only (fun _ => False) w w' := by
  have HT := Lib.hid hT
  have HC := Lib.hid hc
  have HV := Lib.hid hv
  have HN := Lib.hid hn
  have HM := Lib.hid hm
  have HCO := Lib.hid (arecols_any co n cc cs w hT hc hn)
  obtain ⟨B, hB⟩ : ∃ B, colsB cs = B := ⟨_, rfl⟩
  rw [hB] at HCO
  have HB := Lib.hid hB
  obtain ⟨R, hR⟩ : ∃ R, rfits cs (vs.map Vv.vl) = R := ⟨_, rfl⟩
  rw [hR]
  have HR := Lib.hid hR
  clear hT hc hv hn hm hB hR
  cases B with
  | false =>
    have HRV : Hid (R = 1) := Lib.hid (by rw [← HR.out]; unfold rfits; rw [if_pos (.inl HB.out)])
    go_enter Tryd.func18, Tryd.ntmps18
    go_wp2_with fail
    refine HCO.out.mono ?_
    rintro e w1 ⟨rfl, h1⟩
    have H1 := Lib.hid h1
    clear h1 HCO
    go_wp2_with fail
    go_ret
    exact ⟨by rw [HRV.out]; rfl, H1.out⟩
  | true =>
    by_cases hnm : m = n
    case neg =>
      have HRV : Hid (R = 1) := Lib.hid (by
        rw [← HR.out]
        unfold rfits
        rw [if_pos (.inr (by rw [List.length_map, ← HN.out, ← HM.out]; exact hnm))])
      have hne : ((m : Int) != (n : Int)) = true := by simp; omega
      go_enter Tryd.func18, Tryd.ntmps18
      go_wp2_with fail
      refine HCO.out.mono ?_
      rintro e w1 ⟨rfl, h1⟩
      have H1 := Lib.hid h1
      clear h1 HCO
      go_wp2_with fail
      go_ret
      exact ⟨by rw [HRV.out]; rfl, H1.out⟩
    case pos =>
      subst hnm
      have hm24 : (m : Int) ≤ 24 := by have := (colsB_iff.1 HB.out).2.1; have := HN.out; omega
      have HRV : Hid (R = fitsL cs (vs.map Vv.vl)) := Lib.hid (by
        rw [← HR.out]
        unfold rfits
        rw [if_neg]
        rintro (h | h)
        · rw [HB.out] at h; cases h
        · exact h (by rw [List.length_map, ← HN.out, ← HM.out]))
      go_enter Tryd.func18, Tryd.ntmps18
      go_wp2_with fail
      refine HCO.out.mono ?_
      rintro e w1 ⟨rfl, h1⟩
      have H1 := Lib.hid h1
      clear h1 HCO
      go_wp2_with fail
      go_loopw [5, 6, 7, 20] (fun _ _ _ i wr => ∃ (k : Nat), k ≤ m ∧ i = .int .i64 (k : Int) ∧ Hid (∀ j, j < k → (cs.getD j default).fit ((vs.map Vv.vl).getD j ⟨0, 0, []⟩) = 0) ∧ Hid (Only (fun _ => False) w wr)) (fun _ _ _ i _ => m - (intOf i).toNat)
      case atStart => exact ⟨0, Nat.zero_le _, rfl, Lib.hid (fun j hj => absurd hj (Nat.not_lt_zero _)), H1⟩
      case round =>
        clear H1
        obtain ⟨k, hk, rfl, HA, HO⟩ := hrel
        by_cases hlt : k < m
        · have HKL : Hid (k < cs.length ∧ k < vs.length) := Lib.hid (by rw [← HN.out, ← HM.out]; exact ⟨hlt, hlt⟩)
          obtain ⟨g, off, rfl, hca⟩ := (HC.out.keep HO.out) k HKL.out.1
          obtain ⟨g2, off2, rfl, hva⟩ := (HV.out.keep HO.out) k HKL.out.2
          obtain ⟨c, hce⟩ : ∃ c, cs.getD k default = c := ⟨_, rfl⟩
          obtain ⟨v, hve⟩ : ∃ v, vs.getD k default = v := ⟨_, rfl⟩
          rw [hce] at hca
          rw [hve] at hva
          have HCE := Lib.hid hce
          have HVE : Hid ((vs.map Vv.vl).getD k ⟨0, 0, []⟩ = v.vl) := Lib.hid (by
            rw [← hve]
            have := HKL.out.2
            simp [this])
          obtain ⟨z0, z1, z2, hvu⟩ := hva
          have H1 := Lib.hid (HO.out.alloc (.cells #[.int .i64 v.K, .int .u64 v.N, .string v.S] 42))
          have hca1 := hca.keep ((Only.refl (fun _ => False) wr).alloc (.cells #[.int .i64 v.K, .int .u64 v.N, .string v.S] 42))
          have hb1 := heap_alloc_new wr (.cells #[.int .i64 v.K, .int .u64 v.N, .string v.S] 42)
          obtain ⟨er, her⟩ : ∃ er, c.fit v.vl = er := ⟨_, rfl⟩
          have HER := Lib.hid her
          have HFU : Hid (∀ W, Only (fun _ => False) w W → Calls Tryd.prog 40 #[colv c.nm c.K c.M c.nu c.dK c.dN c.dS, vlv v.K v.N v.S] W fun e w' => e = .returned (.int .i64 er) ∧ Below W.heap.size W w') := Lib.hid (fun W hW => by
            have h := fits_u (nm := c.nm) (cK := c.K) (cM := c.M) (nu := c.nu) (dK := c.dK) (dN := c.dN) (dS := c.dS) (K := v.K) (s := v.S) hvu W (HT.out.keep (only_bw hW))
            rw [show fitsE c.K c.M c.nu (vl v.K v.N v.S) = c.fit v.vl from rfl, her] at h
            exact h)
          have hltI : (k : Int) < (m : Int) := by omega
          have hk0 : (0 : Int) ≤ (k : Int) := by omega
          clear hce hve her hvu HO hca
          go_upto_region 6 with fail
          generalize wr.alloc (.cells #[.int .i64 v.K, .int .u64 v.N, .string v.S] 42) = w3 at *
          generalize wr.heap.size = vb at *
          obtain ⟨x0, x1, x2, _, _, _⟩ := blk_cells3 hb1
          obtain ⟨y0, y1, y2, y3, y4, y5, y6, hu⟩ := hca1
          clear z0 z1 z2 hb1
          go_region_with (go_simp; go_at_call 40; refine (HFU.out _ (by first | exact H1.out | exact H1.out.drew)).mono ?_; rintro e w4 ⟨rfl, hb4⟩; have H4 := Lib.hid (H1.out.drew.trans (below_quiet hb4) (fun _ _ h => h)); clear hb4)
          all_goals
            by_cases h0 : er = 0
            · subst h0
              go_wp2_with fail
              go_roundw
              case rel =>
                refine ⟨k + 1, by omega, by go_num, Lib.hid (fun j hj => ?_), H4⟩
                rcases Nat.lt_or_ge j k with h | h
                · exact HA.out j h
                · obtain rfl : j = k := by omega
                  rw [HCE.out, HVE.out]
                  exact HER.out
              case measure => simp [intOf]; omega
            · have hne : (er != 0) = true := by simpa using h0
              have HRF : Hid (R = er) := Lib.hid (by
                rw [HRV.out, fitsL_stop HKL.out.1 (by rw [List.length_map]; exact HKL.out.2) HA.out (by rw [HCE.out, HVE.out, HER.out]; exact h0), HCE.out, HVE.out, HER.out])
              clear h0
              go_wp2_with fail
              go_ret
              exact ⟨by rw [HRF.out]; rfl, H4.out⟩
        · obtain rfl : k = m := by omega
          have hltI : ¬ (k : Int) < (k : Int) := by omega
          have HRT : Hid (R = 0) := Lib.hid (by
            rw [HRV.out]
            exact fitsL_all (by rw [List.length_map, ← HN.out, ← HM.out]) (fun j hj => HA.out j (by rw [HN.out]; exact hj)))
          go_wp2_with fail
          go_ret
          exact ⟨by rw [HRT.out]; rfl, HO.out⟩

end Go.Proofs.YtgkcflindenboaaDoor

namespace Go.Proofs.YtgkcflindenboaaDoor
open Go Go.RowKit
set_option linter.unusedVariables false
set_option linter.unusedSimpArgs false
set_option maxRecDepth 100000

def blkV : Value → Option Nat
  | .slice (some a) _ _ => some a.block
  | _ => none
/-- The second lies in the first's block. -/
def SameB (v v' : Value) : Prop := ∀ k, blkV v' = some k → blkV v = some k

/-- An In of one's own. -/
def InR (p : Nat) (xs : List UInt8) (bad : Bool) : Res := fun w F => ∃ v, InV w p v xs bad ∧ ∀ k, F k ↔ k = p ∨ blkV v = some k
theorem SlB.blk {w : World} {v : Value} {xs : List UInt8} (h : SlB w v xs) {k : Nat} (hk : blkV v = some k) : ∃ cur, w.heap[k]? = some (.cells cur 5 (0, 0)) := by
  rcases h with ⟨rfl, _⟩ | ⟨g, off, cap, cur, rfl, _, _, h3, _⟩
  · cases hk
  · simp [blkV] at hk
    subst hk
    exact ⟨cur, h3⟩
instance {p : Nat} {xs : List UInt8} {bad : Bool} : Stab (InR p xs bad) where
  lt := by
    rintro w F ⟨v, h, hF⟩ k hk
    rcases (hF k).1 hk with rfl | hk
    · exact h.lt
    · obtain ⟨cur, hc⟩ := h.sl.blk hk
      exact lt_of_some hc
  keep := by
    rintro w w' F ⟨v, h, hF⟩ hk
    refine ⟨v, ⟨(hk p ((hF p).2 (.inl rfl))).trans h.at', ?_⟩, hF⟩
    rcases h.sl with h0 | ⟨g, off, cap, cur, rfl, h1, h2, h3, h4⟩
    · exact .inl h0
    · exact .inr ⟨g, off, cap, cur, rfl, h1, h2, (hk g ((hF g).2 (.inr rfl))).trans h3, h4⟩

def UPostB (k : IntKind) (w : World) (p n : Nat) (v : Value) (xs : List UInt8) (bad : Bool) (e : Ending) (w' : World) : Prop :=
  ∃ v', e = .returned (.int k (numB (nextR n xs bad))) ∧ InV w' p v' (nextL n xs bad) (!can n xs bad) ∧ Only (fun k => k = p) w w' ∧ SameB v v'
def ToPostB (w : World) (xs : List UInt8) (e : Ending) (w' : World) : Prop :=
  ∃ p v, e = .returned (.pointer (some ⟨p, 0, none⟩)) ∧ InV w' p v xs false ∧ w.heap.size ≤ p ∧ Only (fun _ => False) w w' ∧ ∀ k, blkV v = some k → w.heap.size ≤ k
theorem next_blk (p n : Nat) (v : Value) (xs : List UInt8) (bad : Bool) (w : World) (hI : InV w p v xs bad) :
    Calls Tryd.prog 92 #[.pointer (some ⟨p, 0, none⟩), .int .i64 n] w fun e w' => ∃ r v', e = .returned r ∧ SlB w' r (nextR n xs bad) ∧ InV w' p v' (nextL n xs bad) (!can n xs bad) ∧ Only (fun k => k = p) w w' ∧ SameB v v' := by
  cases bad with
  | true =>
    refine (next_bad p n w hI.cell1).mono ?_
    rintro e w' ⟨rfl, rfl⟩
    refine ⟨_, v, rfl, .inl ⟨rfl, by simp [nextR, can]⟩, by simpa [nextL, can] using hI, Only.refl _ _, fun k h => h⟩
  | false =>
    by_cases hn : n ≤ xs.length
    · have hcan : can n xs false = true := by simp [can, hn]
      rcases hI.sl with ⟨rfl, rfl⟩ | ⟨g, off, cap, cur, rfl, h1, h2, h3, h4⟩
      · obtain rfl : n = 0 := by simpa using hn
        refine (next_ok0 p w hI.cell1 hI.cell0 (hI.free 0)).mono ?_
        rintro e w' ⟨rfl, rfl⟩
        refine ⟨_, .slice none 0 0, rfl, .inl ⟨rfl, by simp [nextR]⟩, ?_, Only.cell w p _ _, fun k h => h⟩
        rw [hcan]
        simpa [nextL] using hI.set0 (u := .slice none 0 0) (ys := []) (.inl ⟨rfl, rfl⟩)
      · refine (next_ok p g off xs.length cap n w hI.cell1 hI.cell0 (hI.free 0) hn h1 (by unfold maxLen at h2; omega)).mono ?_
        rintro e w' ⟨rfl, rfl⟩
        have ht := (SlB.take h1 h2 h3 h4 hn).setCell hI.at' (by decide) 0 (.slice (some (if n < cap then ⟨g, off + n, none⟩ else ⟨g, off, none⟩)) (xs.length - n) (cap - n))
        have hd := hI.set0 (SlB.drop h1 h2 h3 h4 hn)
        refine ⟨_, _, rfl, by simpa [nextR, hcan] using ht, by simpa [nextL, hcan] using hd, Only.cell w p _ _, fun k h => by simp only [blkV] at h ⊢; split at h <;> exact h⟩
    · have hcan : can n xs false = false := by simp [can]; omega
      obtain ⟨ao, cap, rfl, _⟩ := hI.sl.shape
      refine (next_short p ao xs.length cap n w hI.cell1 hI.cell0 (hI.free 1) (by omega)).mono ?_
      rintro e w' ⟨rfl, rfl⟩
      refine ⟨_, _, rfl, .inl ⟨rfl, by simp [nextR, hcan]⟩, by simpa [nextL, hcan] using hI.set1 true, Only.cell w p _ _, fun k h => h⟩

set_option maxHeartbeats 400000 in
theorem number_blk (p n : Nat) (v : Value) (xs : List UInt8) (bad : Bool) (w : World) (hI : InV w p v xs bad) (hn8 : n ≤ 8) :
    Calls Tryd.prog 80 #[.pointer (some ⟨p, 0, none⟩), .int .i64 n] w (UPostB .u64 w p n v xs bad) := by
  go_enter Tryd.func80, Tryd.ntmps80
  go_wp2_with fail
  refine (next_blk p n v xs bad w hI).mono ?_
  rintro e w1 ⟨r, v', rfl, hr, hI', ho, hsb⟩
  obtain ⟨ys, hys⟩ : ∃ ys, ys = nextR n xs bad := ⟨_, rfl⟩
  rw [← hys] at hr
  have hl8 : ys.length ≤ 8 := by rw [hys]; unfold nextR; split <;> simp; omega
  obtain ⟨ao, cap, hre, hlc, hcm⟩ := hr.shape
  have HSB := Lib.hid hsb; clear hsb
  have HR := Lib.hid hr; clear hr
  have HY := Lib.hid hys; clear hys
  have HI' := Lib.hid hI'; clear hI'
  have HO := Lib.hid ho; clear ho
  have HI := Lib.hid hI; clear hI
  subst hre
  go_wp2_with fail
  go_loop [5, 12] (fun x i => ∃ k : Nat, k ≤ ys.length ∧ i = .int .i64 k ∧ x = .int .u64 (numB (ys.take k))) (fun _ i => ys.length - (intOf i).toNat)
  case atStart => exact ⟨0, Nat.zero_le _, rfl, rfl⟩
  case round =>
    obtain ⟨k, hk, rfl, rfl⟩ := hrel
    by_cases hlt : k < ys.length
    · obtain ⟨g, off, hao, hcell⟩ := HR.out.cells hlt
      have hbd : (ys.getD k 0).toNat < 256 := (ys.getD k 0).toNat_lt
      have hnb := Lib.hid (numB_take_lt ys k hlt hl8)
      have hnb' := hnb.out
      have hbd' := Lib.hid hbd
      have HT := Lib.hid (take_snoc8 ys k hlt)
      have HG : Hid (ys.getD k 0 = ys[k]) := by simp [Hid, hlt]
      subst hao
      go_wp2
      go_round
      case rel =>
        refine ⟨k + 1, by omega, by go_num, ?_⟩
        rw [← HG.out, or_step _ _ hnb.out hbd'.out, HT.out, numB_snoc]
      case measure => simp [intOf]; omega
    · have hke : k = ys.length := by omega
      go_wp2
      go_ret
      refine ⟨v', ?_, HI'.out, HO.out, HSB.out⟩
      rw [← HY.out]
      rfl

set_option maxHeartbeats 400000 in
theorem inU64_blk (p : Nat) (v : Value) (xs : List UInt8) (bad : Bool) (w : World) (hI : InV w p v xs bad) :
    Calls Tryd.prog 82 #[.pointer (some ⟨p, 0, none⟩)] w (UPostB .u64 w p 8 v xs bad) := by
  go_enter Tryd.func82, Tryd.ntmps82
  go_wp2_with fail
  refine (number_blk p 8 v xs bad w hI (by omega)).mono ?_
  rintro e w1 ⟨v', rfl, hI', ho, hsb⟩
  have HI' := Lib.hid hI'; clear hI'
  have HO := Lib.hid ho; clear ho
  have HSB := Lib.hid hsb; clear hsb
  go_wp2
  go_ret
  exact ⟨v', rfl, HI'.out, HO.out, HSB.out⟩

theorem own_inU64 {w0 w : World} {p : Nat} {xs : List UInt8} {bad : Bool} {J : Res} [Stab J] (h : Own w0 w (Sep (InR p xs bad) J)) :
    Calls Tryd.prog 82 #[.pointer (some ⟨p, 0, none⟩)] w fun e w' => e = .returned (.int .u64 (numB (nextR 8 xs bad))) ∧ Own w0 w' (Sep (InR p (nextL 8 xs bad) (!can 8 xs bad)) J) := by
  refine (Own.call (val := fun _ : Unit => .int .u64 (numB (nextR 8 xs bad))) (Q := fun _ => InR p (nextL 8 xs bad) (!can 8 xs bad)) h ?_).mono ?_
  · rintro F B ⟨v, hI, hF⟩ hJ hd h0
    refine (inU64_blk p v xs bad w hI).mono ?_
    rintro e w' ⟨v', rfl, hI', ho, hs⟩
    refine ⟨(), fun k => k = p ∨ blkV v' = some k, rfl, ⟨v', hI', fun k => Iff.rfl⟩, fun k hk => .inl ((hF k).2 (hk.imp id (hs k))), ho.mono fun k _ e => (hF k).2 (.inl e)⟩
  · rintro e w' ⟨_, rfl, hq⟩
    exact ⟨rfl, hq⟩



set_option maxHeartbeats 400000 in
theorem inU8_blk (p : Nat) (v : Value) (xs : List UInt8) (bad : Bool) (w : World) (hI : InV w p v xs bad) :
    Calls Tryd.prog 58 #[.pointer (some ⟨p, 0, none⟩)] w (UPostB .u8 w p 1 v xs bad) := by
  go_enter Tryd.func58, Tryd.ntmps58
  go_wp2_with fail
  refine (number_blk p 1 v xs bad w hI (by omega)).mono ?_
  rintro e w1 ⟨v', rfl, hI', ho, hsb⟩
  have HI' := Lib.hid hI'; clear hI'
  have HO := Lib.hid ho; clear ho
  have HSB := Lib.hid hsb; clear hsb
  have HN := Lib.hid (numN_lt 1 xs bad)
  go_wp2
  go_ret
  refine ⟨v', ?_, HI'.out, HO.out, HSB.out⟩
  have := HN.out
  simp
  omega

theorem own_inU8 {w0 w : World} {p : Nat} {xs : List UInt8} {bad : Bool} {J : Res} [Stab J] (h : Own w0 w (Sep (InR p xs bad) J)) :
    Calls Tryd.prog 58 #[.pointer (some ⟨p, 0, none⟩)] w fun e w' => e = .returned (.int .u8 (numB (nextR 1 xs bad))) ∧ Own w0 w' (Sep (InR p (nextL 1 xs bad) (!can 1 xs bad)) J) := by
  refine (Own.call (val := fun _ : Unit => .int .u8 (numB (nextR 1 xs bad))) (Q := fun _ => InR p (nextL 1 xs bad) (!can 1 xs bad)) h ?_).mono ?_
  · rintro F B ⟨v, hI, hF⟩ hJ hd h0
    refine (inU8_blk p v xs bad w hI).mono ?_
    rintro e w' ⟨v', rfl, hI', ho, hs⟩
    refine ⟨(), fun k => k = p ∨ blkV v' = some k, rfl, ⟨v', hI', fun k => Iff.rfl⟩, fun k hk => .inl ((hF k).2 (hk.imp id (hs k))), ho.mono fun k _ e => (hF k).2 (.inl e)⟩
  · rintro e w' ⟨_, rfl, hq⟩
    exact ⟨rfl, hq⟩

set_option maxHeartbeats 400000 in
theorem to_blk (v : Value) (xs : List UInt8) (w : World) (h : SlC w v xs) (hlen : xs.length ≤ 140737488355328) :
    Calls Tryd.prog 57 #[v] w (ToPostB w xs) := by
  have HC := Lib.hid h
  clear h
  go_enter Tryd.func57, Tryd.ntmps57
  go_wp2_with fail
  refine (clone_any v xs w HC.out hlen).mono ?_
  rintro e w1 ⟨r, rfl, hr, ho⟩
  obtain ⟨ao, cap, rfl⟩ := own_shape hr
  have HR := Lib.hid hr; clear hr
  have HO := Lib.hid ho; clear ho
  go_wp2
  go_ret
  exact ⟨w1.heap.size, _, rfl, ⟨heap_alloc_new w1 _, (own_toB HR.out).alloc _⟩, HO.out.size, HO.out.alloc _, fun k hk => (HR.out.lt k (by rw [← hk]; rfl)).1⟩

theorem own_to {w0 w : World} {I : Res} [Stab I] (h : Own w0 w I) (v : Value) (xs : List UInt8) (hv : SlC w v xs) (hlen : xs.length ≤ 140737488355328) :
    Calls Tryd.prog 57 #[v] w fun e w' => ∃ p, e = .returned (.pointer (some ⟨p, 0, none⟩)) ∧ Own w0 w' (Sep (InR p xs false) I) := by
  refine (to_blk v xs w hv hlen).mono ?_
  rintro e w' ⟨p, u, rfl, hI, hp, ho, hb⟩
  exact ⟨p, rfl, h.fresh ho (B := fun k => k = p ∨ blkV u = some k) ⟨u, hI, fun k => Iff.rfl⟩ (fun k hk => hk.elim (fun e => e ▸ hp) (hb k))⟩

theorem InR.state {w0 w : World} {p : Nat} {xs : List UInt8} {bad : Bool} {J : Res} (h : Own w0 w (Sep (InR p xs bad) J)) : ∃ v, InV w p v xs bad := by
  obtain ⟨F, ⟨v, hI, _⟩, _⟩ := h.fst
  exact ⟨v, hI⟩
theorem own_bad {w0 w : World} {p : Nat} {xs : List UInt8} {bad : Bool} {J : Res} (h : Own w0 w (Sep (InR p xs bad) J)) :
    Calls Tryd.prog 84 #[.pointer (some ⟨p, 0, none⟩)] w fun e w' => e = .returned (.bool bad) ∧ w = w' := by
  obtain ⟨v, hI⟩ := InR.state h
  exact bad_any p bad w hI.cell1
theorem own_left {w0 w : World} {p : Nat} {xs : List UInt8} {bad : Bool} {J : Res} (h : Own w0 w (Sep (InR p xs bad) J)) :
    Calls Tryd.prog 85 #[.pointer (some ⟨p, 0, none⟩)] w fun e w' => e = .returned (.int .i64 xs.length) ∧ w = w' := by
  obtain ⟨v, hI⟩ := InR.state h
  obtain ⟨ao, cap, rfl, _⟩ := hI.sl.shape
  exact left_any p ao xs.length cap w hI.cell0
theorem own_done {w0 w : World} {p : Nat} {xs : List UInt8} {bad : Bool} {J : Res} (h : Own w0 w (Sep (InR p xs bad) J)) :
    Calls Tryd.prog 60 #[.pointer (some ⟨p, 0, none⟩)] w fun e w' => e = .returned (.bool (!bad && xs.isEmpty)) ∧ w = w' := by
  obtain ⟨v, hI⟩ := InR.state h
  exact inDone p v xs bad w hI

end Go.Proofs.YtgkcflindenboaaDoor

namespace Go.Proofs.YtgkcflindenboaaDoor
open Go Go.RowKit
set_option linter.unusedVariables false
set_option linter.unusedSimpArgs false
set_option maxRecDepth 100000
set_option linter.unusedSimpArgs false
set_option maxRecDepth 100000

theorem SameB.trans {a b c : Value} (h : SameB a b) (k : SameB b c) : SameB a c := fun i hi => h i (k i hi)
def FlagPostB (w : World) (p : Nat) (v : Value) (xs : List UInt8) (bad : Bool) (e : Ending) (w' : World) : Prop :=
  ∃ v', e = .returned (.bool (flagR xs bad)) ∧ InV w' p v' (flagL xs bad) (!flagOk xs bad) ∧ Only (fun k => k = p) w w' ∧ SameB v v'
def TextPostB (w : World) (p : Nat) (v : Value) (xs : List UInt8) (bad : Bool) (e : Ending) (w' : World) : Prop :=
  ∃ v', e = .returned (.string ⟨(txtR xs bad).toArray⟩) ∧ InV w' p v' (txtL xs bad) (!txtOk xs bad) ∧ Only (fun k => k = p) w w' ∧ SameB v v'

set_option maxHeartbeats 400000 in
theorem inU16_blk (p : Nat) (v : Value) (xs : List UInt8) (bad : Bool) (w : World) (hI : InV w p v xs bad) :
    Calls Tryd.prog 93 #[.pointer (some ⟨p, 0, none⟩)] w (UPostB .u16 w p 2 v xs bad) := by
  go_enter Tryd.func93, Tryd.ntmps93
  go_wp2_with fail
  refine (number_blk p 2 v xs bad w hI (by omega)).mono ?_
  rintro e w1 ⟨v', rfl, hI', ho, hsb⟩
  have HI' := Lib.hid hI'; clear hI'
  have HO := Lib.hid ho; clear ho
  have HSB := Lib.hid hsb; clear hsb
  have HN := Lib.hid (numN_lt 2 xs bad)
  go_wp2
  go_ret
  refine ⟨v', ?_, HI'.out, HO.out, HSB.out⟩
  have := HN.out
  simp [IntKind.wrap_u16]
  omega

set_option maxHeartbeats 400000 in
theorem flag_empty_b (p : Nat) (v : Value) (bad : Bool) (w : World) (hI : InV w p v [] bad) :
    Calls Tryd.prog 81 #[.pointer (some ⟨p, 0, none⟩)] w (FlagPostB w p v [] bad) := by
  obtain ⟨ao, cap, rfl, _⟩ := hI.sl.shape
  have hc0 := hI.cell0
  simp only [List.length_nil] at hc0
  have HI := Lib.hid hI; clear hI
  go_enter Tryd.func81, Tryd.ntmps81
  go_wp2_with fail
  refine (left_any p ao 0 cap w hc0).mono ?_
  rintro e w' ⟨rfl, rfl⟩
  go_wp2_with fail
  refine (inU8_blk p _ [] bad w HI.out).mono ?_
  rintro e w1 ⟨v', rfl, hI', ho, hsb⟩
  have HSB := Lib.hid hsb; clear hsb
  have HI' := Lib.hid hI'; clear hI'
  have HO := Lib.hid ho; clear ho
  have hn : numB (nextR 1 [] bad) = 0 := by simp [nextR, numB]
  have hcan : can 1 [] bad = false := by simp [can]
  go_wp2
  go_ret
  have h1 := HI'.out
  refine ⟨v', ?_, ?_, HO.out, HSB.out⟩
  · simp [flagR, flagOk, hcan]
  · simpa [flagL, flagOk, hcan, nextL] using h1

set_option maxHeartbeats 400000 in
theorem flag_big_b (p : Nat) (v : Value) (b : UInt8) (xs : List UInt8) (bad : Bool) (w : World) (hI : InV w p v (b :: xs) bad) (hb : 1 < b.toNat) :
    Calls Tryd.prog 81 #[.pointer (some ⟨p, 0, none⟩)] w (FlagPostB w p v (b :: xs) bad) := by
  obtain ⟨ao, cap, rfl, _⟩ := hI.sl.shape
  have hc0 := hI.cell0
  have hf := hI.free 1
  have hc1 := hI.cell1
  obtain ⟨g, off, rfl, hcell⟩ := hI.sl.cells (k := 0) (by simp)
  simp only [List.getD_cons_zero, Nat.add_zero] at hcell
  have hpos : 0 < (b :: xs).length := by simp
  obtain ⟨l, hl⟩ : ∃ l, l = (b :: xs).length := ⟨_, rfl⟩
  rw [← hl] at hc0 hpos
  have HL := Lib.hid hl
  have hpos' : (0 : Int) < (l : Int) := by omega
  have hd : decide ((0 : Int) < (l : Int)) = true := by simpa using hpos
  have HI := Lib.hid hI; clear hI
  clear hl
  go_enter Tryd.func81, Tryd.ntmps81
  go_wp2_with fail
  refine (left_any p _ l cap w hc0).mono ?_
  rintro e w' ⟨rfl, rfl⟩
  go_wp2_with fail
  refine (inU8_blk p _ (b :: xs) true _ (HI.out.set1 true)).mono ?_
  rintro e w1 ⟨v', rfl, hI', ho, hsb⟩
  have HSB := Lib.hid hsb; clear hsb
  have HI' := Lib.hid hI'; clear hI'
  have HO := Lib.hid ho; clear ho
  have hn : numB (nextR 1 (b :: xs) true) = 0 := by simp [nextR, can, numB]
  go_wp2
  go_ret
  have h1 := HI'.out
  have hok : flagOk (b :: xs) bad = false := by simp [flagOk]; intro _; omega
  refine ⟨v', ?_, ?_, (Only.cell w p 1 _).trans HO.out (fun _ _ h => h), HSB.out⟩
  · simp [flagR, hok]
  · simpa [flagL, hok, nextL, can] using h1

set_option maxHeartbeats 400000 in
theorem flag_small_b (p : Nat) (v : Value) (b : UInt8) (xs : List UInt8) (bad : Bool) (w : World) (hI : InV w p v (b :: xs) bad) (hb : b.toNat ≤ 1) :
    Calls Tryd.prog 81 #[.pointer (some ⟨p, 0, none⟩)] w (FlagPostB w p v (b :: xs) bad) := by
  obtain ⟨ao, cap, rfl, _⟩ := hI.sl.shape
  have hc0 := hI.cell0
  obtain ⟨g, off, rfl, hcell⟩ := hI.sl.cells (k := 0) (by simp)
  simp only [List.getD_cons_zero, Nat.add_zero] at hcell
  have hpos : 0 < (b :: xs).length := by simp
  obtain ⟨l, hl⟩ : ∃ l, l = (b :: xs).length := ⟨_, rfl⟩
  rw [← hl] at hc0 hpos
  have HL := Lib.hid hl
  have hpos' : (0 : Int) < (l : Int) := by omega
  have hd : decide ((0 : Int) < (l : Int)) = true := by simpa using hpos
  have hb' : ¬ (1 : Int) < (b.toNat : Int) := by omega
  have HI := Lib.hid hI; clear hI
  clear hl
  go_enter Tryd.func81, Tryd.ntmps81
  go_wp2_with fail
  refine (left_any p _ l cap w hc0).mono ?_
  rintro e w' ⟨rfl, rfl⟩
  go_wp2_with fail
  refine (inU8_blk p _ (b :: xs) bad _ HI.out).mono ?_
  rintro e w1 ⟨v', rfl, hI', ho, hsb⟩
  have HSB := Lib.hid hsb; clear hsb
  have HI' := Lib.hid hI'; clear hI'
  have HO := Lib.hid ho; clear ho
  go_wp2
  go_ret
  have h1 := HI'.out
  have hok : flagOk (b :: xs) bad = can 1 (b :: xs) bad := by simp [flagOk]; intro _; omega
  refine ⟨v', ?_, ?_, HO.out, HSB.out⟩
  · simp only [flagR, hok]
    cases bad
    · simp [can, nextR, numB]
      rw [Bool.eq_iff_iff]; simp; omega
    · simp [can, nextR, numB]
  · simpa [flagL, hok, nextL] using h1

theorem inFlag_blk (p : Nat) (v : Value) (xs : List UInt8) (bad : Bool) (w : World) (hI : InV w p v xs bad) :
    Calls Tryd.prog 81 #[.pointer (some ⟨p, 0, none⟩)] w (FlagPostB w p v xs bad) := by
  cases xs with
  | nil => exact flag_empty_b p v bad w hI
  | cons b xs =>
    by_cases hb : b.toNat ≤ 1
    · exact flag_small_b p v b xs bad w hI hb
    · exact flag_big_b p v b xs bad w hI (by omega)
set_option maxHeartbeats 400000 in
theorem text_bad_b (p : Nat) (v : Value) (xs : List UInt8) (w : World) (hI : InV w p v xs true) :
    Calls Tryd.prog 83 #[.pointer (some ⟨p, 0, none⟩)] w (TextPostB w p v xs true) := by
  have hc1 := hI.cell1
  have HI := Lib.hid hI; clear hI
  go_enter Tryd.func83, Tryd.ntmps83
  go_wp2_with fail
  refine (bad_any p true w hc1).mono ?_
  rintro e w' ⟨rfl, rfl⟩
  go_wp2
  go_ret
  exact ⟨v, by simp [txtR, txtOk, can], by simpa [txtL, txtOk, can] using HI.out, Only.refl _ _, fun k h => h⟩
set_option maxHeartbeats 400000 in
theorem text_good_b (p : Nat) (v : Value) (xs : List UInt8) (w : World) (hI : InV w p v xs false) :
    Calls Tryd.prog 83 #[.pointer (some ⟨p, 0, none⟩)] w (TextPostB w p v xs false) := by
  obtain ⟨ao, cap, rfl, _⟩ := hI.sl.shape
  have hc1 := hI.cell1
  have hc0 := hI.cell0
  have HI := Lib.hid hI; clear hI
  go_enter Tryd.func83, Tryd.ntmps83
  go_wp2_with fail
  refine (bad_any p false w hc1).mono ?_
  rintro e w' ⟨rfl, rfl⟩
  go_wp2_with fail
  refine (inU16_blk p _ xs false w HI.out).mono ?_
  rintro e w1 ⟨v1, rfl, hI1, ho1, hs1⟩
  have HS1 := Lib.hid hs1; clear hs1
  have HI1 := Lib.hid hI1; clear hI1
  have HO1 := Lib.hid ho1; clear ho1
  clear hc0 hc1
  obtain ⟨n, hn⟩ : ∃ n, n = numB (nextR 2 xs false) := ⟨_, rfl⟩
  have hlt : n < 65536 := by rw [hn]; exact numN_lt 2 xs false
  rw [← hn]
  have HN := Lib.hid hn; clear hn
  go_wp2_with fail
  refine (next_blk p n v1 _ _ w1 HI1.out).mono ?_
  rintro e w2 ⟨r, v2, rfl, hr, hI2, ho2, hs2⟩
  have HS2 := Lib.hid hs2; clear hs2
  obtain ⟨zs, hz⟩ : ∃ zs, zs = nextR n (nextL 2 xs false) (!can 2 xs false) := ⟨_, rfl⟩
  obtain ⟨b2, hb2⟩ : ∃ b2, b2 = !can n (nextL 2 xs false) (!can 2 xs false) := ⟨_, rfl⟩
  rw [← hz] at hr
  rw [← hb2] at hI2
  have hcv := run_str hr
  have hc1 := hI2.cell1
  have hc0 := hI2.cell0
  have hf := hI2.free 0
  have HI2 := Lib.hid hI2; clear hI2
  have HO2 := Lib.hid ho2; clear ho2
  have HZ := Lib.hid hz; clear hz
  have HB := Lib.hid hb2; clear hb2
  have HR := Lib.hid hr; clear hr
  cases b2 with
  | false =>
    go_wp2
    go_ret
    have hok := text_ok xs false (by rw [← HN.out]; exact HB.out)
    have hres := text_res xs hok
    rw [← HN.out] at hres
    refine ⟨v2, ?_, ?_, HO1.out.trans HO2.out (fun _ _ h => h), HS1.out.trans HS2.out⟩
    · rw [hres.1, ← HZ.out]; rfl
    · rw [hres.2, hok]; exact HI2.out
  | true =>
    go_wp2
    go_ret
    have hok := text_ok xs true (by rw [← HN.out]; exact HB.out)
    refine ⟨.slice ao xs.length cap, ?_, ?_, (HO1.out.trans HO2.out (fun _ _ h => h)).trans (Only.cell _ _ _ _) (fun _ _ h => h), fun k h => h⟩
    · have : zs = [] := by
        have h1 := HZ.out
        have h2 := HB.out
        simp only [nextR] at h1
        rw [if_neg (by simp at h2; simp [h2])] at h1
        exact h1
      rw [this]
      simp [txtR, hok]
    · simpa [txtL, hok] using HI.out.back HI2.out (HO1.out.trans HO2.out (fun _ _ h => h))

theorem inText_blk (p : Nat) (v : Value) (xs : List UInt8) (bad : Bool) (w : World) (hI : InV w p v xs bad) :
    Calls Tryd.prog 83 #[.pointer (some ⟨p, 0, none⟩)] w (TextPostB w p v xs bad) := by
  cases bad with
  | true => exact text_bad_b p v xs w hI
  | false => exact text_good_b p v xs w hI

theorem own_inFlag {w0 w : World} {p : Nat} {xs : List UInt8} {bad : Bool} {J : Res} [Stab J] (h : Own w0 w (Sep (InR p xs bad) J)) :
    Calls Tryd.prog 81 #[.pointer (some ⟨p, 0, none⟩)] w fun e w' => e = .returned (.bool (flagR xs bad)) ∧ Own w0 w' (Sep (InR p (flagL xs bad) (!flagOk xs bad)) J) := by
  refine (Own.call (val := fun _ : Unit => .bool (flagR xs bad)) (Q := fun _ => InR p (flagL xs bad) (!flagOk xs bad)) h ?_).mono ?_
  · rintro F B ⟨v, hI, hF⟩ hJ hd h0
    refine (inFlag_blk p v xs bad w hI).mono ?_
    rintro e w' ⟨v', rfl, hI', ho, hs⟩
    refine ⟨(), fun k => k = p ∨ blkV v' = some k, rfl, ⟨v', hI', fun k => Iff.rfl⟩, fun k hk => .inl ((hF k).2 (hk.imp id (hs k))), ho.mono fun k _ e => (hF k).2 (.inl e)⟩
  · rintro e w' ⟨_, rfl, hq⟩
    exact ⟨rfl, hq⟩
theorem own_inText {w0 w : World} {p : Nat} {xs : List UInt8} {bad : Bool} {J : Res} [Stab J] (h : Own w0 w (Sep (InR p xs bad) J)) :
    Calls Tryd.prog 83 #[.pointer (some ⟨p, 0, none⟩)] w fun e w' => e = .returned (.string ⟨(txtR xs bad).toArray⟩) ∧ Own w0 w' (Sep (InR p (txtL xs bad) (!txtOk xs bad)) J) := by
  refine (Own.call (val := fun _ : Unit => .string ⟨(txtR xs bad).toArray⟩) (Q := fun _ => InR p (txtL xs bad) (!txtOk xs bad)) h ?_).mono ?_
  · rintro F B ⟨v, hI, hF⟩ hJ hd h0
    refine (inText_blk p v xs bad w hI).mono ?_
    rintro e w' ⟨v', rfl, hI', ho, hs⟩
    refine ⟨(), fun k => k = p ∨ blkV v' = some k, rfl, ⟨v', hI', fun k => Iff.rfl⟩, fun k hk => .inl ((hF k).2 (hk.imp id (hs k))), ho.mono fun k _ e => (hF k).2 (.inl e)⟩
  · rintro e w' ⟨_, rfl, hq⟩
    exact ⟨rfl, hq⟩

end Go.Proofs.YtgkcflindenboaaDoor

namespace Go.Proofs.YtgkcflindenboaaDoor
open Go Go.RowKit
set_option linter.unusedVariables false
set_option linter.unusedSimpArgs false
set_option maxRecDepth 100000
set_option linter.unusedSimpArgs false
set_option maxRecDepth 100000

theorem Own.three {w0 w : World} {k : Nat} {t : TypeId} {a0 a1 a2 : Value} {J : Res} [Stab J] (h : Own w0 w (Sep (Blk k (.cells #[a0, a1, a2] t (0, 0))) J)) (u0 u1 u2 : Value) :
    Own w0 (((w.setCell ⟨k, 0, none⟩ u0).setCell ⟨k, 1, none⟩ u1).setCell ⟨k, 2, none⟩ u2) J :=
  (((h.store 0 u0).store 1 u1).store 2 u2).snd
theorem flag_bad (k : Int) (xs : List UInt8) : flagR xs true = false ∧ flagOk xs true = false := by
  constructor <;> simp [flagR, flagOk, can]
theorem flag_yes (k : Int) {xs : List UInt8} {bad : Bool} (h : flagR xs bad = true) : bad = false ∧ flagOk xs bad = true ∧ take1 k xs = some (⟨0, 0, []⟩, flagL xs bad) := by
  cases bad with
  | true => simp [flagR, flagOk, can] at h
  | false =>
    cases xs with
    | nil => simp [flagR, flagOk, can] at h
    | cons b r =>
      simp only [flagR, Bool.and_eq_true, decide_eq_true_eq, List.headD_cons] at h
      have hb : b = 1 := UInt8.toNat_inj.1 (of_decide_eq_true h.2)
      refine ⟨rfl, h.1, ?_⟩
      subst hb
      simp [flagL, h.1, take1]
theorem flag_no (k : Int) {xs : List UInt8} (h : flagR xs false = false) : take1 k xs = if flagOk xs false = true then rawT k (flagL xs false) else none := by
  cases xs with
  | nil => simp [flagOk, can, take1]
  | cons b r =>
    have h1 : b ≠ 1 := by
      rintro rfl
      simp [flagR, flagOk, can] at h
    show (if b = 1 then some ((⟨0, 0, []⟩ : Vl), r) else if b = 0 then rawT k r else none) = _
    rw [if_neg h1]
    by_cases h0 : b = 0
    · subst h0
      rw [if_pos rfl]
      simp [flagOk, can, flagL]
    · rw [if_neg h0, if_neg]
      intro hk
      have hle : b.toNat ≤ 1 := by simpa [flagOk, can] using hk
      have : b.toNat = 0 ∨ b.toNat = 1 := by omega
      rcases this with e | e
      · exact h0 (UInt8.toNat_inj.1 e)
      · exact h1 (UInt8.toNat_inj.1 e)
theorem raw_num {k : Int} (hk : k = 1 ∨ k = 2) (r : List UInt8) : rawT k r = if (!can 8 r false) = true then none else some (⟨k, numB (nextR 8 r false), []⟩, nextL 8 r false) := by
  unfold rawT
  rw [if_pos hk]
  by_cases h : r.length < 8
  · have : can 8 r false = false := by simp [can]; omega
    rw [if_pos h, this]
    rfl
  · have : can 8 r false = true := by simp [can]; omega
    rw [if_neg h]
    simp [nextR, nextL, this]
theorem raw_bool (r : List UInt8) : rawT 3 r = if (!can 1 r false) = true then none else some (⟨3, numB (nextR 1 r false), []⟩, nextL 1 r false) := by
  unfold rawT
  rw [if_neg (by omega), if_pos rfl]
  cases r with
  | nil => simp [can]
  | cons b q => simp [can, nextR, nextL, numB]
theorem raw_text {k : Int} (h1 : ¬ (k = 1 ∨ k = 2)) (h3 : k ≠ 3) (r : List UInt8) : rawT k r = if (!txtOk r false) = true then none else some (⟨k, 0, txtR r false⟩, txtL r false) := by
  unfold rawT
  rw [if_neg h1, if_neg h3]
  by_cases h : r.length < 2 + numB (r.take 2)
  · have : txtOk r false = false := by
      rw [← Bool.not_eq_true]
      simp only [txtOk, can, txtN, Bool.and_eq_true, decide_eq_true_eq, List.length_drop, not_and, Bool.not_false, true_and]
      omega
    rw [if_pos h, this]
    rfl
  · have : txtOk r false = true := by
      simp only [txtOk, can, txtN, Bool.and_eq_true, decide_eq_true_eq, List.length_drop, Bool.not_false, true_and]
      omega
    rw [if_neg h]
    simp [txtR, txtL, this, txtN]
theorem can_bad (n : Nat) (xs : List UInt8) : can n xs true = false := by simp [can]
theorem txt_bad (xs : List UInt8) : txtOk xs true = false := by simp [txtOk, can]
theorem num8_lt (r : List UInt8) (b : Bool) : numB (nextR 8 r b) < 18446744073709551616 := by
  have := numN_lt 8 r b
  rwa [pow8] at this

/-- What take answers, and where its In stands then. -/
def TakePost (w0 : World) (p : Nat) (k : Int) (xs : List UInt8) (bad : Bool) (J : Res) (e : Ending) (w' : World) : Prop :=
  ∃ (v : Vv) (l' : List UInt8) (bad' : Bool), e = .returned (vlv v.K v.N v.S) ∧ U64 v.N ∧ (bad = true → bad' = true) ∧ (bad = false → take1 k xs = if bad' = true then none else some (v.vl, l')) ∧ Own w0 w' (Sep (InR p l' bad') J)
/-- Behind the flag: what the kind's own bytes make. -/
theorem take_num {k : Int} (hk : k = 1 ∨ k = 2) {xs : List UInt8} {bad : Bool} (h : flagR xs bad = false) :
    (bad = true → (!can 8 (flagL xs bad) (!flagOk xs bad)) = true) ∧ (bad = false → take1 k xs = if (!can 8 (flagL xs bad) (!flagOk xs bad)) = true then none else some (⟨k, numB (nextR 8 (flagL xs bad) (!flagOk xs bad)), []⟩, nextL 8 (flagL xs bad) (!flagOk xs bad))) := by
  refine ⟨fun e => by rw [e, (flag_bad k xs).2, Bool.not_false, can_bad]; rfl, fun e => ?_⟩
  subst e
  rw [flag_no k h]
  by_cases ho : flagOk xs false = true
  · rw [if_pos ho, ho, Bool.not_true, raw_num hk]
  · have ho2 : flagOk xs false = false := by simpa using ho
    rw [if_neg ho, ho2, Bool.not_false, can_bad]
    rfl
theorem take_bool {xs : List UInt8} {bad : Bool} (h : flagR xs bad = false) :
    (bad = true → (!can 1 (flagL xs bad) (!flagOk xs bad)) = true) ∧ (bad = false → take1 3 xs = if (!can 1 (flagL xs bad) (!flagOk xs bad)) = true then none else some (⟨3, numB (nextR 1 (flagL xs bad) (!flagOk xs bad)), []⟩, nextL 1 (flagL xs bad) (!flagOk xs bad))) := by
  refine ⟨fun e => by rw [e, (flag_bad 3 xs).2, Bool.not_false, can_bad]; rfl, fun e => ?_⟩
  subst e
  rw [flag_no 3 h]
  by_cases ho : flagOk xs false = true
  · rw [if_pos ho, ho, Bool.not_true, raw_bool]
  · have ho2 : flagOk xs false = false := by simpa using ho
    rw [if_neg ho, ho2, Bool.not_false, can_bad]
    rfl
theorem take_text {k : Int} (h1 : ¬ (k = 1 ∨ k = 2)) (h3 : k ≠ 3) {xs : List UInt8} {bad : Bool} (h : flagR xs bad = false) :
    (bad = true → (!txtOk (flagL xs bad) (!flagOk xs bad)) = true) ∧ (bad = false → take1 k xs = if (!txtOk (flagL xs bad) (!flagOk xs bad)) = true then none else some (⟨k, 0, txtR (flagL xs bad) (!flagOk xs bad)⟩, txtL (flagL xs bad) (!flagOk xs bad))) := by
  refine ⟨fun e => by rw [e, (flag_bad k xs).2, Bool.not_false, txt_bad]; rfl, fun e => ?_⟩
  subst e
  rw [flag_no k h]
  by_cases ho : flagOk xs false = true
  · rw [if_pos ho, ho, Bool.not_true, raw_text h1 h3]
  · have ho2 : flagOk xs false = false := by simpa using ho
    rw [if_neg ho, ho2, Bool.not_false, txt_bad]
    rfl

set_option maxHeartbeats 2000000 in
theorem take_any {w0 w : World} {p : Nat} {xs : List UInt8} {bad : Bool} {J : Res} [Stab J] (h : Own w0 w (Sep (InR p xs bad) J)) (k : Int) (hk1 : 1 ≤ k) (hk5 : k ≤ 5) :
    Calls Tryd.prog 59 #[.pointer (some ⟨p, 0, none⟩), .int .i64 k] w (TakePost w0 p k xs bad J) := by
  have HA := Lib.hid (h.alloc (.cells #[.int .i64 0, .int .u64 0, .string ⟨#[]⟩] 42))
  clear h
  obtain ⟨fl, hfl⟩ : ∃ fl, flagR xs bad = fl := ⟨_, rfl⟩
  have HFL := Lib.hid hfl
  obtain ⟨rb0, hrb⟩ : ∃ rb0, w.heap.size = rb0 := ⟨_, rfl⟩
  rw [hrb] at HA
  have HRB := Lib.hid hrb
  have HFC : Hid (Calls Tryd.prog 81 #[.pointer (some ⟨p, 0, none⟩)] (w.alloc (.cells #[.int .i64 0, .int .u64 0, .string ⟨#[]⟩] 42)) fun e w' => e = .returned (.bool fl) ∧ Own w0 w' (Sep (InR p (flagL xs bad) (!flagOk xs bad)) (Sep (Blk rb0 (.cells #[.int .i64 0, .int .u64 0, .string ⟨#[]⟩] 42 (0, 0))) J))) := Lib.hid (by
    have := own_inFlag HA.out.swap
    rwa [hfl] at this)
  clear hfl
  cases fl with
  | true =>
    obtain ⟨f1, f2, f3⟩ := flag_yes k HFL.out
    have HP := Lib.hid (And.intro f1 (And.intro f2 f3))
    clear f1 f2 f3
    go_enter Tryd.func59, Tryd.ntmps59
    go_wp2_with fail
    refine HFC.out.mono ?_
    rintro e w1 ⟨rfl, h1⟩
    have H1 := Lib.hid h1.swap
    clear h1 HFC HA hrb
    obtain ⟨r0, r1, r2, e0, e1, e2⟩ := blk_cells3 H1.out.held
    go_wp2_with fail
    refine bodyPost_ret (v := vlv 0 0 ⟨#[]⟩) (by simp [results, Tryd.results59, go_sem, r0, r1, r2]) rfl ?_
    refine ⟨⟨0, 0, ⟨#[]⟩⟩, flagL xs bad, !flagOk xs bad, rfl, ⟨by simp, by simp⟩, fun e => ?_, fun e => ?_, H1.out.three _ _ _⟩
    · rw [HP.out.1] at e; cases e
    · rw [HP.out.2.1, HP.out.2.2]
      show _ = some ((⟨0, 0, (ByteArray.mk #[]).toList⟩ : Vl), _)
      rw [ba_nil]
  | false =>
    have hk : k = 1 ∨ k = 2 ∨ k = 3 ∨ k = 4 ∨ k = 5 := by omega
    clear hk1 hk5
    rcases hk with rfl | rfl | rfl | rfl | rfl
    · have HP := Lib.hid (take_num (k := 1) (.inl rfl) HFL.out)
      generalize flagL xs bad = xs1 at *
      generalize (!flagOk xs bad) = bad1 at *
      go_enter Tryd.func59, Tryd.ntmps59
      go_wp2_with fail
      refine HFC.out.mono ?_
      rintro e w1 ⟨rfl, h1⟩
      have H1 := Lib.hid h1
      clear h1 HFC HA hrb
      obtain ⟨x, hx⟩ : ∃ x, numB (nextR 8 xs1 bad1) = x := ⟨_, rfl⟩
      have HX : Hid (x < 18446744073709551616) := Lib.hid (by rw [← hx]; exact num8_lt xs1 bad1)
      have HC := Lib.hid (own_inU64 H1.out)
      rw [hx] at HC HP
      clear hx
      go_wp2_with fail
      refine HC.out.mono ?_
      rintro e w2 ⟨rfl, h2⟩
      have H2 := Lib.hid h2.swap
      clear h2 HC H1
      obtain ⟨r0, r1, r2, e0, e1, e2⟩ := blk_cells3 H2.out.held
      go_wp2_with fail
      refine bodyPost_ret (v := vlv 1 (x : Int) ⟨#[]⟩) (by simp [results, Tryd.results59, go_sem, r0, r1, r2]) rfl ?_
      refine ⟨⟨1, (x : Int), ⟨#[]⟩⟩, _, _, rfl, u64_nat (by have := HX.out; omega), HP.out.1, fun e => ?_, H2.out.three _ _ _⟩
      rw [HP.out.2 e]
      show _ = if _ then _ else some ((⟨1, x, (ByteArray.mk #[]).toList⟩ : Vl), _)
      rw [ba_nil]
    · have HP := Lib.hid (take_num (k := 2) (.inr rfl) HFL.out)
      generalize flagL xs bad = xs1 at *
      generalize (!flagOk xs bad) = bad1 at *
      go_enter Tryd.func59, Tryd.ntmps59
      go_wp2_with fail
      refine HFC.out.mono ?_
      rintro e w1 ⟨rfl, h1⟩
      have H1 := Lib.hid h1
      clear h1 HFC HA hrb
      obtain ⟨x, hx⟩ : ∃ x, numB (nextR 8 xs1 bad1) = x := ⟨_, rfl⟩
      have HX : Hid (x < 18446744073709551616) := Lib.hid (by rw [← hx]; exact num8_lt xs1 bad1)
      have HC := Lib.hid (own_inU64 H1.out)
      rw [hx] at HC HP
      clear hx
      go_wp2_with fail
      refine HC.out.mono ?_
      rintro e w2 ⟨rfl, h2⟩
      have H2 := Lib.hid h2.swap
      clear h2 HC H1
      obtain ⟨r0, r1, r2, e0, e1, e2⟩ := blk_cells3 H2.out.held
      go_wp2_with fail
      refine bodyPost_ret (v := vlv 2 (x : Int) ⟨#[]⟩) (by simp [results, Tryd.results59, go_sem, r0, r1, r2]) rfl ?_
      refine ⟨⟨2, (x : Int), ⟨#[]⟩⟩, _, _, rfl, u64_nat (by have := HX.out; omega), HP.out.1, fun e => ?_, H2.out.three _ _ _⟩
      rw [HP.out.2 e]
      show _ = if _ then _ else some ((⟨2, x, (ByteArray.mk #[]).toList⟩ : Vl), _)
      rw [ba_nil]
    · have HP := Lib.hid (take_bool HFL.out)
      generalize flagL xs bad = xs1 at *
      generalize (!flagOk xs bad) = bad1 at *
      go_enter Tryd.func59, Tryd.ntmps59
      go_wp2_with fail
      refine HFC.out.mono ?_
      rintro e w1 ⟨rfl, h1⟩
      have H1 := Lib.hid h1
      clear h1 HFC HA hrb
      obtain ⟨x, hx⟩ : ∃ x, numB (nextR 1 xs1 bad1) = x := ⟨_, rfl⟩
      have hx2 : x < 256 := by rw [← hx]; exact numN_lt 1 xs1 bad1
      have HC := Lib.hid (own_inU8 H1.out)
      rw [hx] at HC HP
      have hw : IntKind.u64.wrap (x : Int) = (x : Int) := by rw [IntKind.wrap_u64]; omega
      have HX := Lib.hid hx2
      clear hx hx2
      go_wp2_with fail
      refine HC.out.mono ?_
      rintro e w2 ⟨rfl, h2⟩
      have H2 := Lib.hid h2.swap
      clear h2 HC H1
      obtain ⟨r0, r1, r2, e0, e1, e2⟩ := blk_cells3 H2.out.held
      go_wp2_with fail
      refine bodyPost_ret (v := vlv 3 (x : Int) ⟨#[]⟩) (by simp [results, Tryd.results59, go_sem, r0, r1, r2, hw]) rfl ?_
      refine ⟨⟨3, (x : Int), ⟨#[]⟩⟩, _, _, rfl, u64_nat (by have := HX.out; omega), HP.out.1, fun e => ?_, by first | exact H2.out.three _ _ _ | (rw [hw]; exact H2.out.three _ _ _)⟩
      rw [HP.out.2 e]
      show _ = if _ then _ else some ((⟨3, x, (ByteArray.mk #[]).toList⟩ : Vl), _)
      rw [ba_nil]
    · have HP := Lib.hid (take_text (k := 4) (by omega) (by omega) HFL.out)
      generalize flagL xs bad = xs1 at *
      generalize (!flagOk xs bad) = bad1 at *
      go_enter Tryd.func59, Tryd.ntmps59
      go_wp2_with fail
      refine HFC.out.mono ?_
      rintro e w1 ⟨rfl, h1⟩
      have H1 := Lib.hid h1
      clear h1 HFC HA hrb
      have HC := Lib.hid (own_inText H1.out)
      obtain ⟨S, hS⟩ : ∃ S : ByteArray, (⟨(txtR xs1 bad1).toArray⟩ : ByteArray) = S := ⟨_, rfl⟩
      have HS : Hid (txtR xs1 bad1 = S.toList) := Lib.hid (by rw [← hS, ba_mk1])
      rw [hS] at HC
      clear hS
      go_wp2_with fail
      refine HC.out.mono ?_
      rintro e w2 ⟨rfl, h2⟩
      have H2 := Lib.hid h2.swap
      clear h2 HC H1
      obtain ⟨r0, r1, r2, e0, e1, e2⟩ := blk_cells3 H2.out.held
      go_wp2_with fail
      refine bodyPost_ret (v := vlv 4 0 S) (by simp [results, Tryd.results59, go_sem, r0, r1, r2]) rfl ?_
      refine ⟨⟨4, 0, S⟩, _, _, rfl, ⟨by simp, by simp⟩, HP.out.1, fun e => ?_, H2.out.three _ _ _⟩
      rw [HP.out.2 e, HS.out]
      rfl
    · have HP := Lib.hid (take_text (k := 5) (by omega) (by omega) HFL.out)
      generalize flagL xs bad = xs1 at *
      generalize (!flagOk xs bad) = bad1 at *
      go_enter Tryd.func59, Tryd.ntmps59
      go_wp2_with fail
      refine HFC.out.mono ?_
      rintro e w1 ⟨rfl, h1⟩
      have H1 := Lib.hid h1
      clear h1 HFC HA hrb
      have HC := Lib.hid (own_inText H1.out)
      obtain ⟨S, hS⟩ : ∃ S : ByteArray, (⟨(txtR xs1 bad1).toArray⟩ : ByteArray) = S := ⟨_, rfl⟩
      have HS : Hid (txtR xs1 bad1 = S.toList) := Lib.hid (by rw [← hS, ba_mk1])
      rw [hS] at HC
      clear hS
      go_wp2_with fail
      refine HC.out.mono ?_
      rintro e w2 ⟨rfl, h2⟩
      have H2 := Lib.hid h2.swap
      clear h2 HC H1
      obtain ⟨r0, r1, r2, e0, e1, e2⟩ := blk_cells3 H2.out.held
      go_wp2_with fail
      refine bodyPost_ret (v := vlv 5 0 S) (by simp [results, Tryd.results59, go_sem, r0, r1, r2]) rfl ?_
      refine ⟨⟨5, 0, S⟩, _, _, rfl, ⟨by simp, by simp⟩, HP.out.1, fun e => ?_, H2.out.three _ _ _⟩
      rw [HP.out.2 e, HS.out]
      rfl

end Go.Proofs.YtgkcflindenboaaDoor

namespace Go.Proofs.YtgkcflindenboaaDoor
open Go Go.RowKit
set_option linter.unusedVariables false
set_option linter.unusedSimpArgs false
set_option maxRecDepth 100000
set_option linter.unusedSimpArgs false
set_option maxRecDepth 100000

theorem vv_ways (a b : Vv) : a = b ∨ (a ≠ b ∧ (a.K == b.K) = false) ∨ (a ≠ b ∧ a.K = b.K ∧ (a.N == b.N) = false) ∨ (a ≠ b ∧ a.K = b.K ∧ a.N = b.N ∧ (a.S.toList == b.S.toList) = false) := by
  obtain ⟨K, N, S⟩ := a
  obtain ⟨L, M, T⟩ := b
  by_cases h1 : K = L
  · by_cases h2 : N = M
    · by_cases h3 : S.toList = T.toList
      · left; rw [h1, h2, ba_eq h3]
      · exact .inr (.inr (.inr ⟨fun e => h3 (by injection e with _ _ e; rw [e]), h1, h2, by simpa using h3⟩))
    · exact .inr (.inr (.inl ⟨fun e => h2 (by injection e), h1, by simpa using h2⟩))
  · exact .inr (.inl ⟨fun e => h1 (by injection e), by simpa using h1⟩)
theorem vv_ext {a b : Vv} (ha : U64 a.N) (hb : U64 b.N) (h : a.vl = b.vl) : a = b := by
  obtain ⟨K, N, S⟩ := a
  obtain ⟨L, M, T⟩ := b
  simp only [Vv.vl, Vl.mk.injEq] at h
  have := ha.lo; have := hb.lo
  simp only at *
  obtain ⟨h1, h2, h3⟩ := h
  rw [h1, ba_eq h3, show N = M by omega]
theorem vv_map : ∀ {xs ys : List Vv}, (∀ v ∈ xs, U64 v.N) → (∀ v ∈ ys, U64 v.N) → xs.map Vv.vl = ys.map Vv.vl → xs = ys
  | [], [], _, _, _ => rfl
  | a :: xs, b :: ys, ha, hb, h => by
    simp only [List.map_cons, List.cons.injEq] at h
    rw [vv_ext (ha a (by simp)) (hb b (by simp)) h.1, vv_map (fun v hv => ha v (by simp [hv])) (fun v hv => hb v (by simp [hv])) h.2]
  | [], _ :: _, _, _, h => by simp at h
  | _ :: _, [], _, _, h => by simp at h
theorem take_vv {l : List Vv} {k : Nat} (h : k < l.length) : l.take (k + 1) = l.take k ++ [l.getD k default] := by
  rw [List.take_succ_eq_append_getElem h]
  simp [h]
/-- What Values answers. -/
def ValuesPost (xs ys : List Vv) (w : World) (e : Ending) (w' : World) : Prop :=
  ∃ r : Bool, e = .returned (.bool r) ∧ (r = true ↔ xs = ys) ∧ Only (fun _ => False) w w'

set_option maxHeartbeats 4000000 in
theorem values_any (ao bo : Option Addr) (n c m d : Nat) (xs ys : List Vv) (w : World) (ha : SlV w ao xs) (hb : SlV w bo ys) (hn : n = xs.length) (hm : m = ys.length) (hn47 : n ≤ 140737488355328) (hm47 : m ≤ 140737488355328) :
    Calls Tryd.prog 10 #[.slice ao n c, .slice bo m d] w fun e w' => ValuesPost xs ys w e w' := by
  have HA := Lib.hid ha
  have HB := Lib.hid hb
  have HN := Lib.hid hn
  have HM := Lib.hid hm
  clear ha hb hn hm
  by_cases hnm : m = n
  · subst hnm
    go_enter Tryd.func10, Tryd.ntmps10
    go_wp2_with fail
    go_loopw [5] (fun i wr => ∃ (k : Nat), k ≤ m ∧ i = .int .i64 (k : Int) ∧ Hid (xs.take k = ys.take k) ∧ Hid (Only (fun _ => False) w wr)) (fun i _ => m - (intOf i).toNat)
    case atStart => exact ⟨0, Nat.zero_le _, rfl, Lib.hid rfl, Lib.hid (Only.refl _ _)⟩
    case round =>
      obtain ⟨k, hk, rfl, HS, HO⟩ := hrel
      by_cases hlt : k < m
      · have HKA : Hid (k < xs.length) := Lib.hid (by rw [← HN.out]; exact hlt)
        have HKB : Hid (k < ys.length) := Lib.hid (by rw [← HM.out]; exact hlt)
        obtain ⟨g, off, rfl, hva⟩ := (HA.out.keep HO.out) k HKA.out
        obtain ⟨g2, off2, rfl, hvb⟩ := (HB.out.keep HO.out) k HKB.out
        obtain ⟨v, hve⟩ : ∃ v, xs.getD k default = v := ⟨_, rfl⟩
        obtain ⟨u, hue⟩ : ∃ u, ys.getD k default = u := ⟨_, rfl⟩
        have HTA := Lib.hid (take_vv HKA.out)
        have HTB := Lib.hid (take_vv HKB.out)
        rw [hve] at hva HTA
        rw [hue] at hvb HTB
        clear hve hue
        obtain ⟨y0, y1, y2, hu1⟩ := hva
        obtain ⟨x0, x1, x2, hu2⟩ := hvb
        have hltI : (k : Int) < (m : Int) := by omega
        clear hu1 hu2
        have HNE : Hid (v ≠ u → xs ≠ ys) := Lib.hid (fun h e => h (by
          have e1 : xs.take (k + 1) = ys.take (k + 1) := by rw [e]
          rw [HTA.out, HTB.out, HS.out] at e1
          simpa using List.append_cancel_left e1))
        rcases vv_ways v u with rfl | ⟨hne, h1⟩ | ⟨hne, h1, h2⟩ | ⟨hne, h1, h2, h3⟩
        · go_wp2_with fail
          go_quiet (fail)
          clear y0 y1 y2 x0 x1 x2
          have H2 := Lib.hid (HO.out.drewN nq)
          go_wp2_with fail
          go_roundw
          case rel => exact ⟨k + 1, by omega, by go_num, Lib.hid (by rw [HTA.out, HTB.out, HS.out]), H2⟩
          case measure => simp [intOf]; omega
        all_goals
          have HF := Lib.hid (HNE.out hne)
          clear hne HNE
          go_wp2_with fail
          go_quiet (fail)
          clear y0 y1 y2 x0 x1 x2
          have H2 := Lib.hid (HO.out.drewN nq)
          go_wp2_with fail
          go_ret
          exact ⟨false, rfl, ⟨(fun h => by cases h), fun h => (HF.out h).elim⟩, H2.out⟩
      · obtain rfl : k = m := by omega
        have HE : Hid (xs = ys) := Lib.hid (by
          have := HS.out
          rwa [List.take_of_length_le (by rw [HN.out]; exact Nat.le_refl _), List.take_of_length_le (by rw [HM.out]; exact Nat.le_refl _)] at this)
        have hltI : ¬ (k : Int) < (k : Int) := by omega
        go_wp2_with fail
        go_ret
        exact ⟨true, rfl, ⟨fun _ => HE.out, fun _ => rfl⟩, HO.out⟩
  · have hne : ((n : Int) != (m : Int)) = true := by simp; omega
    have HE : Hid (xs ≠ ys) := Lib.hid (fun h => hnm (by rw [HM.out, HN.out, h]))
    go_enter Tryd.func10, Tryd.ntmps10
    go_wp2
    go_ret
    exact ⟨false, rfl, ⟨(fun h => by cases h), fun h => (HE.out h).elim⟩, Only.refl _ _⟩

theorem vcells_at : ∀ (l : List Vv) (j : Nat), j < l.length → (vcells l)[j * 3]? = some (.int .i64 (l.getD j default).K) ∧ (vcells l)[j * 3 + 1]? = some (.int .u64 (l.getD j default).N) ∧ (vcells l)[j * 3 + 2]? = some (.string (l.getD j default).S)
  | [], j, h => by simp at h
  | v :: l, 0, _ => by simp [vcells]
  | v :: l, j + 1, h => by
    have ih := vcells_at l j (by simpa using h)
    have e : ∀ i, (vcells (v :: l))[(j + 1) * 3 + i]? = (vcells l)[j * 3 + i]? := fun i => by
      rw [show (j + 1) * 3 + i = (j * 3 + i) + 3 by omega]
      simp [vcells]
    have e0 := e 0
    rw [Nat.add_zero, Nat.add_zero] at e0
    rw [e0, e 1, e 2]
    simpa using ih
/-- The list that Decode answers, to be read. -/
theorem rowV_slV {w0 w : World} {lv : Value} {vs : List Vv} (h : Own w0 w (RowV 42 3 lv vs.length (vcells vs))) (hU : ∀ v ∈ vs, U64 v.N) : ∃ ao c, lv = .slice ao vs.length c ∧ SlV w ao vs := by
  obtain ⟨F, ⟨hown, _⟩, _, _⟩ := h
  have hown2 := hown
  rcases hown2.2 with ⟨rfl, h0⟩ | ⟨g, cap, cur, rfl, _, hg, hc, hm, hs, ht⟩
  · exact ⟨none, 0, by rw [h0], fun j hj => by omega⟩
  · refine ⟨_, cap, rfl, fun j hj => ?_⟩
    obtain ⟨a0, a1, a2⟩ := vcells_at vs j hj
    have hl := vcells_length vs
    refine ⟨g, 0, rfl, ?_, ?_, ?_, hU _ (by simp [hj])⟩
    · rw [Nat.zero_add, hown.cellAt (j * 3) (by omega)]
      exact a0
    · rw [Nat.zero_add, hown.cellAt (j * 3 + 1) (by omega)]
      exact a1
    · rw [Nat.zero_add, hown.cellAt (j * 3 + 2) (by omega)]
      exact a2

end Go.Proofs.YtgkcflindenboaaDoor

namespace Go.Proofs.YtgkcflindenboaaDoor
open Go Go.RowKit
set_option linter.unusedVariables false
set_option linter.unusedSimpArgs false
set_option maxRecDepth 100000
set_option linter.unusedSimpArgs false
set_option maxRecDepth 100000

/-- A slice's address, length and capacity. -/
def Shp (ao : Option Addr) (n c : Nat) : Prop := (ao = none ∧ n = 0 ∧ c = 0) ∨ ∃ a, ao = some a ∧ n ≤ c
theorem Shp.le {ao : Option Addr} {n c : Nat} (h : Shp ao n c) : n ≤ c := by
  rcases h with ⟨_, rfl, rfl⟩ | ⟨_, _, h⟩
  · exact Nat.le_refl _
  · exact h
theorem Shp.none {ao : Option Addr} {n c : Nat} (h : Shp ao n c) (e : ao = none) : n = 0 ∧ c = 0 := by
  rcases h with ⟨_, h1, h2⟩ | ⟨a, e2, _⟩
  · exact ⟨h1, h2⟩
  · rw [e] at e2; cases e2
theorem rem_spec (m : Nat) (hm : m ≤ 256) (z : Int) : ∃ (r : Int) (q : Nat), z.tmod ((m : Int) + 1) = r ∧ -(m : Int) ≤ r ∧ r ≤ m ∧ q ≤ m ∧ (r + (m : Int) + 1).tmod ((m : Int) + 1) = (q : Int) := by
  have h1 := Int.emod_lt_of_pos z (show (0 : Int) < (m : Int) + 1 by omega)
  have h2 := Int.emod_nonneg z (show ((m : Int) + 1) ≠ 0 by omega)
  have h3 : z.tmod ((m : Int) + 1) = z % ((m : Int) + 1) ∨ z.tmod ((m : Int) + 1) = z % ((m : Int) + 1) - ((m : Int) + 1) := by
    rw [Int.tmod_eq_emod]
    split
    · left; omega
    · right
      rw [show (((m : Int) + 1).natAbs : Int) = (m : Int) + 1 by omega]
  have lo := Int.lt_tmod_of_pos z (show (0 : Int) < (m : Int) + 1 by omega)
  refine ⟨z.tmod ((m : Int) + 1), ((z.tmod ((m : Int) + 1) + (m : Int) + 1).tmod ((m : Int) + 1)).toNat, rfl, by omega, by omega, ?_, ?_⟩
  · have h4 := Int.emod_lt_of_pos (z.tmod ((m : Int) + 1) + (m : Int) + 1) (show (0 : Int) < (m : Int) + 1 by omega)
    rw [Int.tmod_eq_emod_of_nonneg (by omega)]
    omega
  · have h5 := Int.emod_nonneg (z.tmod ((m : Int) + 1) + (m : Int) + 1) (show ((m : Int) + 1) ≠ 0 by omega)
    rw [Int.tmod_eq_emod_of_nonneg (by omega)]
    omega

theorem run_front (t e : TypeId) (i : TypeInfo) (ht : Tryd.prog.underlying t = some (.slice e)) (hi : Tryd.prog.info? e = some i) (ao : Option Addr) (n c q : Nat) (hs : Shp ao n c) (hq : q ≤ n) (W : World) :
    (Instr.slice t (.slice ao n c) none (some (.int .i64 (q : Int))) none).run Tryd.prog W = .ok (.slice ao q c) W := by
  have hc := hs.le
  have hb : (Instr.sliceBounds true n c none (some (.int .i64 (q : Int))) none).run Tryd.prog W = .ok (0, q, c) W := by
    simp [Instr.sliceBounds, run_sliceBound, (by omega : (0 : Int) ≤ q), (by omega : (q : Int) ≤ c)]
  simp only [Instr.slice, Sem.run_bind, run_underlying ht, Result.andThen, hb]
  simp [sizeOf, typeInfo, hi]
  rcases hs with ⟨rfl, rfl, rfl⟩ | ⟨a, rfl, _⟩
  · simp
  · simp [Addr.add]
theorem front_vals (ao : Option Addr) (n c q : Nat) (hs : Shp ao n c) (hq : q ≤ n) (W : World) : (Instr.slice 22 (.slice ao n c) none (some (.int .i64 (q : Int))) none).run Tryd.prog W = .ok (.slice ao q c) W := by
  obtain ⟨i0, hi0, _⟩ := info_parts Tryd.infoVal3
  exact run_front _ _ i0 Tryd.underlying22 hi0 ao n c q hs hq W
theorem front_bools (ao : Option Addr) (n c q : Nat) (hs : Shp ao n c) (hq : q ≤ n) (W : World) : (Instr.slice 23 (.slice ao n c) none (some (.int .i64 (q : Int))) none).run Tryd.prog W = .ok (.slice ao q c) W := by
  have hb3 : (Tryd.prog.info? 4).map (fun i => (i.zero, i.size, i.bytes)) = some (some (.bool false), 1, 1) := by kernel_rfl
  obtain ⟨i0, hi0, _⟩ := info_parts hb3
  exact run_front _ _ i0 Tryd.underlying23 hi0 ao n c q hs hq W
theorem run_append_zero (t ty e : TypeId) (i : TypeInfo) (ht : Tryd.prog.underlying t = some (.slice e)) (hi : Tryd.prog.info? e = some i) (b : Addr) (w : World) :
    (Builtin.append_ #[t, t] ty #[.slice (some b) 0 0, .slice none 0 0]).run Tryd.prog w = .ok (.slice (some b) 0 0) w := by
  simp [Builtin.append_, run_underlying ht, sizeOf, typeInfo, hi, Builtin.lenOf, Builtin.firstCells, storeCells]
/-- An append onto an empty slice in a region that draws its order: what is appended lies in new memory. -/
theorem step_fresh {ops : Array Oper} {o : Oper} {a : Act} {w : World} {K : Act → World → Prop} {Q : Exit → Act → World → Prop} {E : Prop} (hgd : o.guard = none) (s x : Operand) (t : TypeId)
    (ho : o.op = .call { callee := .builtin .append, args := #[s, x], argTypes := #[t, t] })
    (e : TypeId) (i : TypeInfo) (z : Value) (size bytes : Nat) (ht : Tryd.prog.underlying t = some (.slice e)) (hi : Tryd.prog.info? e = some i) (hz : i.zero = some z)
    (hsize : i.size = size) (hby : i.bytes = bytes) (hzs : z.cells.size = size) (hsz : 0 < size)
    (b : Nat) (hs : a.eval s = .slice (some ⟨b, 0, none⟩) 0 0) (ao : Option Addr) (m c : Nat) (news : List Value) (hx : a.eval x = .slice ao m c) (hnone : ao = none → m = 0 ∧ c = 0)
    (hl : news.length = m * size) (hnews : ∀ ad, ao = some ad → ∀ j u, news[j]? = some u → w.cell? (ad.add j) = some u) (h1 : ∀ u ∈ news, u.oneCell' = true) (hbytes : m * bytes ≤ 140737488355328) (hm : m ≤ 140737488355328)
    (h : ∀ g cap w', (∀ j u, news[j]? = some u → w'.cell? ⟨g, j, none⟩ = some u) → Only (fun _ => False) w w' → K (a.put o.dst (.slice (some ⟨g, 0, none⟩) m cap)) w') :
    if Region.wanted o (yielded ops a.tmps) = true then Oper.wp Tryd.prog o a w K Q else E := by
  have hw : Region.wanted o (yielded ops a.tmps) = true := by simp [Region.wanted, hgd]
  rw [if_pos hw]
  by_cases h0 : m = 0
  · subst h0
    have hn0 : news = [] := List.eq_nil_of_length_eq_zero (by omega)
    subst hn0
    cases ao with
    | none =>
      obtain ⟨_, rfl⟩ := hnone rfl
      have hrun := run_append_zero t o.type e i ht hi ⟨b, 0, none⟩ w
      unfold Oper.wp
      simp [execOp, ho, resolve, invoke, builtin, hs, hx, hrun, Result.andThen]
      exact h b 0 w (fun j u hj => by simp at hj) (Only.refl _ w)
    | some ad =>
      have := step_append_room (P := Tryd.prog) (ops := ops) (o := o) (a := a) (w := w) (K := K) (Q := Q) (E := E) hgd s x t ho e i size ht hi hsize b 0 0 0 hs ad 0 c [] hx (by simp) (fun j u hj => by simp at hj) h1 (Nat.le_refl _) (fun j hj => by simp at hj) ?_
      · rwa [if_pos hw] at this
      · exact h b 0 w (fun j u hj => by simp at hj) (Only.refl _ w)
  · cases ao with
    | none => exact absurd (hnone rfl).1 h0
    | some ad =>
      obtain ⟨v', w', hrun, hown, hg⟩ := run_append_arg_grows (P := Tryd.prog) w t o.type e i z size bytes ht hi hz hsize hby hzs hsz ⟨b, 0, none⟩ 0 0 [] (by simp) (fun j u hj => by simp at hj) ad m c news hl (hnews ad rfl) (by omega) (by unfold maxLen; omega) (by rw [Nat.zero_add]; exact hbytes)
      rw [Nat.zero_add, List.nil_append] at hown
      have hown2 := hown
      rcases hown2.2 with ⟨rfl, h0'⟩ | ⟨g, cap, cur, rfl, _, hgc, _⟩
      · exact absurd h0' h0
      · have hk : K (a.put o.dst (.slice (some ⟨g, 0, none⟩) m cap)) w' := h g cap w' (fun j u hj => by
          have := hown.cellAt j (by rw [← hl]; exact (List.getElem?_eq_some_iff.1 hj).1)
          rw [this]
          exact hj) ((Only.refl _ w).grown hg (fun k _ e => by cases e))
        unfold Oper.wp
        simp [execOp, ho, resolve, invoke, builtin, hs, hx, hrun, Result.andThen]
        exact hk

theorem slv_of {w : World} {g : Nat} {vs : List Vv} (hU : ∀ v ∈ vs, U64 v.N) (h : ∀ j u, (vcells vs)[j]? = some u → w.cell? ⟨g, j, none⟩ = some u) : SlV w (some ⟨g, 0, none⟩) vs := fun j hj => by
  obtain ⟨a0, a1, a2⟩ := vcells_at vs j hj
  refine ⟨g, 0, rfl, ?_, ?_, ?_, hU _ (by simp [hj])⟩
  · rw [Nat.zero_add]; exact h _ _ a0
  · rw [Nat.zero_add]; exact h _ _ a1
  · rw [Nat.zero_add]; exact h _ _ a2
theorem vcells_of {w : World} {ao : Option Addr} {vs : List Vv} (h : SlV w ao vs) : ∀ ad, ao = some ad → ∀ j u, (vcells vs)[j]? = some u → w.cell? (ad.add j) = some u := by
  rintro ad rfl j u hj
  have hl := (List.getElem?_eq_some_iff.1 hj).1
  rw [vcells_length] at hl
  obtain ⟨g, off, e, hv⟩ := h (j / 3) (by omega)
  simp only [Option.some.injEq] at e
  subst e
  obtain ⟨a0, a1, a2⟩ := vcells_at vs (j / 3) (by omega)
  rw [add_lit]
  have hr : j % 3 = 0 ∨ j % 3 = 1 ∨ j % 3 = 2 := by omega
  rcases hr with hr | hr | hr
  · have e : j = j / 3 * 3 := by omega
    rw [e, a0] at hj
    rw [e, ← Option.some.inj hj]
    exact hv.k
  · have e : j = j / 3 * 3 + 1 := by omega
    rw [e, a1] at hj
    rw [e, ← Option.some.inj hj]
    exact hv.n
  · have e : j = j / 3 * 3 + 2 := by omega
    rw [e, a2] at hj
    rw [e, ← Option.some.inj hj]
    exact hv.s
def blv (ds : List Bool) : List Value := ds.map Value.bool
theorem blv_one (ds : List Bool) : ∀ u ∈ blv ds, u.oneCell' = true := by
  intro u hu
  simp only [blv, List.mem_map] at hu
  obtain ⟨b, _, rfl⟩ := hu
  rfl
theorem slbo_of {w : World} {g : Nat} {ds : List Bool} (h : ∀ j u, (blv ds)[j]? = some u → w.cell? ⟨g, j, none⟩ = some u) : SlBo w (some ⟨g, 0, none⟩) ds := fun j hj => by
  refine ⟨g, 0, rfl, ?_⟩
  rw [Nat.zero_add]
  exact h _ _ (by simp [blv, hj])
theorem blv_of {w : World} {ao : Option Addr} {ds : List Bool} (h : SlBo w ao ds) : ∀ ad, ao = some ad → ∀ j u, (blv ds)[j]? = some u → w.cell? (ad.add j) = some u := by
  rintro ad rfl j u hj
  have hl := (List.getElem?_eq_some_iff.1 hj).1
  simp only [blv, List.length_map] at hl
  obtain ⟨g, off, e, hv⟩ := h j hl
  simp only [Option.some.injEq] at e
  subst e
  rw [add_lit]
  have : (blv ds)[j]? = some (.bool (ds.getD j false)) := by simp [blv, hl]
  rw [this] at hj
  rw [← Option.some.inj hj]
  exact hv
theorem SlV.take {w : World} {ao : Option Addr} {vs : List Vv} (h : SlV w ao vs) (q : Nat) : SlV w ao (vs.take q) := fun j hj => by
  rw [List.length_take] at hj
  obtain ⟨g, off, e, hv⟩ := h j (by omega)
  refine ⟨g, off, e, ?_⟩
  have : (vs.take q).getD j default = vs.getD j default := by
    simp only [List.getD_eq_getElem?_getD, List.getElem?_take]
    rw [if_pos (by omega)]
  rwa [this]
theorem SlBo.take {w : World} {ao : Option Addr} {ds : List Bool} (h : SlBo w ao ds) (q : Nat) : SlBo w ao (ds.take q) := fun j hj => by
  rw [List.length_take] at hj
  obtain ⟨g, off, e, hv⟩ := h j (by omega)
  refine ⟨g, off, e, ?_⟩
  have : (ds.take q).getD j false = ds.getD j false := by
    simp only [List.getD_eq_getElem?_getD, List.getElem?_take]
    rw [if_pos (by omega)]
  rwa [this]

/-! ### The front (pure) -/
theorem step_vals {ops : Array Oper} {o : Oper} {a : Act} {w : World} {K : Act → World → Prop} {Q : Exit → Act → World → Prop} {E : Prop} (hgd : o.guard = none) (s x : Operand)
    (ho : o.op = .call { callee := .builtin .append, args := #[s, x], argTypes := #[22, 22] }) (hs : ∃ b, a.eval s = .slice (some ⟨b, 0, none⟩) 0 0)
    (xo : Option Addr) (k xc q : Nat) (vs : List Vv) (w0 : World) (hv : SlV w0 xo vs) (hsh : Shp xo k xc) (hk : k = vs.length) (hq : q ≤ k) (hk256 : k ≤ 256) (hx : a.eval x = .slice xo q xc) (h0 : Only (fun _ => False) w0 w)
    (h : ∀ g cap w', SlV w' (some ⟨g, 0, none⟩) (vs.take q) → Only (fun _ => False) w0 w' → K (a.put o.dst (.slice (some ⟨g, 0, none⟩) q cap)) w') :
    if Region.wanted o (yielded ops a.tmps) = true then Oper.wp Tryd.prog o a w K Q else E := by
  obtain ⟨b, hs⟩ := hs
  obtain ⟨i0, hi0, hz0, hz1, hz2⟩ := info_parts Tryd.infoVal3
  have hl : (vs.take q).length = q := by rw [List.length_take]; omega
  refine step_fresh hgd s x _ ho 42 i0 _ 3 32 Tryd.underlying22 hi0 hz0 hz1 hz2 rfl (by decide) b hs xo q xc (vcells (vs.take q)) hx (fun e => ⟨by have := (hsh.none e).1; omega, (hsh.none e).2⟩) (by rw [vcells_length, hl])
    (vcells_of ((hv.keep h0).take q)) (vcells_one _) (by omega) (by omega) ?_
  intro g cap w' hr ho'
  exact h g cap w' (slv_of (fun v hv' => hv.u64 v (List.mem_of_mem_take hv')) hr) (h0.trans ho' (fun _ _ h => h))
theorem step_bools {ops : Array Oper} {o : Oper} {a : Act} {w : World} {K : Act → World → Prop} {Q : Exit → Act → World → Prop} {E : Prop} (hgd : o.guard = none) (s x : Operand)
    (ho : o.op = .call { callee := .builtin .append, args := #[s, x], argTypes := #[23, 23] }) (hs : ∃ b, a.eval s = .slice (some ⟨b, 0, none⟩) 0 0)
    (xo : Option Addr) (k xc q : Nat) (ds : List Bool) (w0 wk : World) (hv : SlBo w0 xo ds) (hsh : Shp xo k xc) (hk : k = ds.length) (hq : q ≤ k) (hk256 : k ≤ 256) (hx : a.eval x = .slice xo q xc) (h0 : Only (fun _ => False) w0 wk) (h1 : Only (fun _ => False) wk w)
    (h : ∀ g cap w', SlBo w' (some ⟨g, 0, none⟩) (ds.take q) → Only (fun _ => False) wk w' → K (a.put o.dst (.slice (some ⟨g, 0, none⟩) q cap)) w') :
    if Region.wanted o (yielded ops a.tmps) = true then Oper.wp Tryd.prog o a w K Q else E := by
  have hb3 : (Tryd.prog.info? 4).map (fun i => (i.zero, i.size, i.bytes)) = some (some (.bool false), 1, 1) := by kernel_rfl
  obtain ⟨b, hs⟩ := hs
  obtain ⟨i0, hi0, hz0, hz1, hz2⟩ := info_parts hb3
  have hl : (ds.take q).length = q := by rw [List.length_take]; omega
  refine step_fresh hgd s x _ ho 4 i0 _ 1 1 Tryd.underlying23 hi0 hz0 hz1 hz2 rfl (by decide) b hs xo q xc (blv (ds.take q)) hx (fun e => ⟨by have := (hsh.none e).1; omega, (hsh.none e).2⟩) (by simp only [blv, List.length_map, hl]; omega)
    (blv_of ((hv.keep (h0.trans h1 (fun _ _ h => h))).take q)) (blv_one _) (by omega) (by omega) ?_
  intro g cap w' hr ho'
  exact h g cap w' (slbo_of hr) (h1.trans ho' (fun _ _ h => h))


end Go.Proofs.YtgkcflindenboaaDoor
