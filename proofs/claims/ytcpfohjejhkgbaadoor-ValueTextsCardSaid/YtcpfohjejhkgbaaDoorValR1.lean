/-
  The reference's utf8: which byte strings are valid UTF-8.
-/
import Derived.Test.YtcpfohjejhkgbaaDoorVal7
namespace Go.Proofs.YtcpfohjejhkgbaaDoor
open Go Go.RowKit
set_option linter.unusedVariables false
set_option linter.unusedSimpArgs false
set_option maxRecDepth 100000

theorem rwrap64 {n : Int} (h : -9223372036854775808 ≤ n ∧ n ≤ 9223372036854775807) : wrap64 n = n := by unfold wrap64; omega
theorem utf8_fuel (f : Nat) (l : List UInt8) (h : l.length ≤ f) : utf8F f l = utf8B l := (valid_utf8F f l h).symm.trans (utf8_valid l)
theorem utf8_cons (c : UInt8) (r : List UInt8) : utf8B (c :: r) = if u8len (c :: r) = 0 then false else utf8B ((c :: r).drop (u8len (c :: r))) := by
  rw [show utf8B (c :: r) = (if u8len (c :: r) = 0 then false else utf8F r.length ((c :: r).drop (u8len (c :: r)))) from rfl]
  by_cases h : u8len (c :: r) = 0
  · rw [if_pos h, if_pos h]
  · rw [if_neg h, if_neg h]
    refine utf8_fuel _ _ ?_
    rw [List.length_drop]
    simp only [List.length_cons]
    omega
/-- What the inner loop has of n bytes in front of place j. -/
structure U8At (r : List UInt8) (x0 : Nat) (j : Nat) (x : Int) : Prop where
  all : ((r.take (j - 1)).all fun d => decide (128 ≤ d.toNat) && decide (d.toNat < 192)) = true
  num : x = (((r.take (j - 1)).foldl (fun x d => x * 64 + d.toNat - 128) x0 : Nat) : Int)
theorem U8At.step {r : List UInt8} {x0 j : Nat} {x : Int} {d : UInt8} (h : U8At r x0 j x) (hj : 1 ≤ j) (hd : r[j - 1]? = some d) (h1 : 128 ≤ d.toNat) (h2 : d.toNat < 192) : U8At r x0 (j + 1) (x * 64 + d.toNat - 128) := by
  have e : r.take (j + 1 - 1) = r.take (j - 1) ++ [d] := by
    rw [show j + 1 - 1 = (j - 1) + 1 by omega, List.take_add_one, hd]; rfl
  refine ⟨?_, ?_⟩
  · rw [e, List.all_append, h.all]; simp [h1, h2]
  · rw [e, List.foldl_append]
    simp only [List.foldl_cons, List.foldl_nil]
    rw [h.num]; omega
theorem u8tail_bad {r : List UInt8} {n low x0 j : Nat} {d : UInt8} (hj : 1 ≤ j) (hjn : j < n) (hd : r[j - 1]? = some d) (h : ¬ (128 ≤ d.toNat ∧ d.toNat < 192)) : u8tail r n low x0 = 0 := by
  unfold u8tail
  by_cases hl : r.length + 1 < n
  · rw [if_pos hl]
  rw [if_neg hl, if_neg]
  intro ha
  rw [List.all_eq_true] at ha
  have hm : d ∈ r.take (n - 1) := by
    have : (r.take (n - 1))[j - 1]? = some d := by rw [List.getElem?_take_of_lt (by omega), hd]
    exact List.mem_of_getElem? this
  have := ha d hm
  simp at this
  exact h this
theorem u8tail_end {r : List UInt8} {n low x0 : Nat} {x : Int} (h : U8At r x0 n x) (hl : ¬ r.length + 1 < n) : u8tail r n low x0 = if x < low ∨ 1114111 < x ∨ (55296 ≤ x ∧ x < 57344) then 0 else n := by
  unfold u8tail
  rw [if_neg hl, if_pos h.all]
  have := h.num
  generalize (r.take (n - 1)).foldl (fun x d => x * 64 + d.toNat - 128) x0 = y at *
  by_cases hc : y < low ∨ 1114111 < y ∨ (55296 ≤ y ∧ y < 57344)
  · rw [if_pos hc, if_pos (by omega)]
  · rw [if_neg hc, if_neg (by omega)]
theorem u8tail_short {r : List UInt8} {n low x0 : Nat} (hl : r.length + 1 < n) : u8tail r n low x0 = 0 := by unfold u8tail; rw [if_pos hl]
theorem rdrop_cons (s : ByteArray) (k : Nat) (h : k < s.size) : s.toList.drop k = s[k] :: s.toList.drop (k + 1) := by
  have h2 := ba_get s k h
  rw [List.drop_eq_getElem_cons (by rw [ba_size]; exact h)]
  congr 1
  rw [List.getElem?_eq_getElem (by rw [ba_size]; exact h)] at h2
  exact Option.some.inj h2
theorem rdrop_get (s : ByteArray) (k j : Nat) (hj : 1 ≤ j) (h : k + j < s.size) : (s.toList.drop (k + 1))[j - 1]? = some s[k + j] := by
  rw [List.getElem?_drop, show k + 1 + (j - 1) = k + j by omega]
  exact ba_get s (k + j) h

/-- What the switch may lay. -/
def Sw (n low : Nat) (x0 : Nat) : Prop := n = 1 ∧ low = 0 ∧ x0 < 128 ∨ n = 2 ∧ low = 128 ∧ x0 < 32 ∨ n = 3 ∧ low = 2048 ∧ x0 < 16 ∨ n = 4 ∧ low = 65536 ∧ x0 < 8
def XB (n j : Nat) (x : Int) : Prop := 0 ≤ x ∧ (j = 1 ∧ x < 128 ∧ (1 < n → x < 32) ∨ j = 2 ∧ x < 2048 ∨ j = 3 ∧ x < 131072 ∨ j = 4 ∧ x < 8388608)
def SwAt (c : UInt8) (r : List UInt8) (w : World) (a b d : Value) (wx : World) : Prop := ∃ n low x0 : Nat, a = .int .i64 n ∧ b = .int .i64 low ∧ d = .int .i64 x0 ∧ Sw n low x0 ∧ u8len (c :: r) = u8tail r n low x0 ∧ wx = w
theorem u8len1t (c : UInt8) (r : List UInt8) (h : c.toNat < 128) : u8len (c :: r) = u8tail r 1 0 c.toNat := by
  rw [u8len1 c r h]
  unfold u8tail
  rw [if_neg (by omega)]
  simp
  omega

set_option maxHeartbeats 8000000 in
theorem rutf_any (s : ByteArray) (w : World) (hs : s.size ≤ 4611686018427387904) :
    Calls Tryd.prog 45 #[.string s] w fun e w' => e = .returned (.bool (utf8B s.toList)) ∧ w = w' := by
  obtain ⟨B, hB⟩ : ∃ B, utf8B s.toList = B := ⟨_, rfl⟩
  rw [hB]
  have HBE := Lib.hid hB
  clear hB
  go_enter Tryd.func45, Tryd.ntmps45
  go_wp2_with fail
  go_loop [3] (fun i => ∃ k : Nat, k ≤ s.size ∧ i = .int .i64 k ∧ Hid (utf8B (s.toList.drop k) = B)) (fun i => s.size - (intOf i).toNat)
  case atStart => exact ⟨0, Nat.zero_le _, rfl, HBE⟩
  case round =>
    obtain ⟨k, hk, rfl, HA⟩ := hrel
    clear HBE
    by_cases hlt : k < s.size
    · obtain ⟨z, hz⟩ : ∃ z : Int, (s[k].toNat : Int) = z := ⟨_, rfl⟩
      obtain ⟨r, hr⟩ : ∃ r, s.toList.drop (k + 1) = r := ⟨_, rfl⟩
      have hD : utf8B (s[k] :: r) = B := by rw [← hr, ← rdrop_cons s k hlt]; exact HA.out
      rw [utf8_cons] at hD
      have HD := Lib.hid hD
      have HR := Lib.hid hr
      have HRL : Hid (r.length + 1 + k = s.size) := Lib.hid (by rw [← hr, List.length_drop, ba_size]; omega)
      have HZ0 : z < 256 ∧ 0 ≤ z := by have := s[k].toNat_lt; omega
      clear hD hr
      go_upto_block 2 with fail
      go_cut [5, 6, 7] (fun a b c wx => SwAt s[k] r w a b c wx)
      case first =>
        have hw : w = w := rfl
        by_cases c1 : z < 128
        · have HP : Hid (SwAt s[k] r w (.int .i64 1) (.int .i64 0) (.int .i64 z) w) :=
            Lib.hid ⟨1, 0, s[k].toNat, rfl, rfl, by rw [hz], .inl ⟨rfl, rfl, by omega⟩, u8len1t _ _ (by omega), rfl⟩
          go_wp2_with fail
          go_meet
          exact HP.out
        by_cases c2 : z < 194
        · have HNO : Hid (B = false) := Lib.hid (by have := HD.out; rw [u8len0 _ _ (by omega) (by omega), if_pos rfl] at this; exact this.symm)
          have d1 : ¬ 194 ≤ z := by omega
          have d2 : ¬ 224 ≤ z := by omega
          have d3 : ¬ 240 ≤ z := by omega
          go_wp2_with fail
          go_ret
          exact ⟨ret_b HNO.out.symm, rfl⟩
        have d1 : 194 ≤ z := by omega
        by_cases c3 : z < 224
        · have HP : Hid (SwAt s[k] r w (.int .i64 2) (.int .i64 128) (.int .i64 (z - 192)) w) :=
            Lib.hid ⟨2, 128, s[k].toNat - 192, rfl, rfl, by congr 1; omega, .inr (.inl ⟨rfl, rfl, by omega⟩), u8len2 _ _ (by omega) (by omega), rfl⟩
          go_wp2_with fail
          go_meet
          exact HP.out
        have d2 : 224 ≤ z := by omega
        by_cases c4 : z < 240
        · have HP : Hid (SwAt s[k] r w (.int .i64 3) (.int .i64 2048) (.int .i64 (z - 224)) w) :=
            Lib.hid ⟨3, 2048, s[k].toNat - 224, rfl, rfl, by congr 1; omega, .inr (.inr (.inl ⟨rfl, rfl, by omega⟩)), u8len3 _ _ (by omega) (by omega), rfl⟩
          go_wp2_with fail
          go_meet
          exact HP.out
        have d3 : 240 ≤ z := by omega
        by_cases c5 : z < 245
        · have HP : Hid (SwAt s[k] r w (.int .i64 4) (.int .i64 65536) (.int .i64 (z - 240)) w) :=
            Lib.hid ⟨4, 65536, s[k].toNat - 240, rfl, rfl, by congr 1; omega, .inr (.inr (.inr ⟨rfl, rfl, by omega⟩)), u8len4 _ _ (by omega) (by omega), rfl⟩
          go_wp2_with fail
          go_meet
          exact HP.out
        · have HNO : Hid (B = false) := Lib.hid (by have := HD.out; rw [u8len0 _ _ (by omega) (by omega), if_pos rfl] at this; exact this.symm)
          go_wp2_with fail
          go_ret
          exact ⟨ret_b HNO.out.symm, rfl⟩
      case rest =>
        obtain ⟨n, low, x0, rfl, rfl, rfl, hsw, hu, rfl⟩ := hcut
        have HSW := Lib.hid hsw
        have hn14 : 1 ≤ n ∧ n ≤ 4 := by unfold Sw at hsw; omega
        have hD := HD.out
        rw [hu] at hD
        have HD2 := Lib.hid hD
        clear hD HD hu hsw hz HZ0
        by_cases hn : k + n ≤ s.size
        case neg =>
          have hgt : (s.size : Int) < wrap64 ((k : Int) + (n : Int)) := by rw [rwrap64 (by omega)]; omega
          have HNO : Hid (B = false) := Lib.hid (by have h := HD2.out; have := HRL.out; rw [u8tail_short (by omega), if_pos rfl] at h; exact h.symm)
          go_wp2_with fail
          go_ret
          exact ⟨ret_b HNO.out.symm, rfl⟩
        have hkw : wrap64 ((k : Int) + (n : Int)) = ((k + n : Nat) : Int) := by rw [rwrap64 (by omega)]; omega
        have hng : ¬ (s.size : Int) < ((k + n : Nat) : Int) := by omega
        go_wp2_with fail
        have hn63 : ¬ wrap64 ((k : Int) + (n : Int)) > (s.size : Int) := by rw [hkw]; omega
        have HKW := Lib.hid hkw
        have HN := Lib.hid hn
        have HX0 : Hid (XB n 1 ((x0 : Nat) : Int)) := Lib.hid (by have := HSW.out; unfold Sw at this; unfold XB; omega)
        have HU0 : Hid (U8At r x0 1 ((x0 : Nat) : Int)) := Lib.hid ⟨rfl, rfl⟩
        go_loop [7, 8] (fun vx vj => ∃ (j : Nat) (x : Int), 1 ≤ j ∧ j ≤ n ∧ vj = .int .i64 j ∧ vx = .int .i64 x ∧ Hid (U8At r x0 j x) ∧ Hid (XB n j x)) (fun _ vj => n - (intOf vj).toNat)
        case atStart => exact ⟨1, x0, Nat.le_refl _, hn14.1, rfl, rfl, HU0, HX0⟩
        case round =>
          obtain ⟨j, x, hj1, hjn, rfl, rfl, HUA, HXB⟩ := hrel
          clear HX0 HU0
          by_cases hlj : j < n
          · have hkj : k + j < s.size := by omega
            obtain ⟨y, hy⟩ : ∃ y : Int, ((s[k + j]'hkj).toNat : Int) = y := ⟨_, rfl⟩
            have hget : r[j - 1]? = some (s[k + j]'hkj) := by rw [← HR.out]; exact rdrop_get s k j hj1 hkj
            have HGET := Lib.hid hget
            have hin : 0 ≤ (k : Int) + (j : Int) ∧ (k : Int) + (j : Int) < (s.size : Int) := by omega
            have hy256 : 0 ≤ y ∧ y < 256 := by have := (s[k + j]'hkj).toNat_lt; omega
            by_cases hok : 128 ≤ y ∧ y < 192
            · obtain ⟨q1, q2⟩ := hok
              have hxb : 0 ≤ x ∧ x < 8388608 := by have := HXB.out; unfold XB at this; omega
              have HUS : Hid (U8At r x0 (j + 1) (x * 64 + y - 128)) := Lib.hid (by
                have := HUA.out.step hj1 HGET.out (by omega) (by omega)
                rw [hy] at this; exact this)
              have HXS : Hid (XB n (j + 1) (x * 64 + y - 128)) := Lib.hid (by have := HXB.out; unfold XB at *; omega)
              have HMS : Hid (n - (j + 1) < n - j) := Lib.hid (by omega)
              have HLE : Hid (j + 1 ≤ n) := Lib.hid hlj
              have HLE1 : Hid (1 ≤ j + 1) := Lib.hid (by omega)
              have hj1' : ((j + 1 : Nat) : Int) = (j : Int) + 1 := by omega
              have HMI : Hid (n - ((j : Int) + 1).toNat < n - ((j : Int)).toNat) := Lib.hid (by rw [← hj1', Int.toNat_natCast, Int.toNat_natCast]; exact HMS.out)
              have HJ1 := Lib.hid hj1'
              clear hget hj1'
              go_wp2_with fail
              go_round
              case rel => exact ⟨j + 1, x * 64 + y - 128, HLE1.out, HLE.out, by rw [HJ1.out], rfl, HUS, HXS⟩
              case measure => exact HMI.out
            · have HNO : Hid (B = false) := Lib.hid (by
                have h := HD2.out
                rw [u8tail_bad hj1 hlj HGET.out (by omega), if_pos rfl] at h
                exact h.symm)
              have hok2 : y < 128 ∨ (¬ y < 128 ∧ 192 ≤ y) := by omega
              clear hget hok
              rcases hok2 with q1 | ⟨q1, q2⟩
              all_goals
                go_wp2_with fail
                go_ret
                exact ⟨ret_b HNO.out.symm, rfl⟩
          · have hjj : j = n := by omega
            subst hjj
            have hxb : 0 ≤ x ∧ x < 8388608 := by have := HXB.out; unfold XB at this; omega
            have hend : u8tail r j low x0 = if x < low ∨ 1114111 < x ∨ (55296 ≤ x ∧ x < 57344) then 0 else j := u8tail_end HUA.out (by have := HRL.out; have := HN.out; omega)
            have hd := HD2.out
            rw [hend] at hd
            by_cases hbad : x < low ∨ 1114111 < x ∨ (55296 ≤ x ∧ x < 57344)
            · rw [if_pos hbad, if_pos rfl] at hd
              have HNO : Hid (B = false) := Lib.hid hd.symm
              have hb2 : x < low ∨ (¬ x < low ∧ 1114111 < x) ∨ (¬ x < low ∧ ¬ 1114111 < x ∧ 55296 ≤ x ∧ x < 57344) := by omega
              clear hd hend hbad
              rcases hb2 with q1 | ⟨q1, q2⟩ | ⟨q1, q2, q3, q4⟩
              all_goals
                go_wp2_with fail
                go_ret
                exact ⟨ret_b HNO.out.symm, rfl⟩
            · rw [if_neg hbad, if_neg (by omega)] at hd
              have HNX : Hid (utf8B (s.toList.drop (k + j)) = B) := Lib.hid (by
                rw [← hd, ← HR.out, ← rdrop_cons s k hlt, List.drop_drop])
              have HMS : Hid (s.size - (k + j) < s.size - k) := Lib.hid (by omega)
              have HLE := HN
              have hb2 : ¬ x < low ∧ ¬ 1114111 < x ∧ (x < 55296 ∨ (55296 ≤ x ∧ ¬ x < 57344)) := by omega
              clear hd hend hbad
              obtain ⟨q1, q2, q3 | ⟨q3, q4⟩⟩ := hb2
              all_goals
                go_wp2_with fail
                go_round
                case rel => exact ⟨k + j, HLE.out, by first | rw [hkw] | go_num, HNX⟩
                case measure => first | (rw [hkw]; exact HMS.out) | (simp [intOf]; omega)
    · have HY : Hid (B = true) := Lib.hid (by rw [← HA.out, List.drop_of_length_le (by rw [ba_size]; omega)]; rfl)
      go_wp2_with fail
      go_ret
      exact ⟨ret_b HY.out.symm, rfl⟩

end Go.Proofs.YtcpfohjejhkgbaaDoor
