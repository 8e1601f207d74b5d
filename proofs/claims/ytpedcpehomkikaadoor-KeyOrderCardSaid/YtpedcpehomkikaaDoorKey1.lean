/-
  Package key's reader: next, number, text, there, value.
-/
import Derived.Test.YtpedcpehomkikaaDoorRows
import Derived.Test.YtpedcpehomkikaaDoorKeySt2
import Derived.Test.YtpedcpehomkikaaDoorVal12
import Derived.Laws.BitsAllLaws
namespace Go.Proofs.YtpedcpehomkikaaDoor
open Go Go.RowKit
set_option linter.unusedVariables false
set_option linter.unusedSimpArgs false
set_option maxRecDepth 100000

/-- The reader in block p: what is left, whether it goes down, whether it is bad. -/
def RdIn (p : Nat) (d : Bool) (l : List UInt8) (bad : Bool) (w : World) : Prop :=
  ∃ s : ByteArray, s.toList = l ∧ w.heap[p]? = some (.cells #[.string s, .bool d, .bool bad] 58 (0, 0))
def nxt (d : Bool) (l : List UInt8) : UInt8 := (turnL d l).headD 0
theorem not_wrap (b : UInt8) : ((not8 b).toNat : Int) = 255 - (b.toNat : Int) := by
  have := b.toNat_lt
  rw [not8_toNat]
  omega
theorem xor_not (b : UInt8) : bits .xor .u8 IntKind.u8.max (b.toNat : Int) = ((not8 b).toNat : Int) := by
  have h : ∀ y : Fin 256, bits .xor .u8 IntKind.u8.max (y.val : Int) = 255 - (y.val : Int) := by decide
  rw [not_wrap]
  exact h ⟨b.toNat, b.toNat_lt⟩
theorem ba_drop1 (s : ByteArray) (b : UInt8) (r : List UInt8) (h : s.toList = b :: r) : (s.extract 1 s.size).toList = r := by
  rw [ByteArray.toList_eq] at h ⊢
  rw [Lib.extract_to_end, h]; rfl

set_option maxHeartbeats 1000000 in
theorem rd_next (p : Nat) (d : Bool) (l : List UInt8) (bad : Bool) (w : World) (h : RdIn p d l bad w) :
    Calls Tryd.prog 42 #[.pointer (some ⟨p, 0, none⟩)] w fun e w' => e = .returned (.int .u8 ((nxt d l).toNat : Int)) ∧ RdIn p d (l.drop 1) (bad || l.isEmpty) w' ∧ Only (fun k => k = p) w w' := by
  obtain ⟨s, rfl, hp⟩ := h
  have HP := Lib.hid hp
  have c0 : w.cell? ⟨p, 0, none⟩ = some (.string s) := by simp [World.cell?, hp]
  have c1 : w.cell? ⟨p, 1, none⟩ = some (.bool d) := by simp [World.cell?, hp]
  have f0 : w.frozen? ⟨p, 0, none⟩ = false := by simp [World.frozen?, hp]
  have f2 : w.frozen? ⟨p, 2, none⟩ = false := by simp [World.frozen?, hp]
  have c2 : w.cell? ⟨p, 2, none⟩ = some (.bool bad) := by simp [World.cell?, hp]
  clear hp
  match hl : s.toList with
  | [] =>
    have he : (s.toList == ([] : List UInt8)) = true := by rw [hl]; rfl
    have he2 : s = ⟨#[]⟩ := ba_eq (by rw [hl, ba_nil])
    subst he2
    clear he hl
    go_enter Tryd.func42, Tryd.ntmps42
    go_wp2
    go_ret
    refine ⟨by cases d <;> rfl, ⟨⟨#[]⟩, ba_nil, ?_⟩, Only.cell w p 2 _⟩
    rw [heap_set HP.out]
    cases bad <;> rfl
  | b :: r =>
    have hs0 : 0 < s.size := by rw [← ba_size, hl]; simp
    have hne : (s.toList == ([] : List UInt8)) = false := by rw [hl]; rfl
    have hb : s[0] = b := by
      have := ba_get s 0 hs0
      rw [hl] at this
      simpa using this.symm
    have HD := Lib.hid (ba_drop1 s b r hl)
    clear hl
    cases d with
    | false =>
      go_enter Tryd.func42, Tryd.ntmps42
      go_wp2
      go_ret
      refine ⟨rfl, ⟨_, HD.out, ?_⟩, Only.cell w p 0 _⟩
      rw [heap_set HP.out]
      cases bad <;> rfl
    | true =>
      go_enter Tryd.func42, Tryd.ntmps42
      go_wp2
      go_ret
      refine ⟨?_, ⟨_, HD.out, ?_⟩, Only.cell w p 0 _⟩
      · rw [show nxt true (b :: r) = not8 b from rfl, ← xor_not]; rfl
      · rw [heap_set HP.out]
        cases bad <;> rfl

/-- Behind k bytes of a number. -/
structure NumAt (w : World) (p : Nat) (d : Bool) (l : List UInt8) (bad : Bool) (k m : Nat) (wr : World) : Prop where
  at' : RdIn p d (l.drop k) (bad || decide (l.length < k)) wr
  only : Only (fun k => k = p) w wr
  val : k ≤ l.length → m = numB ((turnL d l).take k)
theorem turnL_drop (d : Bool) (l : List UInt8) (k : Nat) : turnL d (l.drop k) = (turnL d l).drop k := by cases d <;> simp [turnL]
theorem NumAt.step {w wr w1 : World} {p : Nat} {d : Bool} {l : List UInt8} {bad : Bool} {k m : Nat} (h : NumAt w p d l bad k m wr) (hk : k < 8)
    (hr : RdIn p d ((l.drop k).drop 1) ((bad || decide (l.length < k)) || (l.drop k).isEmpty) w1) (ho : Only (fun k => k = p) wr w1) : NumAt w p d l bad (k + 1) (m * 256 + (nxt d (l.drop k)).toNat) w1 := by
  refine ⟨?_, h.only.trans ho (fun _ _ e => e), fun hl => ?_⟩
  · rw [List.drop_drop] at hr
    have e : ((bad || decide (l.length < k)) || (l.drop k).isEmpty) = (bad || decide (l.length < k + 1)) := by
      rw [Bool.or_assoc]
      congr 1
      rw [Bool.eq_iff_iff]
      simp only [Bool.or_eq_true, decide_eq_true_eq, List.isEmpty_iff, List.drop_eq_nil_iff]
      omega
    rw [e] at hr
    exact hr
  · have hlt : k < (turnL d l).length := by rw [turnL_length]; omega
    rw [h.val (by omega), List.take_succ_eq_append_getElem hlt, numB_snoc]
    congr 2
    unfold nxt
    rw [turnL_drop, List.headD_eq_head?_getD, List.head?_drop, List.getElem?_eq_getElem hlt]
    rfl

set_option maxHeartbeats 1000000 in
theorem rd_number (p : Nat) (d : Bool) (l : List UInt8) (bad : Bool) (w : World) (h : RdIn p d l bad w) :
    Calls Tryd.prog 53 #[.pointer (some ⟨p, 0, none⟩)] w fun e w' => ∃ n : Nat, e = .returned (.int .u64 (n : Int)) ∧ n < 18446744073709551616 ∧ (8 ≤ l.length → n = numB ((turnL d l).take 8)) ∧ RdIn p d (l.drop 8) (bad || decide (l.length < 8)) w' ∧ Only (fun k => k = p) w w' := by
  have H := Lib.hid h
  clear h
  go_enter Tryd.func53, Tryd.ntmps53
  go_wp2
  go_loopw [3, 4] (fun x i wr => ∃ k m : Nat, k ≤ 8 ∧ x = .int .u64 (m : Int) ∧ i = .int .i64 (k : Int) ∧ m < 256 ^ k ∧ Hid (NumAt w p d l bad k m wr)) (fun _ i _ => 8 - (intOf i).toNat)
  case atStart => exact ⟨0, 0, by omega, rfl, rfl, by decide, Lib.hid ⟨by simpa using H.out, Only.refl _ _, fun _ => rfl⟩⟩
  case round =>
    clear H
    obtain ⟨k, m, hk, rfl, rfl, hm, HN⟩ := hrel
    by_cases hk8 : k < 8
    · have hkI : (k : Int) < 8 := by omega
      have hm7 : m < 72057594037927936 := by
        have h2 : 256 ^ k ≤ 256 ^ 7 := Nat.pow_le_pow_right (by omega) (by omega)
        omega
      obtain ⟨b, hb⟩ : ∃ b, nxt d (l.drop k) = b := ⟨_, rfl⟩
      have HBN := Lib.hid hb
      have ho := or_step m b.toNat hm7 b.toNat_lt
      have HM := Lib.hid hm
      clear hm hb
      go_wp2_with fail
      refine (rd_next p d (l.drop k) _ _ HN.out.at').mono ?_
      rintro e w1 ⟨rfl, hr1, ho1⟩
      rw [HBN.out]
      have HN1 := Lib.hid (HN.out.step hk8 hr1 ho1)
      clear hr1 ho1
      go_wp2_with fail
      go_roundw
      case rel => exact ⟨k + 1, m * 256 + b.toNat, by omega, by go_num, by go_num, by have := HM.out; have := b.toNat_lt; rw [Nat.pow_succ]; omega, Lib.hid (by rw [← HBN.out]; exact HN1.out)⟩
      case measure => simp [intOf]; omega
    · obtain rfl : k = 8 := by omega
      go_wp2_with fail
      go_ret
      refine ⟨m, rfl, by rw [← pow8]; exact hm, HN.out.val, HN.out.at', HN.out.only⟩

end Go.Proofs.YtpedcpehomkikaaDoor
