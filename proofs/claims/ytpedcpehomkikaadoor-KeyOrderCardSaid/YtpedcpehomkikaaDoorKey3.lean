/-
  Package key's reader: there, value.
-/
import Derived.Test.YtpedcpehomkikaaDoorKey2
import Derived.Laws.Bits64
namespace Go.Proofs.YtpedcpehomkikaaDoor
open Go Go.RowKit
set_option linter.unusedVariables false
set_option linter.unusedSimpArgs false
set_option maxRecDepth 100000

theorem flip_lo {n : Nat} (h : n < 2 ^ 63) : n ^^^ 2 ^ 63 = n + 2 ^ 63 := by
  apply Nat.eq_of_testBit_eq
  intro i
  rw [Nat.testBit_xor, Nat.testBit_two_pow, Nat.add_comm]
  rcases Nat.lt_trichotomy i 63 with hi | hi | hi
  · rw [Nat.testBit_two_pow_add_gt hi, show decide (63 = i) = false from decide_eq_false (by omega), Bool.xor_false]
  · subst hi
    rw [Nat.testBit_two_pow_add_eq]
    simp
  · have h1 : n.testBit i = false := Nat.testBit_lt_two_pow (Nat.lt_trans h (Nat.pow_lt_pow_right (by decide) hi))
    have h2 : (2 ^ 63 + n).testBit i = false := Nat.testBit_lt_two_pow (by
      have : 2 ^ 64 ≤ 2 ^ i := Nat.pow_le_pow_right (by decide) hi
      omega)
    rw [h1, h2, show decide (63 = i) = false from decide_eq_false (by omega)]
    rfl
theorem flip_xor {n : Nat} (h : n < 18446744073709551616) : n ^^^ 9223372036854775808 = flipN n := by
  rw [show (9223372036854775808 : Nat) = 2 ^ 63 from rfl]
  unfold flipN
  by_cases h1 : n < 9223372036854775808
  · rw [if_pos h1]
    exact flip_lo h1
  · rw [if_neg h1]
    obtain ⟨m, rfl⟩ : ∃ m, n = m + 2 ^ 63 := ⟨n - 9223372036854775808, by omega⟩
    have hm : m < 2 ^ 63 := by omega
    rw [← flip_lo hm, Nat.xor_assoc, Nat.xor_self, Nat.xor_zero, flip_lo hm]
    omega
theorem flip_bits (n : Nat) (h : n < 18446744073709551616) : bits .xor .u64 (n : Int) 9223372036854775808 = ((flipN n : Nat) : Int) := by
  rw [show (9223372036854775808 : Int) = ((9223372036854775808 : Nat) : Int) from rfl, bits_xor_u64_nat _ _ h (by omega), flip_xor h]

theorem u64_nat {n : Nat} (h : n < 18446744073709551616) : U64 (n : Int) := ⟨by omega, by omega⟩
def TherePost (p : Nat) (d : Bool) (k : Int) (l : List UInt8) (w : World) (e : Ending) (w' : World) : Prop :=
  ∃ (K N : Int) (S : ByteArray) (l' : List UInt8) (bad : Bool), e = .returned (vlv K N S) ∧ U64 N ∧ RdIn p d l' bad w' ∧ Only (fun k => k = p) w w' ∧
    raw1 k (turnL d l) = if bad = true then none else some (vl K N S, turnL d l')

theorem vl_nil (K : Int) (n : Nat) : vl K (n : Int) ⟨#[]⟩ = ⟨K, n, []⟩ := by
  show (⟨K, ((n : Nat) : Int).toNat, (ByteArray.mk #[]).toList⟩ : Vl) = _
  rw [ba_nil]
  rfl
theorem res_only {w w1 : World} {t : TypeId} {p : Nat} (ho : Only (fun k => k = p) (w.alloc (.cells #[.int .i64 0, .int .u64 0, .string ⟨#[]⟩] t)) w1) (hp : p < w.heap.size) :
    (w1.cell? ⟨w.heap.size, 0, none⟩ = some (.int .i64 0) ∧ w1.cell? ⟨w.heap.size, 1, none⟩ = some (.int .u64 0) ∧ w1.cell? ⟨w.heap.size, 2, none⟩ = some (.string ⟨#[]⟩)) ∧
    (w1.frozen? ⟨w.heap.size, 0, none⟩ = false ∧ w1.frozen? ⟨w.heap.size, 1, none⟩ = false ∧ w1.frozen? ⟨w.heap.size, 2, none⟩ = false) := by
  have h := ho.keep (heap_alloc_new w _) (fun e => by omega)
  simp [World.cell?, World.frozen?, h]
theorem rd_set3 {w w1 : World} {p : Nat} {d : Bool} {l : List UInt8} {bad : Bool} (h : RdIn p d l bad w1) (hp : p < w.heap.size) (a b c : Value) :
    RdIn p d l bad (((w1.setCell ⟨w.heap.size, 0, none⟩ a).setCell ⟨w.heap.size, 1, none⟩ b).setCell ⟨w.heap.size, 2, none⟩ c) := by
  have hne : p ≠ w.heap.size := by omega
  exact h.keep ((Below.heap_setCell _ _ _ _ hne).trans ((Below.heap_setCell _ _ _ _ hne).trans (Below.heap_setCell _ _ _ _ hne)))
theorem only_set3 {w w1 : World} {p : Nat} {o : Obj} (ho : Only (fun k => k = p) (w.alloc o) w1) (a b c : Value) :
    Only (fun k => k = p) w (((w1.setCell ⟨w.heap.size, 0, none⟩ a).setCell ⟨w.heap.size, 1, none⟩ b).setCell ⟨w.heap.size, 2, none⟩ c) :=
  (((((Only.refl _ w).alloc o).trans ho (fun _ _ e => e)).setCell (p := ⟨w.heap.size, 0, none⟩) (fun e => absurd e (Nat.lt_irrefl _)) a).setCell (p := ⟨w.heap.size, 1, none⟩) (fun e => absurd e (Nat.lt_irrefl _)) b).setCell (p := ⟨w.heap.size, 2, none⟩) (fun e => absurd e (Nat.lt_irrefl _)) c
theorem RdIn.alloc {p : Nat} {d : Bool} {l : List UInt8} {bad : Bool} {w : World} (h : RdIn p d l bad w) (o : Obj) : RdIn p d l bad (w.alloc o) := h.keep (Below.heap_alloc _ _ _ h.lt)
theorem raw1_num {k : Int} (hk : k = 1 ∨ k = 2) {d : Bool} {l : List UInt8} {n : Nat} (h : 8 ≤ l.length → n = numB ((turnL d l).take 8)) :
    raw1 k (turnL d l) = if (false || decide (l.length < 8)) = true then none else some (⟨k, if k = 1 then flipN n else n, []⟩, turnL d (l.drop 8)) := by
  unfold raw1
  rw [if_pos hk, turnL_length]
  by_cases hl : l.length < 8
  · rw [if_pos hl, if_pos (by simpa using hl)]
  · rw [if_neg hl, ← h (by omega), turnL_drop, if_neg (show ¬ (false || decide (l.length < 8)) = true by simpa using hl)]
theorem raw1_bool {d : Bool} {l : List UInt8} : raw1 3 (turnL d l) = if (false || l.isEmpty) = true then none else some (⟨3, (nxt d l).toNat, []⟩, turnL d (l.drop 1)) := by
  unfold raw1
  rw [if_neg (by decide), if_pos rfl]
  match l with
  | [] => rw [turnL_nil]; rfl
  | b :: r => rw [turnL_cons]; rfl
theorem raw1_text {k : Int} (hk : k = 4 ∨ k = 5) {d : Bool} {l s l' : List UInt8} {bad : Bool} (h : txtK (turnL d l) = none ∧ bad = true ∨ bad = false ∧ txtK (turnL d l) = some (s, turnL d l')) :
    raw1 k (turnL d l) = if bad = true then none else some (⟨k, 0, s⟩, turnL d l') := by
  unfold raw1
  rw [if_neg (by omega), if_neg (by omega)]
  rcases h with ⟨h, rfl⟩ | ⟨rfl, h⟩
  · rw [h]; rfl
  · rw [h]; rfl

set_option maxHeartbeats 2000000 in
theorem rd_there (p : Nat) (d : Bool) (k : Int) (l : List UInt8) (w : World) (h : RdIn p d l false w) (hl : l.length ≤ 4096) (hk1 : 1 ≤ k) (hk5 : k ≤ 5) :
    Calls Tryd.prog 43 #[.pointer (some ⟨p, 0, none⟩), .int .i64 k] w fun e w' => TherePost p d k l w e w' := by
  have H := Lib.hid h
  have HL := Lib.hid hl
  have hk : k = 1 ∨ k = 2 ∨ k = 3 ∨ k = 4 ∨ k = 5 := by omega
  clear h hl hk1 hk5
  rcases hk with rfl | rfl | rfl | rfl | rfl
  · go_enter Tryd.func43, Tryd.ntmps43
    go_wp2_with fail
    refine (rd_number p d l false _ (H.out.alloc _)).mono ?_
    rintro e w1 ⟨n, rfl, hn, hv, hr, ho⟩
    have hx := flip_bits n hn
    have HN := Lib.hid (flipN_lt hn)
    have HV := Lib.hid (raw1_num (.inl rfl) hv)
    have HR := Lib.hid (fun a b c => rd_set3 hr H.out.lt a b c)
    have HO := Lib.hid (fun a b c => only_set3 ho a b c)
    obtain ⟨⟨c0, c1, c2⟩, f0, f1, f2⟩ := res_only ho H.out.lt
    obtain ⟨m, hm⟩ : ∃ m, flipN n = m := ⟨_, rfl⟩
    have HM := Lib.hid hm
    rw [hm] at hx
    clear hn hv hr ho hm
    go_wp2
    refine bodyPost_ret (v := vlv 1 (m : Int) ⟨#[]⟩) (by simp [results, Tryd.results43, go_sem, c0, c1, c2]) rfl ?_
    refine ⟨1, m, ⟨#[]⟩, _, _, rfl, u64_nat (by rw [← HM.out]; exact HN.out), HR.out _ _ _, HO.out _ _ _, ?_⟩
    rw [HV.out, vl_nil, HM.out]; rfl
  · go_enter Tryd.func43, Tryd.ntmps43
    go_wp2_with fail
    refine (rd_number p d l false _ (H.out.alloc _)).mono ?_
    rintro e w1 ⟨m, rfl, hn, hv, hr, ho⟩
    have HN := Lib.hid hn
    have HV := Lib.hid (raw1_num (.inr rfl) hv)
    have HR := Lib.hid (fun a b c => rd_set3 hr H.out.lt a b c)
    have HO := Lib.hid (fun a b c => only_set3 ho a b c)
    obtain ⟨⟨c0, c1, c2⟩, f0, f1, f2⟩ := res_only ho H.out.lt
    clear hn hv hr ho
    go_wp2
    refine bodyPost_ret (v := vlv 2 (m : Int) ⟨#[]⟩) (by simp [results, Tryd.results43, go_sem, c0, c1, c2]) rfl ?_
    refine ⟨2, m, ⟨#[]⟩, _, _, rfl, u64_nat HN.out, HR.out _ _ _, HO.out _ _ _, ?_⟩
    rw [HV.out, vl_nil]; rfl
  · go_enter Tryd.func43, Tryd.ntmps43
    go_wp2_with fail
    refine (rd_next p d l false _ (H.out.alloc _)).mono ?_
    rintro e w1 ⟨rfl, hr, ho⟩
    have HV := Lib.hid (raw1_bool (d := d) (l := l))
    have HR := Lib.hid (fun a b c => rd_set3 hr H.out.lt a b c)
    have HO := Lib.hid (fun a b c => only_set3 ho a b c)
    obtain ⟨⟨c0, c1, c2⟩, f0, f1, f2⟩ := res_only ho H.out.lt
    obtain ⟨b, hb⟩ : ∃ b, nxt d l = b := ⟨_, rfl⟩
    rw [hb] at HV ⊢
    have hw : IntKind.u64.wrap (b.toNat : Int) = (b.toNat : Int) := by have := b.toNat_lt; rw [IntKind.wrap_u64]; omega
    clear hr ho hb
    go_wp2
    refine bodyPost_ret (v := vlv 3 (b.toNat : Int) ⟨#[]⟩) (by simp [results, Tryd.results43, go_sem, c0, c1, c2]) rfl ?_
    refine ⟨3, b.toNat, ⟨#[]⟩, _, _, rfl, u64_nat (by have := b.toNat_lt; omega), HR.out _ _ _, HO.out _ _ _, ?_⟩
    rw [HV.out, vl_nil]
  all_goals
    go_enter Tryd.func43, Tryd.ntmps43
    go_wp2_with fail
    refine (rd_text p d l _ (H.out.alloc _) HL.out).mono ?_
    rintro e w1 ⟨s, l', bad, rfl, hr, ho, hv⟩
    have HV := Lib.hid hv
    have HR := Lib.hid (fun a b c => rd_set3 hr H.out.lt a b c)
    have HO := Lib.hid (fun a b c => only_set3 ho a b c)
    obtain ⟨⟨c0, c1, c2⟩, f0, f1, f2⟩ := res_only ho H.out.lt
    clear hv hr ho
    go_wp2
  · refine bodyPost_ret (v := vlv 4 0 ⟨s.toArray⟩) (by simp [results, Tryd.results43, go_sem, c0, c1, c2]) rfl ?_
    refine ⟨4, 0, ⟨s.toArray⟩, l', bad, rfl, u64_nat (n := 0) (by omega), HR.out _ _ _, HO.out _ _ _, ?_⟩
    rw [raw1_text (.inl rfl) HV.out, show vl 4 0 ⟨s.toArray⟩ = ⟨4, 0, s⟩ from by show (⟨4, 0, (ByteArray.mk s.toArray).toList⟩ : Vl) = _; rw [ba_mk1]]
  · refine bodyPost_ret (v := vlv 5 0 ⟨s.toArray⟩) (by simp [results, Tryd.results43, go_sem, c0, c1, c2]) rfl ?_
    refine ⟨5, 0, ⟨s.toArray⟩, l', bad, rfl, u64_nat (n := 0) (by omega), HR.out _ _ _, HO.out _ _ _, ?_⟩
    rw [raw1_text (.inr rfl) HV.out, show vl 5 0 ⟨s.toArray⟩ = ⟨5, 0, s⟩ from by show (⟨5, 0, (ByteArray.mk s.toArray).toList⟩ : Vl) = _; rw [ba_mk1]]

def ValPost (p : Nat) (d : Bool) (k : Int) (l : List UInt8) (w : World) (e : Ending) (w' : World) : Prop :=
  ∃ (K N : Int) (S : ByteArray) (l' : List UInt8) (bad : Bool), e = .returned (vlv K N S) ∧ U64 N ∧ RdIn p d l' bad w' ∧ Only (fun k => k = p) w w' ∧
    val1 k (turnL d l) = if bad = true then none else okV (some (vl K N S, turnL d l'))

theorem val1_nil (k : Int) (d : Bool) : val1 k (turnL d []) = none := by rw [turnL_nil]; rfl
theorem val1_cons (k : Int) (d : Bool) (c : UInt8) (r : List UInt8) : val1 k (turnL d (c :: r)) = if nxt d (c :: r) = 0 then some (⟨0, 0, []⟩, turnL d r) else if nxt d (c :: r) = 1 then okV (raw1 k (turnL d r)) else none := by
  rw [turnL_cons]; rfl

set_option maxHeartbeats 2000000 in
theorem rd_value (p : Nat) (d : Bool) (k : Int) (l : List UInt8) (w : World) (h : RdIn p d l false w) (hl : l.length ≤ 4096) (hk1 : 1 ≤ k) (hk5 : k ≤ 5) :
    Calls Tryd.prog 32 #[.pointer (some ⟨p, 0, none⟩), .int .i64 k] w fun e w' => ValPost p d k l w e w' := by
  have H := Lib.hid h
  have HL := Lib.hid hl
  have HK := Lib.hid (And.intro hk1 hk5)
  clear h hl hk1 hk5
  rcases (show l = [] ∨ ∃ c r, l = c :: r by cases l with | nil => exact .inl rfl | cons c r => exact .inr ⟨c, r, rfl⟩) with rfl | ⟨c, r, rfl⟩
  · go_enter Tryd.func32, Tryd.ntmps32
    go_wp2_with fail
    refine (rd_next p d [] false _ (H.out.alloc _)).mono ?_
    rintro e w1 ⟨rfl, hr, ho⟩
    have HR := Lib.hid (fun a b c => rd_set3 hr H.out.lt a b c)
    have HO := Lib.hid (fun a b c => only_set3 ho a b c)
    obtain ⟨⟨c0, c1, c2⟩, f0, f1, f2⟩ := res_only ho H.out.lt
    clear ho hr
    rw [nxt_nil]
    go_wp2
    refine bodyPost_ret (v := vlv 0 0 ⟨#[]⟩) (by simp [results, Tryd.results32, go_sem, c0, c1, c2]) rfl ?_
    exact ⟨0, 0, _, [], true, rfl, u64_nat (n := 0) (by omega), HR.out _ _ _, HO.out _ _ _, by rw [val1_nil]; rfl⟩
  · go_enter Tryd.func32, Tryd.ntmps32
    go_wp2_with fail
    refine (rd_next p d (c :: r) false _ (H.out.alloc _)).mono ?_
    rintro e w1 ⟨rfl, hr, ho⟩
    have hr : RdIn p d r false w1 := hr
    have HR1 := Lib.hid hr
    have HO1 := Lib.hid ho
    have HR := Lib.hid (fun a b c => rd_set3 hr H.out.lt a b c)
    have HO := Lib.hid (fun a b c => only_set3 ho a b c)
    obtain ⟨⟨c0, c1, c2⟩, f0, f1, f2⟩ := res_only ho H.out.lt
    have hv := val1_cons k d c r
    obtain ⟨b, hb⟩ : ∃ b, nxt d (c :: r) = b := ⟨_, rfl⟩
    rw [hb] at hv ⊢
    clear hb hr ho
    by_cases hb0 : b = 0
    · rw [if_pos hb0] at hv
      have HV := Lib.hid hv
      rw [hb0, show ((0 : UInt8).toNat : Int) = 0 from rfl]
      clear hb0 hv
      go_wp2
      refine bodyPost_ret (v := vlv 0 0 ⟨#[]⟩) (by simp [results, Tryd.results32, go_sem, c0, c1, c2]) rfl ?_
      refine ⟨0, 0, _, r, false, rfl, u64_nat (n := 0) (by omega), HR.out _ _ _, HO.out _ _ _, ?_⟩
      rw [HV.out, show vl 0 0 ⟨#[]⟩ = ⟨0, 0, []⟩ from vl_nil 0 0]
      rfl
    · have hz := nxt_int hb0
      rw [if_neg hb0] at hv
      by_cases hb1 : b = 1
      · rw [if_pos hb1] at hv
        have HV := Lib.hid hv
        rw [hb1, show ((1 : UInt8).toNat : Int) = 1 from rfl]
        clear hb0 hb1 hv hz
        go_wp2_with fail
        refine (rd_there p d k r _ HR1.out (by have := HL.out; simp at this; omega) HK.out.1 HK.out.2).mono ?_
        rintro e w2 ⟨K, N, S, l', bad, rfl, hN, hr2, ho2, hw⟩
        have HN := Lib.hid hN
        have ho := HO1.out.trans ho2 (fun _ _ e => e)
        have HR2 := Lib.hid (fun a b c => rd_set3 hr2 H.out.lt a b c)
        have HO2 := Lib.hid (fun a b c => only_set3 ho a b c)
        have HW := Lib.hid hw
        clear c0 c1 c2 f0 f1 f2
        obtain ⟨⟨c0, c1, c2⟩, f0, f1, f2⟩ := res_only ho H.out.lt
        clear hN hr2 ho2 hw ho
        go_wp2
        refine bodyPost_ret (v := vlv K N S) (by simp [results, Tryd.results32, go_sem, c0, c1, c2]) rfl ?_
        refine ⟨K, N, S, l', bad, rfl, HN.out, HR2.out _ _ _, HO2.out _ _ _, ?_⟩
        rw [HV.out, HW.out]
        cases bad <;> rfl
      · rw [if_neg hb1] at hv
        have HV := Lib.hid hv
        have hz1 : ((b.toNat : Int) == 1) = false := by
          have : b.toNat ≠ 1 := fun e => hb1 (UInt8.toNat_inj.1 e)
          simp
          omega
        have cb := HR1.out.cell2
        have fb := HR1.out.free 2
        have ho := HO1.out.trans (Only.cell w1 p 2 (.bool true)) (fun _ _ e => e)
        have HR2 := Lib.hid (fun a b c => rd_set3 (HR1.out.mark true) H.out.lt a b c)
        have HO2 := Lib.hid (fun a b c => only_set3 ho a b c)
        have hne : p ≠ w.heap.size := by have := H.out.lt; omega
        clear hb0 hb1 hv ho
        go_wp2
        refine bodyPost_ret (v := vlv 0 0 ⟨#[]⟩) (by simp [results, Tryd.results32, go_sem, c0, c1, c2, hne, hne.symm]) rfl ?_
        exact ⟨0, 0, _, r, true, rfl, u64_nat (n := 0) (by omega), HR2.out _ _ _, HO2.out _ _ _, HV.out⟩

end Go.Proofs.YtpedcpehomkikaaDoor
