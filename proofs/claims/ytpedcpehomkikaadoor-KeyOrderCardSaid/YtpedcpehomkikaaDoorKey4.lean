/-
  Kinds: package key's isNoKind, and slices.ContainsFunc of it.
-/
import Derived.Test.YtpedcpehomkikaaDoorKey3
import Derived.Test.YtpedcpehomkikaaDoorOpen
namespace Go.Proofs.YtpedcpehomkikaaDoor
open Go Go.RowKit
set_option linter.unusedVariables false
set_option linter.unusedSimpArgs false
set_option maxRecDepth 100000

def noKind (k : Int) : Bool := decide (k < 1) || decide (5 < k)
theorem no_kind (k : Int) (w : World) : Calls Tryd.prog 31 #[.int .i64 k] w fun e w' => e = .returned (.bool (noKind k)) ∧ w = w' := by
  by_cases h1 : k < 1
  · have e : noKind k = true := by simp [noKind, h1]
    rw [e]
    go_enter Tryd.func31, Tryd.ntmps31
    go_wp2
    go_ret
    exact ⟨rfl, rfl⟩
  · by_cases h2 : 5 < k
    · have e : noKind k = true := by simp [noKind, h2]
      rw [e]
      go_enter Tryd.func31, Tryd.ntmps31
      go_wp2
      go_ret
      exact ⟨rfl, rfl⟩
    · have e : noKind k = false := by simp [noKind, h1, h2]
      rw [e]
      go_enter Tryd.func31, Tryd.ntmps31
      go_wp2
      go_ret
      exact ⟨rfl, rfl⟩

theorem SlI.at {w : World} {ao : Option Addr} {ks : List Int} (h : SlI w ao ks) {j : Nat} (hj : j < ks.length) : ∃ g off, ao = some ⟨g, off, none⟩ ∧ w.cell? ⟨g, off + j, none⟩ = some (.int .i64 (ks.getD j 0)) := h j hj
theorem any_take (ks : List Int) (k : Nat) (hk : k < ks.length) : (ks.take (k + 1)).any noKind = ((ks.take k).any noKind || noKind (ks.getD k 0)) := by
  rw [List.take_succ_eq_append_getElem hk, List.any_append]
  simp [hk]
set_option maxHeartbeats 1000000 in
theorem index_kind (ao : Option Addr) (n c : Nat) (ks : List Int) (w : World) (hs : SlI w ao ks) (hn : n = ks.length) (hlen : ks.length ≤ 140737488355328) :
    Calls Tryd.prog 41 #[.slice ao n c, .func (.func 31) #[] #[]] w fun e w' => ∃ z : Int, e = .returned (.int .i64 z) ∧ decide (0 ≤ z) = ks.any noKind ∧ w = w' := by
  have HS := Lib.hid hs
  have HN := Lib.hid hn
  have hn47 : n ≤ 140737488355328 := by omega
  clear hs hn hlen
  go_enter Tryd.func41, Tryd.ntmps41
  go_wp2
  go_loop [5, 8] (fun _ i => ∃ k : Nat, k ≤ n ∧ i = .int .i64 (k : Int) ∧ Hid ((ks.take k).any noKind = false)) (fun _ i => n - (intOf i).toNat)
  case atStart => exact ⟨0, Nat.zero_le _, rfl, Lib.hid rfl⟩
  case round =>
    obtain ⟨k, hk, rfl, HA⟩ := hrel
    by_cases hlt : k < n
    · obtain ⟨g, off, rfl, hc⟩ := HS.out.at (j := k) (by have := HN.out; omega)
      obtain ⟨z, hz⟩ : ∃ z, ks.getD k 0 = z := ⟨_, rfl⟩
      rw [hz] at hc
      have HZ := Lib.hid hz
      have hltI : (k : Int) < (n : Int) := by omega
      clear hz
      go_wp2_with fail
      refine (no_kind z _).mono ?_
      rintro e w1 ⟨rfl, rfl⟩
      cases hb : noKind z with
      | true =>
        have HB := Lib.hid hb
        clear hb
        go_wp2_with fail
        go_ret
        refine ⟨k, rfl, ?_, rfl⟩
        have h1 := any_take ks k (by have := HN.out; omega)
        rw [HZ.out, HB.out, Bool.or_true] at h1
        have : ks.any noKind = true := by
          rw [List.any_eq_true] at h1 ⊢
          obtain ⟨x, hx, hp⟩ := h1
          exact ⟨x, List.mem_of_mem_take hx, hp⟩
        rw [this]
        exact decide_eq_true (by omega)
      | false =>
        have HB := Lib.hid hb
        clear hb
        go_wp2_with fail
        go_round
        case rel =>
          refine ⟨k + 1, by omega, by go_num, Lib.hid ?_⟩
          rw [any_take ks k (by have := HN.out; omega), HA.out, HZ.out, HB.out]
          rfl
        case measure => simp [intOf]; omega
    · go_wp2_with fail
      go_ret
      refine ⟨-1, rfl, ?_, rfl⟩
      have h1 := HA.out
      rw [List.take_of_length_le (by have := HN.out; omega)] at h1
      rw [h1]
      rfl

theorem contains_kind (ao : Option Addr) (n c : Nat) (ks : List Int) (w : World) (hs : SlI w ao ks) (hn : n = ks.length) (hlen : ks.length ≤ 140737488355328) :
    Calls Tryd.prog 30 #[.slice ao n c, .func (.func 31) #[] #[]] w fun e w' => e = .returned (.bool (ks.any noKind)) ∧ w = w' := by
  have HC := Lib.hid (index_kind ao n c ks w hs hn hlen)
  clear hs hn hlen
  obtain ⟨B, hB⟩ : ∃ B, ks.any noKind = B := ⟨_, rfl⟩
  rw [hB] at HC ⊢
  clear hB
  go_enter Tryd.func30, Tryd.ntmps30
  go_wp2_with fail
  refine HC.out.mono ?_
  rintro e w1 ⟨z, rfl, hz, rfl⟩
  have HZ := Lib.hid hz
  clear HC hz
  obtain ⟨b, hb⟩ : ∃ b : Bool, decide (0 ≤ z) = b := ⟨_, rfl⟩
  have HBB : Hid (b = B) := Lib.hid (by rw [← HZ.out, hb])
  cases b with
  | true =>
    have h : 0 ≤ z := of_decide_eq_true hb
    clear hb
    go_wp2_with fail
    go_ret
    exact ⟨by rw [← HBB.out]; rfl, rfl⟩
  | false =>
    have h : ¬ 0 ≤ z := of_decide_eq_false hb
    go_wp2_with fail
    go_ret
    exact ⟨by rw [← HBB.out]; first | rfl | (rw [← hb]; rfl), rfl⟩

end Go.Proofs.YtpedcpehomkikaaDoor
