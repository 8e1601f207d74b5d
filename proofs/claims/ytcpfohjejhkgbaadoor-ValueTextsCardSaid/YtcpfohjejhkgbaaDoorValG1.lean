/-
  What the reference's guess needs: texts read byte by byte (pure), a row's string.
-/
import Derived.Test.YtcpfohjejhkgbaaDoorValR9
namespace Go.Proofs.YtcpfohjejhkgbaaDoor
open Go Go.RowKit
set_option linter.unusedVariables false
set_option linter.unusedSimpArgs false
set_option maxRecDepth 100000

theorem unhex_few {l : List UInt8} (h : l.length ≤ 1) : unhex l = [] := by
  match l, h with
  | [], _ => rfl
  | [_], _ => rfl
theorem unesc_few {l : List UInt8} (h : l.length ≤ 1) : unesc l = [] := by
  match l, h with
  | [], _ => rfl
  | [_], _ => rfl
theorem unesc_own {c : UInt8} {r : List UInt8} (hr : 1 ≤ r.length) (h : c.toNat ≠ 92 ∨ r.length ≤ 1) : unesc (c :: r) = c :: unesc r := by
  match r, hr, h with
  | [b], _, _ => rfl
  | a :: b :: q, _, h =>
    rw [unesc, if_neg]
    rcases h with h | h
    · exact h
    · simp at h
theorem unesc_esc3 {c a b : UInt8} {r : List UInt8} (h : c.toNat = 92) : unesc (c :: a :: b :: r) = un16 a b :: unesc r := by
  rw [unesc, if_pos h]
theorem half_le (c : UInt8) : half c ≤ 16 := by
  unfold half
  split
  · omega
  · split <;> omega
theorem un16_int (a b : UInt8) : (((half a : Nat) : Int) * 16 + ((half b : Nat) : Int)) % 256 = ((un16 a b).toNat : Int) := by
  unfold un16
  rw [UInt8.toNat_ofNat']
  omega
theorem RowB.conv' {B : Nat} {v : Value} {l : List UInt8} {W : World} (h : RowB B v l W) :
    (convert 43 9 v).run Tryd.prog W = .ok (.string ⟨l.toArray⟩) W := by
  by_cases hl : l = []
  · subst hl
    have back : ∀ b cap, (convert 43 9 (.slice (some ⟨b, 0, none⟩) 0 cap)).run Tryd.prog W = .ok (.string ⟨([] : List UInt8).toArray⟩) W := fun b cap =>
      run_convert_bytes_back (P := Tryd.prog) W 43 9 5 ⟨b, 0, none⟩ cap [] Tryd.underlying43 Tryd.underlying5 Tryd.underlying9 (fun j hj => by simp at hj)
    rcases h with ⟨b, rfl, _⟩ | h
    · exact back b _
    · rcases h.2 with ⟨rfl, _⟩ | ⟨g, cap, cur, rfl, _⟩
      · rw [run_convert_bytes_string W 43 9 5 none 0 0 Tryd.underlying43 Tryd.underlying5 Tryd.underlying9]
        first | (show _ = _; kernel_rfl) | rfl | (simp [Conv.bytesToString]; done)
      · exact back g cap
  · exact h.conv hl
theorem rowB_nil (B : Nat) (W : World) : RowB B (.slice none 0 0) [] W := .inr (World.ownsRow_nil _ _ _ _)
/-- The bytes of a string from a place on. -/
theorem drop1_get (s : ByteArray) (k : Nat) (h : k < s.size) : s.toList.drop k = s[k] :: s.toList.drop (k + 1) := drop_get s k h
theorem head_of (s : ByteArray) (h : 0 < s.size) : s.toList = s[0] :: s.toList.drop 1 := by
  have := drop_get s 0 h
  rwa [List.drop_zero] at this

/-- Three wraps of a step of the number. -/
theorem step_wraps (x : Nat) (hx : x < M64) (c : UInt8) : ∃ y1 y2 : Int, ((x : Int) * 10) % 18446744073709551616 = y1 ∧ (y1 + (c.toNat : Int)) % 18446744073709551616 = y2 ∧ (y2 - 48) % 18446744073709551616 = ((stepM x c : Nat) : Int) := by
  refine ⟨_, _, rfl, rfl, ?_⟩
  unfold stepM M64 at *
  have := c.toNat_lt
  omega

end Go.Proofs.YtcpfohjejhkgbaaDoor
