/-
  Two digits read as a byte: strconv's ParseUint at base 16, eight bits, two bytes.
-/
import Derived.Test.YtpedcpehomkikaaDoorVal4
import Derived.Lib.ConvBytes
import Derived.Laws.BitsAllLaws
import Derived.FnData
namespace Go.Proofs.YtpedcpehomkikaaDoor
open Go Go.RowKit
set_option linter.unusedVariables false
set_option linter.unusedSimpArgs false
set_option maxRecDepth 100000

/-- What the reading of two bytes as digits may answer. -/
def HexPost (a b : UInt8) (n : Int) : Prop := 0 ≤ n ∧ n < 256 ∧ (half a < 16 → half b < 16 → n = ((half a * 16 + half b : Nat) : Int))
theorem half_dig {c : UInt8} (h1 : 48 ≤ c.toNat) (h2 : c.toNat ≤ 57) : half c = c.toNat - 48 := if_pos ⟨h1, h2⟩
theorem half_let {c : UInt8} (h1 : 97 ≤ c.toNat) (h2 : c.toNat ≤ 102) : half c = c.toNat - 87 := by
  unfold half; rw [if_neg (by omega), if_pos ⟨h1, h2⟩]
theorem half_cases {c : UInt8} (h : half c < 16) : (48 ≤ c.toNat ∧ c.toNat ≤ 57) ∨ (97 ≤ c.toNat ∧ c.toNat ≤ 102) := by
  unfold half at h
  split at h
  · omega
  · split at h
    · omega
    · omega
theorem or32 (c : UInt8) (h1 : 97 ≤ c.toNat) (h2 : c.toNat ≤ 102) : bits .or .u8 (c.toNat : Int) 32 = (c.toNat : Int) := by
  have : c.toNat = 97 ∨ c.toNat = 98 ∨ c.toNat = 99 ∨ c.toNat = 100 ∨ c.toNat = 101 ∨ c.toNat = 102 := by omega
  rcases this with h | h | h | h | h | h <;> rw [h] <;> decide
/-- What has been read of the bytes a, b in front of place k. -/
def HexAt (a b : UInt8) (k : Nat) (n : Int) : Prop :=
  k = 0 ∧ n = 0 ∨ k = 1 ∧ 0 ≤ n ∧ n < 16 ∧ (half a < 16 → n = (half a : Int)) ∨ k = 2 ∧ HexPost a b n
theorem HexAt.lo {a b : UInt8} {k : Nat} {n : Int} (h : HexAt a b k n) (hk : k < 2) : 0 ≤ n ∧ n < 16 := by
  rcases h with ⟨_, rfl⟩ | ⟨_, h1, h2, _⟩ | ⟨h, _⟩ <;> omega
/-- A digit more. -/
theorem HexAt.step {a b c : UInt8} {k : Nat} {n d : Int} (h : HexAt a b k n) (hk : k < 2) (hc : c = if k = 0 then a else b) (h0 : 0 ≤ d) (h16 : d < 16) (hd : half c < 16 → d = (half c : Int)) : HexAt a b (k + 1) (n * 16 + d) := by
  rcases h with ⟨rfl, rfl⟩ | ⟨rfl, h1, h2, h3⟩ | ⟨h, _⟩
  · rw [if_pos rfl] at hc
    subst hc
    exact .inr (.inl ⟨rfl, by omega, by omega, fun h => by have := hd h; omega⟩)
  · rw [if_neg (by decide)] at hc
    subst hc
    exact .inr (.inr ⟨rfl, by omega, by omega, fun ha hb => by have := hd hb; have := h3 ha; omega⟩)
  · omega
/-- What ends the reading early answers nothing that is asked. -/
theorem hex_bad {a b c : UInt8} {k : Nat} (hk : k < 2) (hc : c = if k = 0 then a else b) (h : ¬ half c < 16) : HexPost a b 0 := by
  refine ⟨by omega, by omega, fun ha hb => ?_⟩
  have : k = 0 ∨ k = 1 := by omega
  rcases this with rfl | rfl
  · rw [if_pos rfl] at hc; subst hc; exact absurd ha h
  · rw [if_neg (by decide)] at hc; subst hc; exact absurd hb h


end Go.Proofs.YtpedcpehomkikaaDoor
