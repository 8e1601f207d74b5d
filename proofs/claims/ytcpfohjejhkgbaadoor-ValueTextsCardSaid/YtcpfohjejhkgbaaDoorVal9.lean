/-
  Two digits read as a byte: strconv's ParseUint at base 16, eight bits, two bytes.
-/
import Derived.Test.YtcpfohjejhkgbaaDoorVal4
import Derived.Lib.ConvBytes
import Derived.Laws.BitsAllLaws
import Derived.FnData
namespace Go.Proofs.YtcpfohjejhkgbaaDoor
open Go Go.RowKit
set_option linter.unusedVariables false
set_option linter.unusedSimpArgs false
set_option maxRecDepth 100000

/-- What the reading of two bytes as digits may answer. -/
def HexPost (a b : UInt8) (n : Int) : Prop := 0 ≤ n ∧ n < 256 ∧ (half a < 16 → half b < 16 → n = ((half a * 16 + half b : Nat) : Int))
theorem half_dig {c : UInt8} (h1 : 48 ≤ c.toNat) (h2 : c.toNat ≤ 57) : half c = c.toNat - 48 := if_pos ⟨h1, h2⟩
theorem half_let {c : UInt8} (h1 : 97 ≤ c.toNat) (h2 : c.toNat ≤ 102) : half c = c.toNat - 87 := by
  unfold half; rw [if_neg (by omega), if_pos ⟨h1, h2⟩]
theorem half_cases {c : UInt8} (h : half c < 16) : (48 ≤ c.toNat ∧ c.toNat ≤ 57) ∨ (97 ≤ c.toNat ∧ c.toNat ≤ 102) := by
  unfold half at h
  split at h
  · omega
  · split at h
    · omega
    · omega
theorem or32 (c : UInt8) (h1 : 97 ≤ c.toNat) (h2 : c.toNat ≤ 102) : bits .or .u8 (c.toNat : Int) 32 = (c.toNat : Int) := by
  have : c.toNat = 97 ∨ c.toNat = 98 ∨ c.toNat = 99 ∨ c.toNat = 100 ∨ c.toNat = 101 ∨ c.toNat = 102 := by omega
  rcases this with h | h | h | h | h | h <;> rw [h] <;> decide
/-- What has been read of the bytes a, b in front of place k. -/
def HexAt (a b : UInt8) (k : Nat) (n : Int) : Prop :=
  k = 0 ∧ n = 0 ∨ k = 1 ∧ 0 ≤ n ∧ n < 16 ∧ (half a < 16 → n = (half a : Int)) ∨ k = 2 ∧ HexPost a b n
theorem HexAt.lo {a b : UInt8} {k : Nat} {n : Int} (h : HexAt a b k n) (hk : k < 2) : 0 ≤ n ∧ n < 16 := by
  rcases h with ⟨_, rfl⟩ | ⟨_, h1, h2, _⟩ | ⟨h, _⟩ <;> omega
/-- A digit more. -/
theorem HexAt.step {a b c : UInt8} {k : Nat} {n d : Int} (h : HexAt a b k n) (hk : k < 2) (hc : c = if k = 0 then a else b) (h0 : 0 ≤ d) (h16 : d < 16) (hd : half c < 16 → d = (half c : Int)) : HexAt a b (k + 1) (n * 16 + d) := by
  rcases h with ⟨rfl, rfl⟩ | ⟨rfl, h1, h2, h3⟩ | ⟨h, _⟩
  · rw [if_pos rfl] at hc
    subst hc
    exact .inr (.inl ⟨rfl, by omega, by omega, fun h => by have := hd h; omega⟩)
  · rw [if_neg (by decide)] at hc
    subst hc
    exact .inr (.inr ⟨rfl, by omega, by omega, fun ha hb => by have := hd hb; have := h3 ha; omega⟩)
  · omega
/-- What ends the reading early answers nothing that is asked. -/
theorem hex_bad {a b c : UInt8} {k : Nat} (hk : k < 2) (hc : c = if k = 0 then a else b) (h : ¬ half c < 16) : HexPost a b 0 := by
  refine ⟨by omega, by omega, fun ha hb => ?_⟩
  have : k = 0 ∨ k = 1 := by omega
  rcases this with rfl | rfl
  · rw [if_pos rfl] at hc; subst hc; exact absurd ha h
  · rw [if_neg (by decide)] at hc; subst hc; exact absurd hb h
def HexRet (a b : UInt8) (W : World) (e : Ending) (w' : World) : Prop :=
  ∃ (n : Int) (ev : Value), e = .returned (.tuple #[.int .u64 n, ev]) ∧ (ev = .nilIface ∨ ev = .iface 94 (.int .i64 2)) ∧ HexPost a b n ∧ W = w'

set_option maxHeartbeats 4000000 in
theorem hex_inner (s : ByteArray) (a b : UInt8) (hs : s.toList = [a, b]) (w : World) :
    Calls Tryd.prog 59 #[.string s, .int .i64 16, .int .i64 8] w fun e w' => HexRet a b (Lib.bytesWorld w 5 s) e w' := by
  have hsz : s.size = 2 := by rw [← ba_size, hs]; rfl
  have hemp : s.toList.isEmpty = false := by rw [hs]; rfl
  have hcv := Lib.run_convert_string_bytes (P := Tryd.prog) w 9 43 5 s (u := .string) Tryd.underlying9 Tryd.underlying43 Tryd.underlying5
  have hB0 : (Lib.bytesWorld w 5 s).cell? ⟨w.heap.size, 0, none⟩ = some (.int .u8 (a.toNat : Int)) := by
    rw [Lib.bytesWorld_cell w 5 s 0 (by omega), ← ByteArray.toList_eq, hs]; rfl
  have hB1 : (Lib.bytesWorld w 5 s).cell? ⟨w.heap.size, 1, none⟩ = some (.int .u8 (b.toNat : Int)) := by
    rw [Lib.bytesWorld_cell w 5 s 1 (by omega), ← ByteArray.toList_eq, hs]; rfl
  obtain ⟨W1, hW1⟩ : ∃ W1, W1 = Lib.bytesWorld w 5 s := ⟨_, rfl⟩
  rw [← hW1, hsz] at hcv
  rw [← hW1] at hB0 hB1 ⊢
  obtain ⟨cp, hcv⟩ : ∃ cp, (convert 9 43 (.string s)).run Tryd.prog w = .ok (.slice (some ⟨w.heap.size, 0, none⟩) 2 cp) W1 := ⟨_, hcv⟩
  have H0 := Lib.hid hB0
  have H1 := Lib.hid hB1
  clear hW1 hsz hB0 hB1 hs
  go_enter Tryd.func59, Tryd.ntmps59
  go_wp2
  go_loop [12, 13, 101] (fun vu vn vi => ∃ (k : Nat) (n : Int), vu = .bool false ∧ vn = .int .u64 n ∧ vi = .int .i64 k ∧ k ≤ 2 ∧ Hid (HexAt a b k n)) (fun _ _ vi => 2 - (intOf vi).toNat)
  case atStart => exact ⟨0, 0, rfl, rfl, rfl, by omega, .inl ⟨rfl, rfl⟩⟩
  case round =>
    obtain ⟨k, n, rfl, rfl, rfl, hk, HA⟩ := hrel
    by_cases hlt : k < 2
    · obtain ⟨n0, n16⟩ := HA.out.lo hlt
      obtain ⟨c, hc⟩ : ∃ c, c = if k = 0 then a else b := ⟨_, rfl⟩
      have HC := Lib.hid hc
      have hcell : W1.cell? ⟨w.heap.size, k, none⟩ = some (.int .u8 (c.toNat : Int)) := by
        have : k = 0 ∨ k = 1 := by omega
        rcases this with rfl | rfl
        · rw [hc, if_pos rfl]; exact H0.out
        · rw [hc, if_neg (by decide)]; exact H1.out
      obtain ⟨x, hx⟩ : ∃ x : Int, (c.toNat : Int) = x := ⟨_, rfl⟩
      rw [hx] at hcell
      have HX := Lib.hid hx
      have x0 : 0 ≤ x ∧ x < 256 := by have := c.toNat_lt; omega
      have HLT := Lib.hid hlt
      have hk2 : (k : Int) < 2 := by omega
      have hko : (k : Int) = 0 ∨ (k : Int) = 1 := by omega
      clear hx hc
      by_cases hdig : 48 ≤ x ∧ x ≤ 57
      · obtain ⟨hd0, hd1⟩ := hdig
        have HS := Lib.hid (HA.out.step hlt HC.out (d := x - 48) (by omega) (by omega) (fun _ => by rw [half_dig (by have := HX.out; omega) (by have := HX.out; omega)]; have := HX.out; omega))
        have d1 : ¬ x - 48 ≥ 16 := by omega
        have m0 : 0 ≤ n * 16 ∧ n * 16 ≤ 240 := by omega
        have s0 : 0 ≤ n * 16 + (x - 48) ∧ n * 16 + (x - 48) ≤ 255 := by omega
        have s1 : ¬ n * 16 + (x - 48) < n * 16 := by omega
        have xu : (x == 95) = false := by simp; omega
        clear hlt hk
        go_wp2
        go_round
        case rel => exact ⟨k + 1, n * 16 + (x - 48), rfl, rfl, by go_num, by have := HLT.out; omega, HS⟩
        case measure => have := HLT.out; simp [intOf]; omega
      · obtain ⟨l, hl⟩ : ∃ l, bits .or .u8 x 32 = l := ⟨_, rfl⟩
        have l0 : 0 ≤ l := by rw [← hl]; exact bits_lo_u8 .or x 32
        have l1 : l ≤ 255 := by rw [← hl]; exact bits_hi_u8 .or x 32
        have HLX : Hid (half c < 16 → l = x) := Lib.hid (fun h => by
          rcases half_cases h with h | h
          · have := HX.out; omega
          · rw [← hl, ← HX.out]; exact or32 c h.1 h.2)
        have HH : Hid (half c < 16 → (half c : Int) = x - 87 ∧ 97 ≤ x ∧ x ≤ 102) := Lib.hid (fun h => by
          rcases half_cases h with h | h
          · have := HX.out; omega
          · have := HX.out; rw [half_let h.1 h.2]; omega)
        have hnd : ¬ 48 ≤ x ∨ (48 ≤ x ∧ ¬ x ≤ 57) := by omega
        have H95 : Hid (x = 95 → l = 127) := Lib.hid (fun h => by rw [← hl, h]; decide)
        by_cases hb : 97 ≤ l ∧ l ≤ 122
        · obtain ⟨b0, b1⟩ := hb
          have xu : (x == 95) = false := by
            have := H95.out
            simp
            omega
          by_cases hd : l ≤ 102
          · have HS := Lib.hid (HA.out.step hlt HC.out (d := l - 97 + 10) (by omega) (by omega) (fun h => by have := HH.out h; have := HLX.out h; omega))
            have d1 : ¬ l - 97 + 10 ≥ 16 := by omega
            have dd : 0 ≤ l - 97 + 10 ∧ l - 97 + 10 ≤ 255 := by omega
            have m0 : 0 ≤ n * 16 ∧ n * 16 ≤ 240 := by omega
            have s0 : 0 ≤ n * 16 + (l - 97 + 10) ∧ n * 16 + (l - 97 + 10) ≤ 255 := by omega
            have s1 : ¬ n * 16 + (l - 97 + 10) < n * 16 := by omega
            clear hlt hk hdig
            rcases hnd with h | ⟨h, h'⟩
            all_goals
              go_wp2_with (first | (go_at_call 70; refine (Tryd.internal_strconv_lower _ _).mono ?_; rintro e w' ⟨rfl, rfl⟩))
              go_round
              case rel => exact ⟨k + 1, n * 16 + (l - 97 + 10), rfl, rfl, by go_num, by have := HLT.out; omega, HS⟩
              case measure => have := HLT.out; simp [intOf]; omega
          · have HS := Lib.hid (hex_bad hlt HC.out (fun h => by have := HH.out h; have := HLX.out h; omega))
            have d1 : l - 97 + 10 ≥ 16 := by omega
            have dd : 0 ≤ l - 97 + 10 ∧ l - 97 + 10 ≤ 255 := by omega
            clear hlt hk hdig
            rcases hnd with h | ⟨h, h'⟩
            all_goals
              go_wp2_with (first | (go_at_call 70; refine (Tryd.internal_strconv_lower _ _).mono ?_; rintro e w' ⟨rfl, rfl⟩))
              go_ret2
              exact ⟨0, _, rfl, .inr rfl, HS.out, rfl⟩
        · have HS := Lib.hid (hex_bad hlt HC.out (fun h => by have := HH.out h; have := HLX.out h; omega))
          have hnl : ¬ 97 ≤ l ∨ (97 ≤ l ∧ ¬ l ≤ 122) := by omega
          clear hlt hk hdig hb
          have hu : (x == 95) = true ∨ (x == 95) = false := by cases (x == 95) <;> simp
          rcases hnd with h | ⟨h, h'⟩ <;> rcases hnl with hl1 | ⟨hl1, hl2⟩ <;> rcases hu with hu | hu
          all_goals
            go_wp2_with (first | (go_at_call 70; refine (Tryd.internal_strconv_lower _ _).mono ?_; rintro e w' ⟨rfl, rfl⟩))
            go_ret2
            exact ⟨0, _, rfl, .inr rfl, HS.out, rfl⟩
    · have hk2 : k = 2 := by omega
      subst hk2
      have HP : Hid (HexPost a b n) := Lib.hid (by
        rcases HA.out with ⟨h, _⟩ | ⟨h, _⟩ | ⟨_, h⟩
        · omega
        · omega
        · exact h)
      clear hlt hk
      go_wp2
      go_ret2
      exact ⟨n, _, rfl, .inl rfl, HP.out, rfl⟩

end Go.Proofs.YtcpfohjejhkgbaaDoor
