/-
  The reference's digits of a number.
-/
import Derived.Test.YtcpfohjejhkgbaaDoorValR2
import Derived.Test.YtcpfohjejhkgbaaDoorVal13
import Derived.Deep.RegionWith
namespace Go.Proofs.YtcpfohjejhkgbaaDoor
open Go Go.RowKit
set_option linter.unusedVariables false
set_option linter.unusedSimpArgs false
set_option maxRecDepth 100000

theorem conv1 (c : UInt8) (z : Int) (hz : (c.toNat : Int) = z) (W : World) (p : Nat) (h : W.cell? ⟨p, 0, none⟩ = some (.int .u8 z)) :
    (convert 43 9 (.slice (some ⟨p, 0, none⟩) 1 1)).run Tryd.prog W = .ok (.string ⟨#[c]⟩) W := by
  have h := run_convert_bytes_back (P := Tryd.prog) W 43 9 5 ⟨p, 0, none⟩ 1 [c] Tryd.underlying43 Tryd.underlying5 Tryd.underlying9 (fun j hj => by
    obtain rfl : j = 0 := by simp at hj; omega
    rw [Lib.add_plain]
    show W.cell? ⟨p, 0, none⟩ = some (.int .u8 (c.toNat : Int))
    rw [hz]
    exact h)
  exact h
theorem conv1_new (c : UInt8) (z : Int) (hz : (c.toNat : Int) = z) (W : World) :
    (convert 43 9 (.slice (some ⟨W.heap.size, 0, none⟩) 1 1)).run Tryd.prog (W.alloc (.cells #[.int .u8 z] 5)) = .ok (.string ⟨#[c]⟩) (W.alloc (.cells #[.int .u8 z] 5)) := conv1 c z hz _ _ (by go_simp)
theorem conv1_drew (c : UInt8) (z : Int) (hz : (c.toNat : Int) = z) (W : World) :
    (convert 43 9 (.slice (some ⟨W.heap.size, 0, none⟩) 1 1)).run Tryd.prog (W.alloc (.cells #[.int .u8 z] 5)).drew = .ok (.string ⟨#[c]⟩) (W.alloc (.cells #[.int .u8 z] 5)).drew := conv1 c z hz _ _ (by go_simp)
theorem conv1_later (c : UInt8) (z : Int) (hz : (c.toNat : Int) = z) {W W1 : World} (hb : Below (W.alloc (.cells #[.int .u8 z] 5)).drew.heap.size (W.alloc (.cells #[.int .u8 z] 5)).drew W1) :
    (convert 43 9 (.slice (some ⟨W.heap.size, 0, none⟩) 1 1)).run Tryd.prog W1 = .ok (.string ⟨#[c]⟩) W1 := conv1 c z hz _ _ (by rw [hb.cell (by simp)]; go_simp)
theorem dig_byte {r : Nat} (h : r < 10) : ((UInt8.ofNat (48 + r)).toNat : Int) = 48 + (r : Int) := by rw [ofNat_dig h]; omega

theorem bd1 {w w1 : World} (hb : Below w.drew.heap.size w.drew w1) (o : Obj) : Below w.heap.size w (w1.alloc o) := by
  have h : Below w.heap.size w w1 := ((Below.refl w.heap.size w).drew).trans (hb.mono (by simp))
  exact h.alloc h.size o
theorem bd2 {w w1 : World} {o : Obj} (hb : Below (w.alloc o).drew.heap.size (w.alloc o).drew w1) : Below w.heap.size w w1 :=
  (((Below.refl w.heap.size w).alloc (Nat.le_refl _) o).drew).trans (hb.mono (by simp))
theorem rdig_lo (n : Nat) (h10 : n < 10) (w : World) :
    Calls Tryd.prog 21 #[.int .u64 n] w fun e w' => e = .returned (.string ⟨(dig n).toArray⟩) ∧ Below w.heap.size w w' := by
  obtain ⟨z, hz⟩ : ∃ z : Int, 48 + (n : Int) = z := ⟨_, rfl⟩
  obtain ⟨c, hc⟩ : ∃ c, UInt8.ofNat (48 + n) = c := ⟨_, rfl⟩
  have hcv := conv1 c z (by rw [← hc, dig_byte h10, hz]) (w.alloc (.cells #[.int .u8 z] 5)) w.heap.size (by go_simp)
  have HB : Hid (Below w.heap.size w (w.alloc (.cells #[.int .u8 z] 5))) := Lib.hid ((Below.refl _ _).alloc (Nat.le_refl _) _)
  have HR : Hid ((⟨(dig n).toArray⟩ : ByteArray) = ⟨#[c]⟩) := Lib.hid (by rw [dig_lo h10, hc])
  obtain ⟨y, hy⟩ : ∃ y : Int, (n : Int) = y := ⟨_, rfl⟩
  have hlt : y < 10 := by omega
  have hy0 : 0 ≤ y := by omega
  rw [hy] at hz ⊢
  clear hy hc
  go_enter Tryd.func21, Tryd.ntmps21
  go_wp2_with fail
  go_ret
  exact ⟨by rw [HR.out]; rfl, HB.out⟩

set_option maxHeartbeats 2000000 in
theorem rdig_any : ∀ (f n : Nat) (hf : n ≤ f) (hn : n < M64) (w : World),
    Calls Tryd.prog 21 #[.int .u64 n] w fun e w' => e = .returned (.string ⟨(dig n).toArray⟩) ∧ Below w.heap.size w w' := by
  intro f
  induction f with
  | zero => exact fun n hf hn w => rdig_lo n (by omega) w
  | succ f ih =>
    intro n hf hn w
    by_cases h10 : n < 10
    · exact rdig_lo n h10 w
    · have HIH := Lib.hid (fun W => ih (n / 10) (by omega) (by omega) W)
      obtain ⟨Q, hQ⟩ : ∃ Q, dig (n / 10) = Q := ⟨_, rfl⟩
      obtain ⟨c, hc⟩ : ∃ c, UInt8.ofNat (48 + n % 10) = c := ⟨_, rfl⟩
      obtain ⟨z, hz⟩ : ∃ z : Int, 48 + ((n % 10 : Nat) : Int) = z := ⟨_, rfl⟩
      rw [hQ] at HIH
      have HR : Hid ((⟨(dig n).toArray⟩ : ByteArray) = (⟨Q.toArray⟩ : ByteArray) ++ ⟨#[c]⟩) := Lib.hid (by
        rw [dig_hi h10, hQ, hc]
        apply ba_eq
        rw [ba_append, ba_mk1, ba_mk1, show (ByteArray.mk #[c]).toList = [c] from ByteArray.toList_mk [_]])
      have HCZ : Hid ((c.toNat : Int) = z) := Lib.hid (by rw [← hc, dig_byte (Nat.mod_lt _ (by decide)), hz])
      have hcv := fun W => conv1_new c z HCZ.out W
      have hcv2 := conv1_drew c z HCZ.out w
      obtain ⟨y, hy⟩ : ∃ y : Int, (n : Int) = y := ⟨_, rfl⟩
      obtain ⟨q, hq⟩ : ∃ q : Int, ((n / 10 : Nat) : Int) = q := ⟨_, rfl⟩
      obtain ⟨r, hr⟩ : ∃ r : Int, ((n % 10 : Nat) : Int) = r := ⟨_, rfl⟩
      have hy0 : 0 ≤ y := by omega
      have hyq : y.tdiv 10 = q := by rw [Int.tdiv_eq_ediv_of_nonneg hy0]; omega
      have hyr : y.tmod 10 = r := by rw [Int.tmod_eq_emod_of_nonneg hy0]; omega
      have hr10 : 0 ≤ r ∧ r < 10 := by omega
      have hlt : ¬ y < 10 := by omega
      have hyM : y < 18446744073709551616 := by unfold M64 at hn; omega
      have hql : ¬ 9223372036854775807 < Q.length + 1 := by
        have : Q.length ≤ 20 := by rw [← hQ]; exact dig_len20 (by omega)
        omega
      rw [hq] at HIH
      rw [hr] at hz
      rw [hy]
      have hz58 : 0 ≤ z ∧ z < 58 := by omega
      have wq : IntKind.u64.wrap q = q := by rw [IntKind.wrap_u64]; omega
      have wz : IntKind.u64.wrap z = z := by rw [IntKind.wrap_u64]; omega
      have wz8 : IntKind.u8.wrap z = z := by rw [IntKind.wrap_u8]; omega
      clear ih hf hn hQ hy hq hr hc h10
      go_enter Tryd.func21, Tryd.ntmps21
      go_upto_region 3 with fail
      go_region_with (first
        | (go_at_call 21; (with_reducible refine (HIH.out _).mono ?_); rintro e w1 ⟨rfl, hb⟩; (first | (have hc1 := conv1_later c z HCZ.out hb) | skip))
        | fail)
      all_goals go_wp2
      all_goals go_ret
      all_goals refine ⟨by rw [HR.out]; rfl, ?_⟩
      all_goals first | exact bd1 hb _ | exact bd2 hb

end Go.Proofs.YtcpfohjejhkgbaaDoor
