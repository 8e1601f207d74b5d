/-
  Contracts of package pack's In: number.
-/
import Derived.Test.YtookbmpaoljelaaBeB
import Derived.Test.YtookbmpaoljelaaPackIn2
import Derived.Laws.Bits64b
namespace Go.Proofs.Ytookbmpaoljelaa
open Go Go.RowKit
set_option linter.unusedVariables false
set_option linter.unusedSimpArgs false
set_option maxRecDepth 100000

theorem SlB.cells {w : World} {ao : Option Addr} {n cap : Nat} {ys : List UInt8} (h : SlB w (.slice ao n cap) ys) {k : Nat} (hk : k < ys.length) :
    ∃ g off, ao = some ⟨g, off, none⟩ ∧ w.cell? ⟨g, off + k, none⟩ = some (.int .u8 (ys.getD k 0).toNat) := by
  rcases h with ⟨_, rfl⟩ | ⟨g, off, cap', cur, hv, _, _, hg, hx⟩
  · simp at hk
  · simp only [Value.slice.injEq] at hv
    exact ⟨g, off, hv.1, by simp [World.cell?, hg, hx k hk]⟩
def NumPost (w : World) (p n : Nat) (xs : List UInt8) (bad : Bool) (e : Ending) (w' : World) : Prop :=
  ∃ v', e = .returned (.int .u64 (numB (nextR n xs bad))) ∧ InV w' p v' (nextL n xs bad) (!can n xs bad) ∧ Only (fun k => k = p) w w'

set_option maxHeartbeats 400000 in
theorem number_any (p n : Nat) (v : Value) (xs : List UInt8) (bad : Bool) (w : World) (hI : InV w p v xs bad) (hn8 : n ≤ 8) :
    Calls Try.prog 92 #[.pointer (some ⟨p, 0, none⟩), .int .i64 n] w (NumPost w p n xs bad) := by
  go_enter Try.func92, Try.ntmps92
  go_wp2_with fail
  refine (next_any p n v xs bad w hI).mono ?_
  rintro e w1 ⟨r, v', rfl, hr, hI', ho⟩
  obtain ⟨ys, hys⟩ : ∃ ys, ys = nextR n xs bad := ⟨_, rfl⟩
  rw [← hys] at hr
  have hl8 : ys.length ≤ 8 := by rw [hys]; unfold nextR; split <;> simp; omega
  obtain ⟨ao, cap, hre, hlc, hcm⟩ := hr.shape
  have HR := Lib.hid hr; clear hr
  have HY := Lib.hid hys; clear hys
  have HI' := Lib.hid hI'; clear hI'
  have HO := Lib.hid ho; clear ho
  have HI := Lib.hid hI; clear hI
  subst hre
  go_wp2_with fail
  go_loop [5, 12] (fun x i => ∃ k : Nat, k ≤ ys.length ∧ i = .int .i64 k ∧ x = .int .u64 (numB (ys.take k))) (fun _ i => ys.length - (intOf i).toNat)
  case atStart => exact ⟨0, Nat.zero_le _, rfl, rfl⟩
  case round =>
    obtain ⟨k, hk, rfl, rfl⟩ := hrel
    by_cases hlt : k < ys.length
    · obtain ⟨g, off, hao, hcell⟩ := HR.out.cells hlt
      have hbd : (ys.getD k 0).toNat < 256 := (ys.getD k 0).toNat_lt
      have hnb := Lib.hid (numB_take_lt ys k hlt hl8)
      have hnb' := hnb.out
      have hbd' := Lib.hid hbd
      have HT := Lib.hid (take_snoc8 ys k hlt)
      have HG : Hid (ys.getD k 0 = ys[k]) := by simp [Hid, hlt]
      subst hao
      go_wp2
      go_round
      case rel =>
        refine ⟨k + 1, by omega, by go_num, ?_⟩
        rw [← HG.out, or_step _ _ hnb.out hbd'.out, HT.out, numB_snoc]
      case measure => simp [intOf]; omega
    · have hke : k = ys.length := by omega
      go_wp2
      go_ret
      refine ⟨v', ?_, HI'.out, HO.out⟩
      rw [← HY.out]
      rfl

end Go.Proofs.Ytookbmpaoljelaa
