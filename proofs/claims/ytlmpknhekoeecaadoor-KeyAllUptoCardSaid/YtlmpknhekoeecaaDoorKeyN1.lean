/-
  The document's own keys: an Out's Num.
-/
import Derived.Test.YtlmpknhekoeecaaDoorRowJ6
namespace Go.Proofs.YtlmpknhekoeecaaDoor
open Go Go.RowKit
set_option linter.unusedVariables false
set_option linter.unusedSimpArgs false
set_option maxRecDepth 100000

/-- The reference's Out in block p, its bytes in a row of their own. -/
abbrev ROut (p : Nat) (v : Value) (xs : List UInt8) (J : Res) : Res := Sep (OutB v xs) (Sep (Blk p (.cells #[v] 90 (0, 0))) J)
theorem rout_cell {w0 w : World} {p : Nat} {v : Value} {xs : List UInt8} {J : Res} [Stab J] (h : Own w0 w (ROut p v xs J)) : w.cell? ⟨p, 0, none⟩ = some v ∧ w.frozen? ⟨p, 0, none⟩ = false := by
  have := h.swap.held
  constructor
  · simp [World.cell?, this]
  · simp [World.frozen?, this]
theorem rout_held {w0 w : World} {p : Nat} {v v1 : Value} {xs : List UInt8} {J : Res} [Stab J] (h : Own w0 w (Sep (OutB v1 xs) (Sep (Blk p (.cells #[v] 90 (0, 0))) J))) : w.cell? ⟨p, 0, none⟩ = some v ∧ w.frozen? ⟨p, 0, none⟩ = false := by
  have := h.swap.held
  constructor
  · simp [World.cell?, this]
  · simp [World.frozen?, this]
theorem rout_store {w0 w : World} {p : Nat} {v v1 : Value} {xs : List UInt8} {J : Res} [Stab J] (h : Own w0 w (Sep (OutB v1 xs) (Sep (Blk p (.cells #[v] 90 (0, 0))) J))) : Own w0 (w.setCell ⟨p, 0, none⟩ v1) (ROut p v1 xs J) := by
  have := h.swap.store 0 v1
  rw [show (#[v] : Array Value).setIfInBounds 0 v1 = #[v1] from rfl] at this
  exact this.swap

set_option maxHeartbeats 2000000 in
theorem rnum (w0 w : World) (p x n : Nat) (v : Value) (xs : List UInt8) (J : Res) [Stab J] (h : Own w0 w (ROut p v xs J)) (hn8 : n ≤ 8) (hx : x < 18446744073709551616) (hlen : xs.length ≤ 900000) :
    Calls Tryd.prog 54 #[.pointer (some ⟨p, 0, none⟩), .int .u64 x, .int .i64 n] w fun e w' => ∃ v', e = .returned (.tuple #[]) ∧ Own w0 w' (ROut p v' (xs ++ beB n x) J) := by
  have H := Lib.hid h
  have HL := Lib.hid hlen
  have HX := Lib.hid hx
  clear h hlen hx
  go_enter Tryd.func54, Tryd.ntmps54
  go_wp2_with fail
  go_loopw [6] (fun i wr => ∃ (k : Nat) (D : List UInt8) (v' : Value), k ≤ n ∧ i = .int .i64 ((k : Int) - 1) ∧ Hid (D ++ beB k x = beB n x) ∧ Hid (Own w0 wr (ROut p v' (xs ++ D) J))) (fun i _ => (intOf i + 1).toNat)
  case atStart => exact ⟨n, [], v, Nat.le_refl _, rfl, Lib.hid rfl, Lib.hid (by rw [List.append_nil]; exact H.out)⟩
  case round =>
    clear H
    obtain ⟨k, D, v', hk, rfl, HD, HO⟩ := hrel
    match k, hk, HD with
    | 0, hk, HD =>
      go_wp2
      refine bodyPost_end (results_none rfl _ _ _) rfl ⟨v', rfl, ?_⟩
      have := HD.out
      rw [← this, beB, List.append_nil]
      exact HO.out
    | m + 1, hk, HD =>
      rw [show (((m + 1 : Nat) : Int) - 1) = (m : Int) from by omega]
      obtain ⟨q, hq⟩ : ∃ q, q = x / 256 ^ m := ⟨_, rfl⟩
      have hsh := shift_at x m (by omega)
      rw [← hq] at hsh
      have HLEN : Hid ((xs ++ D).length ≤ 1000000) := Lib.hid (by
        have h1 := congrArg List.length HD.out
        simp only [List.length_append, beB_length] at h1 ⊢
        have := HL.out
        omega)
      have hz : IntKind.u8.wrap (q : Int) = ((UInt8.ofNat q).toNat : Int) := by rw [IntKind.wrap_u8']; simp
      have HNX : Hid (∀ w' v2, Own w0 w' (ROut p v2 ((xs ++ D) ++ [UInt8.ofNat q]) J) → (D ++ [UInt8.ofNat q]) ++ beB m x = beB n x ∧ Own w0 w' (ROut p v2 (xs ++ (D ++ [UInt8.ofNat q])) J)) := Lib.hid (fun w' v2 h => ⟨by rw [← HD.out, beB, hq]; simp, by rw [← List.append_assoc]; exact h⟩)
      have HR1 : Hid (Own w0 (wr.alloc (.cells #[.int .u8 (IntKind.u8.wrap (q : Int))] 5)).drew (Sep (OutB v' (xs ++ D)) (Sep (Blk wr.heap.size (.cells #[.int .u8 (IntKind.u8.wrap (q : Int))] 5)) (Sep (Blk p (.cells #[v'] 90 (0, 0))) J)))) := Lib.hid (HO.out.lend _).drew
      have HRB := Lib.hid HR1.out.swap.held
      obtain ⟨hc0, hf⟩ := rout_cell HO.out
      have hc0' := (rout_cell (HO.out.quiet ((Only.refl _ wr).alloc (.cells #[.int .u8 (IntKind.u8.wrap (q : Int))] 5)))).1
      have HZ := Lib.hid hz
      clear hz hq
      go_wp2
      go_region_law ((refine own_step HR1.out [UInt8.ofNat q] 1 wr.heap.size (by simp) (by simp) (by have := HLEN.out; omega) rfl (.tmp 17) (.tmp 23) rfl #[.int .u8 (IntKind.u8.wrap (q : Int))] (by rw [HZ.out]; rfl) HRB.out ?_ ?_ ?_; (go_must (first | rfl | simp [Act.eval])); (go_must (first | rfl | simp [Act.eval])); (go_must (intro g cap n2 w5 hn2 hown; have HP := Lib.hid hown.out.drop2; obtain ⟨c1, f1⟩ := rout_held hown.out.drop2; clear hown))))
      all_goals
        have HN := HNX.out _ _ (rout_store HP.out)
        have HN1 := Lib.hid HN.1
        have HN2 := Lib.hid HN.2
        clear HN HP HR1 HRB HZ hc0 hf hsh hc0' c1 f1 HNX HO HD
        go_wp2
        go_roundw
        case rel => exact ⟨m, _, _, by omega, by go_num, HN1, HN2⟩
        case measure => (simp [intOf] <;> omega)

end Go.Proofs.YtlmpknhekoeecaaDoor
