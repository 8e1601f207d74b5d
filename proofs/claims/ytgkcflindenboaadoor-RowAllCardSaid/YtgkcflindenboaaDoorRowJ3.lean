/-
  Joined: Open Key4 KeyV SepAc RowP Range ExtBlk Wide Key5 RowSt PackSt PackIn PackIn2 PackIn3 PackIn4 PackIn5 PackOut PackOut2 PackOut3 PackLaw0.
-/
import Derived.Test.YtgkcflindenboaaDoorRowJ2
import Derived.ProofKit
import Derived.OpenShut
import Derived.SizedLaws
import Derived.Deep.AppendLies
import Derived.RangeFuncRecord
import Derived.RangeFuncLeaves
import Derived.RangeFuncCalls
import Derived.RangeFuncKeeps
import Derived.OwnWalkIn
import Derived.TacticsInMore
import Derived.LoopNIn
import Derived.LoopIn
import Derived.Deep.MidRow
import Derived.Deep.WholeRow
import Derived.Test.YtgkcflindenboaaDoorRows
import Derived.Deep.QuietTactic
import Derived.BigQuiet
import Derived.Laws.Bits64b
import Derived.Laws.BitsAllLaws
import Derived.Laws.IdiomStrings
import Derived.Deep.RegionLaw
import Derived.Lib.AppendStr

namespace Go.Proofs.YtgkcflindenboaaDoor
open Go Go.ChangeShapes Go.WideShapes Go.ChangeAt Go.RowKit
set_option linter.unusedVariables false
set_option linter.unusedSimpArgs false
set_option maxRecDepth 100000

theorem Tryd.ownKnob0 : ownKnob Tryd.prog.godebug = none := by kernel_rfl
theorem Tryd.laidOut0 : laidOutB Tryd.prog = true := by kernel_rfl
theorem Tryd.cellsU8 : Tryd.prog.cellsOf 5 = 1 := by kernel_rfl
theorem Tryd.bytesU8 : Tryd.prog.bytesOf 5 = 1 := by kernel_rfl
theorem Tryd.cellsInt : Tryd.prog.cellsOf 3 = 1 := by kernel_rfl
theorem Tryd.bytesInt : Tryd.prog.bytesOf 3 = 8 := by kernel_rfl

theorem quiet_below {w w' : World} (h : Quiet w w') : Below w.heap.size w w' := Only.below h (Nat.le_refl _) (fun _ h => h.elim)

theorem addr_of_cell {w : World} {a : Addr} {v : Value} (h : w.cell? (a.add 0) = some v) : ∃ g off, a = ⟨g, off, none⟩ := by
  obtain ⟨b, off, spot⟩ := a
  have hspot : spot = none := by simpa [Addr.add] using World.cell?_spot h
  subst hspot
  exact ⟨b, off, rfl⟩

theorem open_bytesArg {H : Type} {enc : TypeId × Value → H} {W : World} {base : Nat} {v : Value} {d : DataW H} {ps : List MemPlace}
    (hok : Value.okWide Tryd.prog W .any base 49 v) (h : DataW.Trod enc Tryd.prog W 0 (fun _ => true) true 49 v d ps) :
    ∃ bs : List UInt8, SlC W v bs ∧ (bs = [] ∨ ∃ elems spare, d = .slice elems spare ∧ bs.length ≤ elems.length + spare.length) := by
  obtain ⟨a0, len, cap, rfl⟩ := okWide_slice Tryd.underlying49 hok
  obtain ⟨fuel, hf⟩ := h
  rcases open_ints Tryd.underlying49 Tryd.underlying5 Tryd.cellsU8 hf with ⟨hcs, hx⟩ | ⟨a, len', cap', zs, hcs, _, hl, hm, hz, hx, hcell, hwz⟩
  · simp [Value.cells] at hcs
    obtain ⟨rfl, rfl, rfl⟩ := hcs
    exact ⟨[], .inl ⟨rfl, rfl⟩, .inl rfl⟩
  · simp [Value.cells] at hcs
    obtain ⟨rfl, rfl, rfl⟩ := hcs
    simp only [Prod.mk.injEq] at hx
    obtain ⟨rfl, rfl⟩ := hx
    simp only [if_true] at hz
    have hbl : ((zs.take len).map fun z => UInt8.ofNat z.toNat).length = len := by simp; omega
    refine ⟨(zs.take len).map fun z => UInt8.ofNat z.toNat, .inr ⟨a, cap, by rw [hbl], fun j hj => ?_⟩, .inr ⟨_, _, rfl, ?_⟩⟩
    · rw [hbl] at hj
      rw [hcell j (by omega)]
      have hjz : j < zs.length := by omega
      have hw := hwz zs[j] (List.getElem_mem hjz)
      have hb : 0 ≤ zs[j] ∧ zs[j] ≤ 255 := by simpa [Lit.wf, IntKind.min, IntKind.max, IntKind.signed, IntKind.bits] using hw
      have e1 : zs.getD j 0 = zs[j] := by simp [hjz]
      have e2 : ((zs.take len).map fun z => UInt8.ofNat z.toNat).getD j 0 = UInt8.ofNat (zs[j]).toNat := by
        simp [List.getD_eq_getElem?_getD, hj, hjz]
      rw [e1, e2]
      congr 2
      simp
      omega
    · rw [hbl]; simp [lits]; omega

theorem open_intsArg {H : Type} {enc : TypeId × Value → H} {W : World} {base : Nat} {v : Value} {d : DataW H} {ps : List MemPlace}
    (hok : Value.okWide Tryd.prog W .any base 24 v) (h : DataW.Trod enc Tryd.prog W 0 (fun _ => true) true 24 v d ps) :
    ∃ (ks : List Int) (ao : Option Addr) (c : Nat), v = .slice ao ks.length c ∧ SlI W ao ks ∧ (ks = [] ∨ ∃ elems spare, d = .slice elems spare ∧ ks.length ≤ elems.length + spare.length) ∧ (∀ z ∈ ks, -9223372036854775808 ≤ z ∧ z ≤ 9223372036854775807) := by
  obtain ⟨a0, len, cap, rfl⟩ := okWide_slice Tryd.underlying24 hok
  obtain ⟨fuel, hf⟩ := h
  rcases open_ints Tryd.underlying24 Tryd.underlying3 Tryd.cellsInt hf with ⟨hcs, hx⟩ | ⟨a, len', cap', zs, hcs, _, hl, hm, hz, hx, hcell, hwz⟩
  · simp [Value.cells] at hcs
    obtain ⟨rfl, rfl, rfl⟩ := hcs
    exact ⟨[], none, 0, rfl, fun j hj => by simp at hj, .inl rfl, by simp⟩
  · simp [Value.cells] at hcs
    obtain ⟨rfl, rfl, rfl⟩ := hcs
    simp only [Prod.mk.injEq] at hx
    obtain ⟨rfl, rfl⟩ := hx
    simp only [if_true] at hz
    have hbl : (zs.take len).length = len := by simp; omega
    refine ⟨zs.take len, some a, cap, by rw [hbl], fun j hj => ?_, .inr ⟨_, _, rfl, ?_⟩, fun z hz => ?_⟩
    · rw [hbl] at hj
      obtain ⟨g, off, rfl⟩ := addr_of_cell (hcell 0 (by omega))
      refine ⟨g, off, rfl, ?_⟩
      rw [← add_lit, hcell j (by omega)]
      congr 2
      simp [List.getD_eq_getElem?_getD, hj]
    · rw [hbl]; simp [lits]; omega
    · have hw := hwz z (List.mem_of_mem_take hz)
      simpa [Lit.wf, IntKind.min, IntKind.max, IntKind.signed, IntKind.bits] using hw

end Go.Proofs.YtgkcflindenboaaDoor

namespace Go.Proofs.YtgkcflindenboaaDoor
open Go Go.RowKit
set_option linter.unusedVariables false
set_option linter.unusedSimpArgs false
set_option maxRecDepth 100000
set_option linter.unusedSimpArgs false
set_option maxRecDepth 100000

def noKind (k : Int) : Bool := decide (k < 1) || decide (5 < k)
theorem no_kind (k : Int) (w : World) : Calls Tryd.prog 28 #[.int .i64 k] w fun e w' => e = .returned (.bool (noKind k)) ∧ w = w' := by
  by_cases h1 : k < 1
  · have e : noKind k = true := by simp [noKind, h1]
    rw [e]
    go_enter Tryd.func28, Tryd.ntmps28
    go_wp2
    go_ret
    exact ⟨rfl, rfl⟩
  · by_cases h2 : 5 < k
    · have e : noKind k = true := by simp [noKind, h2]
      rw [e]
      go_enter Tryd.func28, Tryd.ntmps28
      go_wp2
      go_ret
      exact ⟨rfl, rfl⟩
    · have e : noKind k = false := by simp [noKind, h1, h2]
      rw [e]
      go_enter Tryd.func28, Tryd.ntmps28
      go_wp2
      go_ret
      exact ⟨rfl, rfl⟩

theorem SlI.at {w : World} {ao : Option Addr} {ks : List Int} (h : SlI w ao ks) {j : Nat} (hj : j < ks.length) : ∃ g off, ao = some ⟨g, off, none⟩ ∧ w.cell? ⟨g, off + j, none⟩ = some (.int .i64 (ks.getD j 0)) := h j hj
theorem any_take (ks : List Int) (k : Nat) (hk : k < ks.length) : (ks.take (k + 1)).any noKind = ((ks.take k).any noKind || noKind (ks.getD k 0)) := by
  rw [List.take_succ_eq_append_getElem hk, List.any_append]
  simp [hk]
set_option maxHeartbeats 1000000 in
theorem index_kind (ao : Option Addr) (n c : Nat) (ks : List Int) (w : World) (hs : SlI w ao ks) (hn : n = ks.length) (hlen : ks.length ≤ 140737488355328) :
    Calls Tryd.prog 47 #[.slice ao n c, .func (.func 28) #[] #[]] w fun e w' => ∃ z : Int, e = .returned (.int .i64 z) ∧ decide (0 ≤ z) = ks.any noKind ∧ w = w' := by
  have HS := Lib.hid hs
  have HN := Lib.hid hn
  have hn47 : n ≤ 140737488355328 := by omega
  clear hs hn hlen
  go_enter Tryd.func47, Tryd.ntmps47
  go_wp2
  go_loop [5, 8] (fun _ i => ∃ k : Nat, k ≤ n ∧ i = .int .i64 (k : Int) ∧ Hid ((ks.take k).any noKind = false)) (fun _ i => n - (intOf i).toNat)
  case atStart => exact ⟨0, Nat.zero_le _, rfl, Lib.hid rfl⟩
  case round =>
    obtain ⟨k, hk, rfl, HA⟩ := hrel
    by_cases hlt : k < n
    · obtain ⟨g, off, rfl, hc⟩ := HS.out.at (j := k) (by have := HN.out; omega)
      obtain ⟨z, hz⟩ : ∃ z, ks.getD k 0 = z := ⟨_, rfl⟩
      rw [hz] at hc
      have HZ := Lib.hid hz
      have hltI : (k : Int) < (n : Int) := by omega
      clear hz
      go_wp2_with fail
      refine (no_kind z _).mono ?_
      rintro e w1 ⟨rfl, rfl⟩
      cases hb : noKind z with
      | true =>
        have HB := Lib.hid hb
        clear hb
        go_wp2_with fail
        go_ret
        refine ⟨k, rfl, ?_, rfl⟩
        have h1 := any_take ks k (by have := HN.out; omega)
        rw [HZ.out, HB.out, Bool.or_true] at h1
        have : ks.any noKind = true := by
          rw [List.any_eq_true] at h1 ⊢
          obtain ⟨x, hx, hp⟩ := h1
          exact ⟨x, List.mem_of_mem_take hx, hp⟩
        rw [this]
        exact decide_eq_true (by omega)
      | false =>
        have HB := Lib.hid hb
        clear hb
        go_wp2_with fail
        go_round
        case rel =>
          refine ⟨k + 1, by omega, by go_num, Lib.hid ?_⟩
          rw [any_take ks k (by have := HN.out; omega), HA.out, HZ.out, HB.out]
          rfl
        case measure => simp [intOf]; omega
    · go_wp2_with fail
      go_ret
      refine ⟨-1, rfl, ?_, rfl⟩
      have h1 := HA.out
      rw [List.take_of_length_le (by have := HN.out; omega)] at h1
      rw [h1]
      rfl

theorem contains_kind (ao : Option Addr) (n c : Nat) (ks : List Int) (w : World) (hs : SlI w ao ks) (hn : n = ks.length) (hlen : ks.length ≤ 140737488355328) :
    Calls Tryd.prog 27 #[.slice ao n c, .func (.func 28) #[] #[]] w fun e w' => e = .returned (.bool (ks.any noKind)) ∧ w = w' := by
  have HC := Lib.hid (index_kind ao n c ks w hs hn hlen)
  clear hs hn hlen
  obtain ⟨B, hB⟩ : ∃ B, ks.any noKind = B := ⟨_, rfl⟩
  rw [hB] at HC ⊢
  clear hB
  go_enter Tryd.func27, Tryd.ntmps27
  go_wp2_with fail
  refine HC.out.mono ?_
  rintro e w1 ⟨z, rfl, hz, rfl⟩
  have HZ := Lib.hid hz
  clear HC hz
  obtain ⟨b, hb⟩ : ∃ b : Bool, decide (0 ≤ z) = b := ⟨_, rfl⟩
  have HBB : Hid (b = B) := Lib.hid (by rw [← HZ.out, hb])
  cases b with
  | true =>
    have h : 0 ≤ z := of_decide_eq_true hb
    clear hb
    go_wp2_with fail
    go_ret
    exact ⟨by rw [← HBB.out]; rfl, rfl⟩
  | false =>
    have h : ¬ 0 ≤ z := of_decide_eq_false hb
    go_wp2_with fail
    go_ret
    exact ⟨by rw [← HBB.out]; first | rfl | (rw [← hb]; rfl), rfl⟩

end Go.Proofs.YtgkcflindenboaaDoor

namespace Go.Proofs.YtgkcflindenboaaDoor
open Go Go.RowKit
set_option linter.unusedVariables false
set_option linter.unusedSimpArgs false
set_option maxRecDepth 100000
set_option linter.unusedSimpArgs false
set_option maxRecDepth 100000


theorem ret_bu {a b : Bool} (h : a = b) : Ending.returned (Value.bool a) = .returned (.bool b) := by rw [h]
/-- The tables of package utf8 as the program lays them. -/
structure UTab (w : World) : Prop where
  utf : Lib.Utf8Tabs (Tryd.laysValid_ren.g 3) (Tryd.laysValid_ren.g 4) w
theorem UTab.keep {w w' : World} (h : UTab w) (hb : Below w.heap.size w w') : UTab w' := ⟨Utf8Tabs_below h.utf hb⟩
theorem validstr_u (s : ByteArray) (w : World) (hs : s.size ≤ 9223372036854775807) (hT : UTab w) :
    Calls Tryd.prog 42 #[.string s] w fun e w' => e = .returned (.bool (utf8B s.toList)) ∧ Below w.heap.size w w' := by
  have h := Any.utf8_ValidString Tryd.laysValid s w hs hT.utf
  rw [utf8_valid, ← ByteArray.toList_eq] at h
  exact h
theorem valid_u {K N : Int} {s : ByteArray} (hN : U64 N) (w : World) (hT : UTab w) :
    Calls Tryd.prog 22 #[vlv K N s] w fun e w' => e = .returned (.bool (vl K N s).okB) ∧ Below w.heap.size w w' := by
  have h0 := hN.lo
  have HB := Lib.hid (fun o => (Below.refl w.heap.size w).alloc (Nat.le_refl _) o)
  have HT := Lib.hid (fun o => hT.keep (HB.out o))
  clear hT
  have hsz := ba_size s
  by_cases k0 : K = 0
  · subst k0
    have hok : (vl 0 N s).okB = (decide (N.toNat = 0) && s.toList.isEmpty) := rfl
    by_cases hn : N = 0
    · subst hn
      have hr : (vl 0 0 s).okB = s.toList.isEmpty := rfl
      rw [hr]
      clear hok hr hsz
      go_enter Tryd.func22, Tryd.ntmps22
      go_wp2
      all_goals go_ret
      all_goals exact ⟨ret_bu (by simp_all), HB.out _⟩
    · have hb : (N == 0) = false := by simpa using hn
      have hr : (vl 0 N s).okB = false := by rw [hok, decide_eq_false (show ¬ N.toNat = 0 by omega)]; rfl
      rw [hr]
      clear hok hr hsz hn
      go_enter Tryd.func22, Tryd.ntmps22
      go_wp2
      go_ret
      exact ⟨rfl, HB.out _⟩
  by_cases k1 : K = 1
  · subst k1
    have hr : (vl 1 N s).okB = s.toList.isEmpty := rfl
    rw [hr]
    clear hr hsz
    · skip
      go_enter Tryd.func22, Tryd.ntmps22
      go_wp2
      all_goals go_ret
      all_goals exact ⟨ret_bu (by simp_all), HB.out _⟩
  by_cases k2 : K = 2
  · subst k2
    have hr : (vl 2 N s).okB = s.toList.isEmpty := rfl
    rw [hr]
    clear hr hsz
    · skip
      go_enter Tryd.func22, Tryd.ntmps22
      go_wp2
      all_goals go_ret
      all_goals exact ⟨ret_bu (by simp_all), HB.out _⟩
  by_cases k3 : K = 3
  · subst k3
    have hok : (vl 3 N s).okB = (decide (N.toNat < 2) && s.toList.isEmpty) := rfl
    by_cases hn : N ≤ 1
    · have hr : (vl 3 N s).okB = s.toList.isEmpty := by rw [hok, decide_eq_true (show N.toNat < 2 by omega)]; rfl
      have hn2 : N < 2 := by omega
      rw [hr]
      clear hok hr hsz
      go_enter Tryd.func22, Tryd.ntmps22
      go_wp2
      all_goals go_ret
      all_goals exact ⟨ret_bu (by simp_all), HB.out _⟩
    · have hr : (vl 3 N s).okB = false := by rw [hok, decide_eq_false (show ¬ N.toNat < 2 by omega)]; rfl
      have hn1 : 1 < N := by omega
      have hn2 : ¬ N < 2 := by omega
      rw [hr]
      clear hok hr hsz
      go_enter Tryd.func22, Tryd.ntmps22
      go_wp2
      go_ret
      exact ⟨rfl, HB.out _⟩
  by_cases k4 : K = 4
  · subst k4
    have hok : (vl 4 N s).okB = (decide (N.toNat = 0) && decide (s.toList.length ≤ 64)) := rfl
    by_cases hn : N = 0
    · subst hn
      by_cases hl : (s.size : Int) ≤ 64
      · have hr : (vl 4 0 s).okB = true := by rw [hok, decide_eq_true (show s.toList.length ≤ 64 by omega)]; rfl
        rw [hr]
        clear hok hr hsz
        go_enter Tryd.func22, Tryd.ntmps22
        go_wp2
        go_ret
        exact ⟨rfl, HB.out _⟩
      · have hr : (vl 4 0 s).okB = false := by rw [hok, decide_eq_false (show ¬ s.toList.length ≤ 64 by omega)]; rfl
        have hl2 : (64 : Int) < s.size := by omega
        rw [hr]
        clear hok hr hsz
        go_enter Tryd.func22, Tryd.ntmps22
        go_wp2
        go_ret
        exact ⟨rfl, HB.out _⟩
    · have hb : (N == 0) = false := by simpa using hn
      have hr : (vl 4 N s).okB = false := by rw [hok, decide_eq_false (show ¬ N.toNat = 0 by omega)]; rfl
      rw [hr]
      clear hok hr hsz hn
      go_enter Tryd.func22, Tryd.ntmps22
      go_wp2
      go_ret
      exact ⟨rfl, HB.out _⟩
  by_cases k5 : K = 5
  · subst k5
    have hok : (vl 5 N s).okB = (decide (N.toNat = 0) && (decide (s.toList.length ≤ 64) && utf8B s.toList)) := rfl
    by_cases hn : N = 0
    · subst hn
      by_cases hl : (s.size : Int) ≤ 64
      · have hr : (vl 5 0 s).okB = utf8B s.toList := by rw [hok, decide_eq_true (show s.toList.length ≤ 64 by omega)]; rfl
        obtain ⟨B, hB⟩ : ∃ B, utf8B s.toList = B := ⟨_, rfl⟩
        have HS : Hid (s.size ≤ 64) := Lib.hid (by omega)
        have HU := Lib.hid hB
        rw [hr, hB]
        clear hok hr hsz hB
        go_enter Tryd.func22, Tryd.ntmps22
        go_wp2_with fail
        refine (validstr_u s _ (by have := HS.out; omega) (HT.out _)).mono ?_
        rintro e w1 ⟨rfl, hb1⟩
        rw [HU.out]
        have H1 := Lib.hid ((HB.out _).trans (hb1.mono (by simp)))
        clear hb1
        go_wp2
        all_goals go_ret
        all_goals exact ⟨ret_bu (by simp_all), H1.out⟩
      · have hr : (vl 5 0 s).okB = false := by rw [hok, decide_eq_false (show ¬ s.toList.length ≤ 64 by omega)]; rfl
        have hl2 : (64 : Int) < s.size := by omega
        rw [hr]
        clear hok hr hsz
        go_enter Tryd.func22, Tryd.ntmps22
        go_wp2
        go_ret
        exact ⟨rfl, HB.out _⟩
    · have hb : (N == 0) = false := by simpa using hn
      have hr : (vl 5 N s).okB = false := by rw [hok, decide_eq_false (show ¬ N.toNat = 0 by omega)]; rfl
      rw [hr]
      clear hok hr hsz hn
      go_enter Tryd.func22, Tryd.ntmps22
      go_wp2
      go_ret
      exact ⟨rfl, HB.out _⟩
  have hr : (vl K N s).okB = false := by
    simp [Vl.okB, k0, k1, k2, k3, k4, k5]
  have b0 : (K == 0) = false := by simpa using k0
  have b1 : (K == 1) = false := by simpa using k1
  have b2 : (K == 2) = false := by simpa using k2
  have b3 : (K == 3) = false := by simpa using k3
  have b4 : (K == 4) = false := by simpa using k4
  have b5 : (K == 5) = false := by simpa using k5
  rw [hr]
  clear hr hsz k0 k1 k2 k3 k4 k5
  · skip
    go_enter Tryd.func22, Tryd.ntmps22
    go_wp2
    go_ret
    exact ⟨rfl, HB.out _⟩

end Go.Proofs.YtgkcflindenboaaDoor

namespace Go.Proofs.YtgkcflindenboaaDoor
open Go Go.RowKit
set_option linter.unusedVariables false
set_option linter.unusedSimpArgs false
set_option maxRecDepth 100000

theorem Sep.comm_eq (I J : Res) : Sep I J = Sep J I := funext fun w => funext fun F => propext ⟨Sep.comm, Sep.comm⟩
theorem Sep.assoc_eq (I J K : Res) : Sep (Sep I J) K = Sep I (Sep J K) :=
  funext fun w => funext fun F => propext ⟨Sep.assoc, fun h => Sep.comm (Sep.assoc (Sep.comm (Sep.assoc (Sep.comm h))))⟩
instance : Std.Associative Sep := ⟨Sep.assoc_eq⟩
instance : Std.Commutative Sep := ⟨Sep.comm_eq⟩
theorem Own.ac {w0 w : World} {I J : Res} (h : Own w0 w I) (e : I = J) : Own w0 w J := e ▸ h

end Go.Proofs.YtgkcflindenboaaDoor

namespace Go.Proofs.YtgkcflindenboaaDoor
open Go Go.RowKit
set_option linter.unusedVariables false
set_option linter.unusedSimpArgs false
set_option maxRecDepth 100000

def RowV (e : TypeId) (size : Nat) (v : Value) (n : Nat) (xs : List Value) : Res := fun w F => w.ownsRow 0 e size v n xs ∧ ∀ k, F k ↔ v.ownBlock = some k
instance {e : TypeId} {size : Nat} {v : Value} {n : Nat} {xs : List Value} : Stab (RowV e size v n xs) where
  lt := fun h k hk => own_lt h.1 ((h.2 k).1 hk)
  keep := fun h hk => ⟨own_keepAt h.1 (fun k e => hk k ((h.2 k).2 e)), h.2⟩
theorem RowV.nil (e : TypeId) (size : Nat) (w : World) : RowV e size (.slice none 0 0) 0 [] w (fun _ => False) :=
  ⟨World.ownsRow_nil _ _ _ _, fun k => by simp [Value.ownBlock]⟩
theorem Own.row_nil {w0 w : World} {I : Res} (h : Own w0 w I) (e : TypeId) (size : Nat) : Own w0 w (Sep (RowV e size (.slice none 0 0) 0 []) I) := by
  obtain ⟨F, h1, h2, h3⟩ := h
  exact ⟨F, ⟨fun _ => False, F, RowV.nil e size w, h1, fun _ h => h.elim, fun k => by simp⟩, h2, h3⟩
theorem Own.owns {w0 w : World} {e : TypeId} {size : Nat} {v : Value} {n : Nat} {xs : List Value} {J : Res} (h : Own w0 w (Sep (RowV e size v n xs) J)) : w.ownsRow 0 e size v n xs := by
  obtain ⟨F, ⟨A, B, hA, _⟩, _⟩ := h
  exact hA.1
/-- What append leaves. -/
theorem Own.appended {w0 w w' : World} {e : TypeId} {size : Nat} {v : Value} {n n' g cap : Nat} {xs xs' : List Value} {J : Res} [Stab J] (h : Own w0 w (Sep (RowV e size v n xs) J))
    (hown : w'.ownsRow 0 e size (.slice (some ⟨g, 0, none⟩) n' cap) n' xs') (hg : w.grownBy w' v.ownBlock) (hor : v.ownBlock = some g ∨ w.heap.size ≤ g) : Own w0 w' (Sep (RowV e size (.slice (some ⟨g, 0, none⟩) n' cap) n' xs') J) := by
  obtain ⟨F, ⟨A, B, hA, hB, hd, hF⟩, h2, h3⟩ := h
  have hv : ∀ k, v.ownBlock = some k → A k := fun k hk => (hA.2 k).2 hk
  refine ⟨fun k => k = g ∨ B k, ⟨fun k => k = g, B, ⟨hown, fun k => by simp [Value.ownBlock, eq_comm]⟩, Stab.keep hB (fun k hk => hg.block k (Stab.lt hB k hk) (fun e => hd k (hv k e.symm) hk)), ?_, fun k => Iff.rfl⟩, ?_, ?_⟩
  · rintro k rfl hk
    rcases hor with e | e
    · exact hd _ (hv _ e) hk
    · have := Stab.lt hB _ hk; omega
  · rintro k (rfl | hk)
    · rcases hor with e | e
      · exact h2 _ ((hF _).2 (.inl (hv _ e)))
      · have := h3.size; omega
    · exact h2 _ ((hF _).2 (.inr hk))
  · exact h3.grown hg (fun k hk e => by have := h2 k ((hF k).2 (.inl (hv k e))); omega)

end Go.Proofs.YtgkcflindenboaaDoor

namespace Go.Proofs.YtgkcflindenboaaDoor
open Go Go.RowKit
set_option linter.unusedVariables false
set_option linter.unusedSimpArgs false
set_option maxRecDepth 100000

/-- One block of a part is turned. -/
theorem Own.put {w0 w : World} {k : Nat} {o : Obj} {J : Res} [Stab J] (h : Own w0 w (Sep (Blk k o) J)) (o' : Obj) : Own w0 (w.putObj k o') (Sep (Blk k o') J) := by
  obtain ⟨F, ⟨A, B, hA, hB, hd, hF⟩, h2, h3⟩ := h
  have hk : A k := (hA.2 k).2 rfl
  have hlt := lt_of_some hA.1
  refine ⟨F, ⟨A, B, ⟨World.putObj_heap_same hlt, hA.2⟩, Stab.keep hB (fun i hi => World.putObj_heap_other (fun e => hd k hk (e ▸ hi))), hd, hF⟩, h2, ?_⟩
  refine h3.trans (T := fun i => i = k) ⟨rfl, rfl, rfl, by simp, fun i _ hi => World.putObj_heap_other hi⟩ (fun i hi e => ?_)
  have := h2 k ((hF k).2 (.inl hk))
  omega
theorem Own.held {w0 w : World} {k : Nat} {o : Obj} {J : Res} (h : Own w0 w (Sep (Blk k o) J)) : w.heap[k]? = some o := by
  obtain ⟨F, ⟨A, B, hA, _⟩, _⟩ := h
  exact hA.1

/-- The loop's record and its block for deferred calls, behind a part. -/
abbrev Held (R : Res) (l D : Nat) (r : Loop) : Res := Sep R (Sep (Blk l (.loop r)) (Blk D (.deferred (some []))))
theorem Held.turn {w0 w : World} {R : Res} [Stab R] {l D : Nat} {r : Loop} (h : Own w0 w (Held R l D r)) (r' : Loop) : Own w0 (w.putObj l (.loop r')) (Held R l D r') :=
  (h.swap.put (.loop r')).swap
theorem Held.rec {w0 w : World} {R : Res} {l D : Nat} {r : Loop} (h : Own w0 w (Held R l D r)) : w.heap[l]? = some (.loop r) := h.swap.held

def YR {α : Type} (J Jx : List α → World → Prop) (xs : List α) (e : Ending) (W' : World) : Prop := (e = .returned (.bool true) ∧ J xs W') ∨ (e = .returned (.bool false) ∧ Jx xs W')
/-- What an iterator gives: all of 'all', one by one, as long as the rounds go on; between two rounds it finds what Rd says. -/
def Gives {α : Type} (P : Program) (n : Nat) (gf : Nat) (fst : Array Value) (enc : α → Value) (Rd : World → Prop) (all : List α) : Prop :=
  ∀ (l : Nat) (J Jx : List α → World → Prop) (W : World), (∀ pre W, J pre W → Rd W) →
    (∀ pre x W1, J pre W1 → pre ++ [x] <+: all → YieldAt Fence.wide n P l #[enc x] W1 (YR J Jx (pre ++ [x]))) →
    J [] W → Calls P gf (fst ++ #[.func (.yield l) #[] #[]]) W fun e W' => (∃ v, e = .returned v) ∧ (J all W' ∨ ∃ pre, pre <+: all ∧ Jx pre W')

/-- How a round may be left: at its end, or by a return. -/
def RoundPost {α : Type} (w0 : World) (R X : List α → Res) (xs : List α) (I : Res) : Exit → Act → World → Prop
  | .normal, _, W => Own w0 W (Sep (R xs) I)
  | .ret, _, W => Own w0 W (Sep (X xs) I)
  | _, _, _ => False

def Marked (a : Act) (D : Nat) : Act := { a with defers := { target := .collected D, args := #[] } :: a.defers }

theorem wp_range {α : Type} {P : Program} {n m : Nat} {Q : Exit → Act → World → Prop} {a : Act} {w0 w : World} {g : Operand} {ps : Array Tmp} {assign body : Code} {gf : Nat} {fst : Array Value} {enc : α → Value} {Rd : World → Prop} {all : List α}
    (hg : a.eval g = .func (.func gf) fst #[]) (eg : ∀ args w, (callFunc gf args).run P w = .ok (.enter gf args) w) (hps : ps.size = 1) (hit : Gives P m gf fst enc Rd all)
    (R X : List α → Res) (A : α → Act → List α → Res) [∀ l, Stab (R l)] [∀ l, Stab (X l)] [∀ x a' l, Stab (A x a' l)]
    (hRd : ∀ pre W I, Own w0 W (Sep (R pre) I) → Rd W) (h0 : Own w0 w (R []))
    (hassign : ∀ (l : Nat) (pre : List α) (x : α) (W : World) (I : Res) [Stab I], pre ++ [x] <+: all → Own w0 W (Sep (R pre) I) →
      assign.wpIn (Fence.wide.inRound l) m P (Exit.then (fun a' W' => Own w0 W' (Sep (A x a' pre) I)) (fun _ _ _ => False)) { tmps := (ps.zip #[enc x]).foldl (fun t (p, v) => t.setIfInBounds p v) a.tmps, defers := [] } W)
    (hbody : ∀ (l : Nat) (pre : List α) (x : α) (a' : Act) (W : World) (I : Res) [Stab I], pre ++ [x] <+: all → Own w0 W (Sep (A x a' pre) I) →
      body.wpIn (Fence.wide.inRound l) m P (RoundPost w0 R X (pre ++ [x]) I) a' W)
    (hdone : ∀ (D : Nat) (W : World), Own w0 W (Sep (R all) (Blk D (.deferred (some [])))) → Q .normal (Marked a D) W)
    (hstop : ∀ (D : Nat) (pre : List α) (W : World), pre <+: all → Own w0 W (Sep (X pre) (Blk D (.deferred (some [])))) → Q .ret (Marked a D) W) :
    (Code.rangeFunc g ps assign body).wpIn Fence.wide n P Q a w := by
  refine wpIn_rangeFunc fun fn _ => ?_
  obtain ⟨rc, hrc⟩ : ∃ rc : LoopState → Option Code → Loop, rc = fun st pe => { state := st, pending := pe, fn, tmps := a.tmps, params := ps, assign, body, defers := w.heap.size } := ⟨_, rfl⟩
  have hown : Own w0 ((w.alloc (.deferred (some []))).alloc (.loop (rc .ready none))) (Held (R []) (w.heap.size + 1) w.heap.size (rc .ready none)) := by
    have h1 := (h0.alloc (.deferred (some []))).alloc (.loop (rc .ready none))
    rw [World.size_alloc] at h1
    exact h1.assoc'.comm
  refine ⟨w.heap.size + 1, [{ target := .collected w.heap.size, args := #[] }], (w.alloc (.deferred (some []))).alloc (.loop (rc .ready none)), { target := .fn (.func gf) #[], args := fst ++ #[.func (.yield (w.heap.size + 1)) #[] #[]] }, (w.alloc (.deferred (some []))).alloc (.loop (rc .ready none)), gf,
    fst ++ #[.func (.yield (w.heap.size + 1)) #[] #[]], (w.alloc (.deferred (some []))).alloc (.loop (rc .ready none)), ?_, ?_, fun _ _ => trivial, ?_, (fun h => by cases h), ?_⟩
  · rw [hrc]; exact run_enterLoop_outer _ _ _ _ _
  · simp only [resolve, hg]
    simp [go_sem]
  · simp [invoke, go_sem, eg]
  refine (callsIn_wide (n := n - 1)).2 ((hit (w.heap.size + 1)
    (fun pre W => Own w0 W (Held (R pre) (w.heap.size + 1) w.heap.size (rc .ready none)))
    (fun pre W => Own w0 W (Held (X pre) (w.heap.size + 1) w.heap.size (rc .done (some .ret)))) _
    (fun pre W h => hRd pre W _ h) ?_ hown).mono ?_)
  · intro pre x W hJ hpre
    have hl := Held.rec hJ
    have hy := run_yield (P := P) (args := #[enc x]) hl (by rw [hrc]; simp [hps])
    rw [hrc] at hy
    refine ⟨fn, _, assign, body, hy, roundIn_of_wpIn trivial ?_⟩
    refine Code.wpIn_mono ?_ (hassign (w.heap.size + 1) pre x W _ hpre hJ)
    intro e a1 W1 h1
    cases e <;> try exact h1.elim
    have h1 : Own w0 W1 (Held (A x a1 pre) (w.heap.size + 1) w.heap.size (rc .ready none)) := h1
    refine ⟨_, run_beginRound (Held.rec h1) (by rw [hrc]), ?_⟩
    refine Code.wpIn_mono ?_ (hbody (w.heap.size + 1) pre x a1 _ _ hpre (Held.turn h1 { rc .ready none with state := .busy }))
    intro e a2 W2 h2
    cases e <;> try exact h2.elim
    · have h2 : Own w0 W2 (Held (R (pre ++ [x])) (w.heap.size + 1) w.heap.size { rc .ready none with state := .busy }) := h2
      refine ⟨_, _, run_endRound none (Held.rec h2), .inl ⟨rfl, ?_⟩⟩
      have h3 := Held.turn h2 (rc .ready none)
      rw [hrc] at h3 ⊢
      exact h3
    · have h2 : Own w0 W2 (Held (X (pre ++ [x])) (w.heap.size + 1) w.heap.size { rc .ready none with state := .busy }) := h2
      refine ⟨_, _, run_endRound (some .ret) (Held.rec h2), .inr ⟨rfl, ?_⟩⟩
      have h3 := Held.turn h2 (rc .done (some .ret))
      rw [hrc] at h3 ⊢
      exact h3
  · rintro e W ⟨⟨v, rfl⟩, hJ | ⟨pre, hpre, hJ⟩⟩
    · have he := run_endLoop (P := P) (Held.rec hJ) (by rw [hrc]; simp)
      have h3 := Held.turn hJ { rc .ready none with state := .exhausted }
      rw [hrc] at he h3
      exact ⟨none, _, he, hdone _ _ h3.drop2⟩
    · have he := run_endLoop (P := P) (Held.rec hJ) (by rw [hrc]; simp)
      have h3 := Held.turn hJ { rc .done (some .ret) with state := .exhausted }
      rw [hrc] at he h3
      exact ⟨some .ret, _, he, wpIn_ret (hstop _ pre _ hpre h3.drop2)⟩

end Go.Proofs.YtgkcflindenboaaDoor

namespace Go.Proofs.YtgkcflindenboaaDoor
open Go Go.RowKit
set_option linter.unusedVariables false
set_option linter.unusedSimpArgs false
set_option maxRecDepth 100000
theorem Own.exR {α : Type} {w0 w : World} {I : α → Res} {J : Res} (h : Own w0 w (Sep (ExR I) J)) : ∃ x, Own w0 w (Sep (I x) J) := by
  obtain ⟨F, ⟨A, B, ⟨x, hA⟩, hB, hd, hF⟩, h2, h3⟩ := h
  exact ⟨x, F, ⟨A, B, hA, hB, hd, hF⟩, h2, h3⟩
theorem Own.andR {p : Prop} {w0 w : World} {I J : Res} (h : Own w0 w (Sep (AndR p I) J)) : p ∧ Own w0 w (Sep I J) := by
  obtain ⟨F, ⟨A, B, ⟨hp, hA⟩, hB, hd, hF⟩, h2, h3⟩ := h
  exact ⟨hp, F, ⟨A, B, hA, hB, hd, hF⟩, h2, h3⟩
theorem blk_cell {w : World} {b : Nat} {cs : Array Value} {t : TypeId} {v : Value} (h : w.heap[b]? = some (.cells cs t (0, 0))) (j : Nat) (hv : cs[j]? = some v) : w.cell? ⟨b, j, none⟩ = some v := by simp [World.cell?, h, hv]
theorem blk_free {w : World} {b : Nat} {cs : Array Value} {t : TypeId} (h : w.heap[b]? = some (.cells cs t (0, 0))) (j : Nat) : w.frozen? ⟨b, j, none⟩ = false := by simp [World.frozen?, h]
/-- A store into a block of one's own. -/
theorem Own.store {w0 w : World} {k : Nat} {cs : Array Value} {t : TypeId} {J : Res} [Stab J] (h : Own w0 w (Sep (Blk k (.cells cs t (0, 0))) J)) (j : Nat) (u : Value) : Own w0 (w.setCell ⟨k, j, none⟩ u) (Sep (Blk k (.cells (cs.setIfInBounds j u) t (0, 0))) J) := by
  obtain ⟨F, ⟨A, B, hA, hB, hd, hF⟩, h2, h3⟩ := h
  have hk : A k := (hA.2 k).2 rfl
  refine ⟨F, ⟨A, B, ⟨heap_set hA.1 j u, hA.2⟩, Stab.keep hB (fun i hi => Below.heap_setCell _ _ _ _ (fun e => hd k hk (by have e : i = k := e; rwa [e] at hi))), hd, hF⟩, h2, ?_⟩
  refine h3.setCell (fun hlt => ?_) u
  have := h2 k ((hF k).2 (.inl hk))
  exact absurd hlt (by simp; omega)
theorem rowV_cell {w : World} {e : TypeId} {size : Nat} {ao : Option Addr} {n cap : Nat} {xs : List Value} (h : w.ownsRow 0 e size (.slice ao n cap) n xs) {j : Nat} {u : Value} (hj : xs[j]? = some u) :
    ∃ g, ao = some ⟨g, 0, none⟩ ∧ w.cell? ⟨g, j, none⟩ = some u ∧ w.frozen? ⟨g, j, none⟩ = false ∧ n ≤ cap := by
  rcases h.2 with ⟨e1, e2⟩ | ⟨g, cap', cur, e1, _, hg, hn, _, _, ht⟩
  · have hx := h.1
    rw [e2] at hx
    have := List.getElem?_eq_some_iff.1 hj
    obtain ⟨h1, _⟩ := this
    simp at hx
    subst hx
    simp at h1
  · simp at e1
    obtain ⟨rfl, rfl⟩ := e1
    refine ⟨g, rfl, ?_, by simp [World.frozen?, hg], hn⟩
    rw [← ht, List.getElem?_take] at hj
    split at hj
    · simpa [World.cell?, hg] using hj
    · cases hj
theorem own_base {w : World} {B B' : Nat} {e : TypeId} {size : Nat} {v : Value} {n : Nat} {xs : List Value} (h : w.ownsRow B e size v n xs) (hB : B' ≤ B) : w.ownsRow B' e size v n xs := by
  refine ⟨h.1, ?_⟩
  rcases h.2 with h0 | ⟨g, cap, cur, rfl, hb, rest⟩
  · exact .inl h0
  · exact .inr ⟨g, cap, cur, rfl, Nat.le_trans hB hb, rest⟩

end Go.Proofs.YtgkcflindenboaaDoor

namespace Go.Proofs.YtgkcflindenboaaDoor
open Go Go.RowKit
set_option linter.unusedVariables false
set_option linter.unusedSimpArgs false
set_option maxRecDepth 100000

theorem run_alloc_new {P : Program} (w : World) (T : TypeId) (z : Value) (n : Nat) (hi : (P.info? T).map (fun i => (i.zero, i.size)) = some (some z, n)) :
    (Instr.alloc T true (.tuple #[])).run P w = .ok (.pointer (some ⟨w.heap.size, 0, none⟩)) (w.alloc (.cells z.cells T)) := by
  unfold Instr.alloc
  rw [Sem.run_bind, (zero_of_info hi).1 w]
  rfl

theorem wpList_alloc_agg {P : Program} {ops : Array Oper} {rest : List Oper} {o : Oper} {a : Act} {w : World} {Q : Exit → Act → World → Prop} (hg : o.guard = none) (T : TypeId) (ho : o.op = .alloc T)
    (z : Array Value) (n : Nat) (hi : (P.info? T).map (fun i => (i.zero, i.size)) = some (some (.agg z), n))
    (h : wpList P ops Q rest (a.put o.dst (.pointer (some ⟨w.heap.size, 0, none⟩))) (w.alloc (.cells z T))) : wpList P ops Q (o :: rest) a w :=
  wpList_plain hg fun K hK => by
    unfold Oper.wp execOp
    simp only [ho, Sem.run_bind, run_alloc_new w T (.agg z) n hi, Result.andThen_ok, Sem.run_pure]
    exact hK _ _ h

theorem wpList_store_agg {P : Program} {ops : Array Oper} {rest : List Oper} {o : Oper} {a : Act} {w : World} {Q : Exit → Act → World → Prop} (hg : o.guard = none) (T : TypeId) (x y : Operand) (ho : o.op = .store T x y)
    (z cells : Array Value) (hx : a.eval x = .pointer (some ⟨w.heap.size, 0, none⟩)) (hy : a.eval y = .agg cells) (hi : (P.info? T).map (·.size) = some cells.size) (hz : z.size = cells.size) (h1 : cells.all (·.oneCell') = true)
    (h : wpList P ops Q rest (a.put o.dst undef) (w.alloc (.cells cells T))) : wpList P ops Q (o :: rest) a (w.alloc (.cells z T)) :=
  wpList_plain hg fun K hK => by
    unfold Oper.wp execOp
    simp only [ho, hx, hy, Sem.run_bind, run_storeAt_new w T z cells hi hz h1, Result.andThen_ok, Sem.run_pure]
    exact hK _ _ h

/-- A new variable, filled at once. -/
theorem wpList_alloc_store {P : Program} {ops : Array Oper} {rest : List Oper} {o1 o2 : Oper} {a : Act} {w : World} {Q : Exit → Act → World → Prop} (hg1 : o1.guard = none) (hg2 : o2.guard = none) (T : TypeId) (x y : Operand)
    (ho1 : o1.op = .alloc T) (ho2 : o2.op = .store T x y) (z : Array Value) (n : Nat) (hi : (P.info? T).map (fun i => (i.zero, i.size)) = some (some (.agg z), n)) (hz : z.size = n) (cells : Array Value) (hn : cells.size = n) (h1 : cells.all (·.oneCell') = true)
    (hx : (a.put o1.dst (.pointer (some ⟨w.heap.size, 0, none⟩))).eval x = .pointer (some ⟨w.heap.size, 0, none⟩)) (hy : (a.put o1.dst (.pointer (some ⟨w.heap.size, 0, none⟩))).eval y = .agg cells)
    (h : wpList P ops Q rest ((a.put o1.dst (.pointer (some ⟨w.heap.size, 0, none⟩))).put o2.dst undef) (w.alloc (.cells cells T))) : wpList P ops Q (o1 :: o2 :: rest) a w :=
  wpList_alloc_agg hg1 T ho1 z n hi (wpList_store_agg hg2 T x y ho2 z cells hx hy (by rw [(zero_of_info hi).2, hn]) (by rw [hz, hn]) h1 h)

/-- A struct or array made out of one part, its cells named. -/
theorem wpList_build_one {P : Program} {ops : Array Oper} {rest : List Oper} {o : Oper} {a : Act} {w : World} {Q : Exit → Act → World → Prop} (hg : o.guard = none) (t : TypeId) (k : Nat) (x : Operand) (ho : o.op = .build t #[(k, x)])
    (v : Value) (hv : a.eval x = v) (cells : Array Value) (hb : P.built t [(k, v)] = some cells)
    (h : wpList P ops Q rest (a.put o.dst (.agg cells)) w) : wpList P ops Q (o :: rest) a w := by
  have hL : ((#[(k, x)] : Array (Nat × Operand)).map fun (i, x) => (i, a.eval x)).toList = [(k, v)] := by simp [hv]
  refine wpList_build hg t _ ho (by rw [hL, hb]; rfl) ?_
  rw [hL, hb]
  exact h

theorem u8s_take (xs : List UInt8) (n : Nat) : u8s (xs.take n) = (u8s xs).take n := by simp [u8s]
theorem u8s_drop (xs : List UInt8) (n : Nat) : u8s (xs.drop n) = (u8s xs).drop n := by simp [u8s]
/-- Part of a row of bytes. -/
theorem range_of_row {w : World} {g : Nat} {xs : List UInt8} {t : TypeId} {fr : Nat × Nat} (h : w.heap[g]? = some (.cells (u8s xs).toArray t fr)) (o n : Nat) : w.rangeAt g o (u8s ((xs.drop o).take n)) := fun j v hv => by
  rw [cell_of_row w g (o + j) _ t fr h]
  rw [u8s_take, u8s_drop, List.getElem?_take] at hv
  split at hv
  · rw [List.getElem?_drop] at hv
    simpa using hv
  · cases hv
theorem there_of_row {w : World} {g : Nat} {cs : Array Value} {t : TypeId} (h : w.heap[g]? = some (.cells cs t (0, 0))) {o n : Nat} (hn : o + n ≤ cs.size) : w.there g o n := fun j hj => by
  rw [cell_of_row w g (o + j) _ t _ h]
  exact ⟨by simp; omega, frozen_of_row w g _ _ t h⟩
theorem range_of_list {w : World} {g : Nat} {L : List Value} {t : TypeId} {fr : Nat × Nat} (h : w.heap[g]? = some (.cells L.toArray t fr)) (o n : Nat) : w.rangeAt g o ((L.drop o).take n) := fun j v hv => by
  rw [cell_of_row w g (o + j) _ t fr h]
  rw [List.getElem?_take] at hv
  split at hv
  · rw [List.getElem?_drop] at hv
    simpa using hv
  · cases hv

/-- Many cells stored: the block whole. -/
theorem heap_setCells (g : Nat) (t : TypeId) : ∀ (vs : List Value) (o : Nat) (w : World) (L : List Value), w.heap[g]? = some (.cells L.toArray t (0, 0)) → o + vs.length ≤ L.length →
    (w.setCells g o vs).heap[g]? = some (.cells (L.take o ++ vs ++ L.drop (o + vs.length)).toArray t (0, 0))
  | [], o, w, L, h, _ => by simpa [World.setCells] using h
  | v :: r, o, w, L, h, hl => by
    rw [World.setCells]
    have h1 : (w.setCell ⟨g, o, none⟩ v).heap[g]? = some (.cells (L.set o v).toArray t (0, 0)) := by rw [heap_set h]; simp
    rw [heap_setCells g t r (o + 1) _ (L.set o v) h1 (by simp at hl ⊢; omega)]
    simp at hl
    have e1 : (L.set o v).take (o + 1) = L.take o ++ [v] := by
      rw [List.take_succ_eq_append_getElem (by simp; omega), List.take_set_of_le (Nat.le_refl o)]
      simp
    have e2 : (L.set o v).drop (o + 1 + r.length) = L.drop (o + (v :: r).length) := by
      rw [List.drop_set_of_lt (by omega)]
      congr 1
      simp
      omega
    rw [e1, e2]
    simp
theorem heap_setCells_other (g : Nat) : ∀ (vs : List Value) (o : Nat) (w : World) (k : Nat), k ≠ g → (w.setCells g o vs).heap[k]? = w.heap[k]?
  | [], _, _, _, _ => rfl
  | v :: r, o, w, k, h => by rw [World.setCells, heap_setCells_other g r (o + 1) _ k h, Below.heap_setCell _ _ _ _ h]
theorem size_setCells (g : Nat) : ∀ (vs : List Value) (o : Nat) (w : World), (w.setCells g o vs).heap.size = w.heap.size
  | [], _, _ => rfl
  | v :: r, o, w => by rw [World.setCells, size_setCells g r]; simp [World.setCell]
theorem parts_setCells (g : Nat) : ∀ (vs : List Value) (o : Nat) (w : World), (w.setCells g o vs).os = w.os ∧ (w.setCells g o vs).tape = w.tape ∧ (w.setCells g o vs).output = w.output
  | [], _, _ => ⟨rfl, rfl, rfl⟩
  | v :: r, o, w => by rw [World.setCells]; exact parts_setCells g r (o + 1) _
theorem Only.setCells (w : World) (g o : Nat) (vs : List Value) : Only (fun k => k = g) w (w.setCells g o vs) :=
  ⟨(parts_setCells g vs o w).1, (parts_setCells g vs o w).2.1, (parts_setCells g vs o w).2.2, by rw [size_setCells]; exact Nat.le_refl _, fun k _ hk => heap_setCells_other g vs o w k hk⟩


theorem foldl_set (l : List Value) : ∀ (k : Nat) (A : Array Value), k + l.length ≤ A.size →
    ((l.zipIdx k).foldl (fun cs x => cs.setIfInBounds (0 + x.2) x.1) A).toList = A.toList.take k ++ l ++ A.toList.drop (k + l.length) := by
  induction l with
  | nil => intro k A h; simp
  | cons v l ih =>
    intro k A h
    simp at h
    rw [List.zipIdx_cons, List.foldl_cons, ih (k + 1) _ (by simp; omega)]
    have e1 : (A.setIfInBounds (0 + k) v).toList = A.toList.set k v := by simp
    have hk : k < A.toList.length := by simp; omega
    rw [e1]
    have e2 : (A.toList.set k v).take (k + 1) = A.toList.take k ++ [v] := by
      rw [List.take_succ_eq_append_getElem (by simpa using hk), List.take_set_of_le (Nat.le_refl k)]
      simp
    have e3 : (A.toList.set k v).drop (k + 1 + l.length) = A.toList.drop (k + (v :: l).length) := by
      rw [List.drop_set_of_lt (by omega)]
      congr 1
      simp
      omega
    rw [e2, e3]
    simp

/-- A slice of one struct or array, made out of its cells. -/
theorem run_buildSlice_one {P : Program} (w : World) (t e : TypeId) (z : Value) (n : Nat) (hu : P.underlying t = some (.slice e)) (hi : (P.info? e).map (fun i => (i.zero, i.size)) = some (some z, n)) (hz : z.cells.size = n) (h0 : 0 < n) (hn : n ≤ 16777216)
    (cells : Array Value) (hc : cells.size = n) : (Instr.buildSlice t 1 #[(0, .agg cells)]).run P w = .ok (.slice (some ⟨w.heap.size, 0, none⟩) 1 1) (w.alloc (.cells cells e)) := by
  obtain ⟨hzr, hsz⟩ := zero_of_info hi
  cases hq : P.info? e with
  | none => simp [hq] at hi
  | some i =>
    have hs : i.size = n := by simpa [hq] using hsz
    have hsize : (sizeOf e).run P w = .ok n w := by simp [sizeOf, typeInfo, hq, hs]
    have hz0 := hzr w
    have hfill : Instr.fill (fun i => some (i * n, n)) ((Array.range n).map (z.cells[· % n]!)) [(0, .agg cells)] = some cells := by
      have h1 : ((cells.zipIdx.foldl (fun cs x => cs.setIfInBounds (0 + x.2) x.1) ((Array.range n).map (z.cells[· % n]!)))) = cells := by
        apply Array.toList_inj.1
        rw [← Array.foldl_toList, Array.toList_zipIdx, foldl_set cells.toList 0 _ (by simp [hc])]
        rw [List.drop_of_length_le (by simp [hc])]
        simp
      simp only [Instr.fill, Value.cells, Nat.zero_mul]
      rw [if_neg (by simp [hc])]
      exact congrArg some h1
    have hgt : ¬ (n > 2 ^ 24) := by simp; omega
    have hne : ¬ (n = 0) := by omega
    subst hz
    simp [Instr.buildSlice, run_underlying hu, hsize, hz0, hgt, hne, hfill, newRow]


/-- The same as a step of a region that draws its order. -/
theorem step_buildSlice_one {P : Program} {ops : Array Oper} {o : Oper} {a : Act} {w : World} {K : Act → World → Prop} {Q : Exit → Act → World → Prop} {E : Prop} (hgd : o.guard = none) (t e : TypeId) (z : Value) (n : Nat) (hu : P.underlying t = some (.slice e)) (hi : (P.info? e).map (fun i => (i.zero, i.size)) = some (some z, n)) (hz : z.cells.size = n) (h0 : 0 < n) (hn : n ≤ 16777216)
    (x : Operand) (ho : o.op = .buildSlice t 1 #[(0, x)]) (cells : Array Value) (hx : a.eval x = .agg cells) (hc : cells.size = n)
    (h : K (a.put o.dst (.slice (some ⟨w.heap.size, 0, none⟩) 1 1)) (w.alloc (.cells cells e))) : if Region.wanted o (yielded ops a.tmps) = true then Oper.wp P o a w K Q else E := by
  have hw : Region.wanted o (yielded ops a.tmps) = true := by simp [Region.wanted, hgd]
  rw [if_pos hw]
  have hrun := run_buildSlice_one (P := P) w t e z n hu hi hz h0 hn cells hc
  have hp : ((#[(0, x)] : Array (Nat × Operand)).map fun (i, x) => (i, a.eval x)) = #[(0, .agg cells)] := by simp [hx]
  unfold Oper.wp execOp
  simp only [ho, hp, Sem.run_bind, hrun, Result.andThen_ok, Sem.run_pure]
  exact h

end Go.Proofs.YtgkcflindenboaaDoor

namespace Go.Proofs.YtgkcflindenboaaDoor
open Go Go.RowKit
set_option linter.unusedVariables false
set_option linter.unusedSimpArgs false
set_option maxRecDepth 100000
set_option linter.unusedSimpArgs false
set_option maxRecDepth 100000

/-- A value, by its cells. -/
structure Vv where
  K : Int
  N : Int
  S : ByteArray
abbrev Vv.vl (v : Vv) : Vl := ⟨v.K, v.N.toNat, v.S.toList⟩
def vcells : List Vv → List Value
  | [] => []
  | v :: r => .int .i64 v.K :: .int .u64 v.N :: .string v.S :: vcells r
theorem vcells_snoc : ∀ (l : List Vv) (v : Vv), vcells (l ++ [v]) = vcells l ++ [.int .i64 v.K, .int .u64 v.N, .string v.S]
  | [], v => rfl
  | x :: l, v => by simp [vcells, vcells_snoc l v]
theorem vcells_length : ∀ l : List Vv, (vcells l).length = l.length * 3
  | [] => rfl
  | x :: l => by simp [vcells, vcells_length l]; omega
theorem vcells_one : ∀ (l : List Vv), ∀ u ∈ vcells l, u.oneCell' = true
  | [], u, h => by cases h
  | x :: l, u, h => by
    simp only [vcells, List.mem_cons] at h
    rcases h with rfl | rfl | rfl | h
    · rfl
    · rfl
    · rfl
    · exact vcells_one l u h
/-- A slice of bools. -/
def SlBo (w : World) (ao : Option Addr) (ds : List Bool) : Prop := ∀ j, j < ds.length → ∃ g off, ao = some ⟨g, off, none⟩ ∧ w.cell? ⟨g, off + j, none⟩ = some (.bool (ds.getD j false))
theorem SlBo.keep {w w' : World} {ao : Option Addr} {ds : List Bool} (h : SlBo w ao ds) (ho : Only (fun _ => False) w w') : SlBo w' ao ds := fun j hj => by
  obtain ⟨g, off, h1, h2⟩ := h j hj
  exact ⟨g, off, h1, ho.cellq h2⟩
theorem SlI.keep' {w w' : World} {ao : Option Addr} {ks : List Int} (h : SlI w ao ks) (ho : Only (fun _ => False) w w') : SlI w' ao ks := fun j hj => by
  obtain ⟨g, off, h1, h2⟩ := h j hj
  exact ⟨g, off, h1, ho.cellq h2⟩
/-- The reader as a part of memory. -/
def RdR (p : Nat) (d : Bool) (l : List UInt8) (bad : Bool) : Res := fun w F => RdIn p d l bad w ∧ ∀ k, F k ↔ k = p
instance {p : Nat} {d : Bool} {l : List UInt8} {bad : Bool} : Stab (RdR p d l bad) where
  lt := fun h k hk => by rw [(h.2 k).1 hk]; exact h.1.lt
  keep := fun h hk => ⟨h.1.keep (hk _ ((h.2 _).2 rfl)), h.2⟩
theorem own_value {w0 w : World} {p : Nat} {d : Bool} {l : List UInt8} {J : Res} [Stab J] (h : Own w0 w (Sep (RdR p d l false) J)) (k : Int) (hl : l.length ≤ 4096) (hk1 : 1 ≤ k) (hk5 : k ≤ 5) :
    Calls Tryd.prog 29 #[.pointer (some ⟨p, 0, none⟩), .int .i64 k] w fun e w' => ∃ (v : Vv) (l' : List UInt8) (bad : Bool), e = .returned (vlv v.K v.N v.S) ∧ U64 v.N ∧
      (val1 k (turnL d l) = if bad = true then none else okV (some (v.vl, turnL d l'))) ∧ Own w0 w' (Sep (RdR p d l' bad) J) := by
  have hc := h.call (val := fun x : Vv × List UInt8 × Bool => vlv x.1.K x.1.N x.1.S) (Q := fun x => AndR (U64 x.1.N ∧ val1 k (turnL d l) = if x.2.2 = true then none else okV (some (x.1.vl, turnL d x.2.1))) (RdR p d x.2.1 x.2.2))
    (P := Tryd.prog) (f := 29) (args := #[.pointer (some ⟨p, 0, none⟩), .int .i64 k]) (fun F B hI hJ hd hF => ?_)
  · refine hc.mono ?_
    rintro e w' ⟨⟨v, l', bad⟩, rfl, hq⟩
    have hp : U64 v.N ∧ val1 k (turnL d l) = if bad = true then none else okV (some (v.vl, turnL d l')) := by
      obtain ⟨F, ⟨A, B, hA, _⟩, _⟩ := hq
      exact hA.1
    exact ⟨v, l', bad, rfl, hp.1, hp.2, hq.imp fun F hF => hF.imp (fun _ h => h.2) (fun _ h => h)⟩
  · refine (rd_value p d k l w hI.1 hl hk1 hk5).mono ?_
    rintro e w' ⟨K, N, S, l', bad, rfl, hN, hr, ho, hv⟩
    exact Post.of (⟨K, N, S⟩, l', bad) F rfl ⟨⟨hN, hv⟩, hr, hI.2⟩ (fun _ h => .inl h) (ho.mono fun k _ e => (hI.2 k).2 e)
theorem Own.belows {w0 w : World} {I : Res} (h : Own w0 w I) : Below w0.heap.size w0 w := h.only.below (Nat.le_refl _) (fun _ h => h.elim)
theorem below_quiet {w w' : World} (h : Below w.heap.size w w') : Only (fun _ => False) w w' := ⟨h.os, h.tape, h.output, h.size, fun k hk _ => h.block k hk⟩

def DecPost (ks : List Int) (ds : List Bool) (s : List UInt8) (w : World) (e : Ending) (w' : World) : Prop :=
  ∃ (lv : Value) (vs : List Vv) (er : Int), e = .returned (.tuple #[lv, .int .i64 er]) ∧ (vs.map Vv.vl, er) = decE ks ds s ∧ (∀ v ∈ vs, U64 v.N) ∧ Own w w' (RowV 42 3 lv vs.length (vcells vs))
theorem dec_none {ks : List Int} {ds : List Bool} {s : List UInt8} {w w' : World} {er : Int} (h : ([], er) = decE ks ds s) (ho : Only (fun _ => False) w w') : DecPost ks ds s w (.returned (.tuple #[.slice none 0 0, .int .i64 er])) w' :=
  ⟨_, [], er, rfl, h, (fun v hv => by cases hv), ⟨fun _ => False, RowV.nil _ _ _, (fun k hk => hk.elim), ho⟩⟩

theorem Tryd.infoVal : (Tryd.prog.info? 42).map (fun i => (i.zero, i.size)) = some (some (.agg #[.int .i64 0, .int .u64 0, .string ⟨#[]⟩]), 3) := by kernel_rfl
theorem Tryd.infoVal3 : (Tryd.prog.info? 42).map (fun i => (i.zero, i.size, i.bytes)) = some (some (.agg #[.int .i64 0, .int .u64 0, .string ⟨#[]⟩]), 3, 32) := by kernel_rfl
theorem Own.rd {w0 w : World} {p : Nat} {d : Bool} {l : List UInt8} {bad : Bool} {J : Res} (h : Own w0 w (Sep (RdR p d l bad) J)) : RdIn p d l bad w := by
  obtain ⟨F, ⟨A, B, hA, _⟩, _⟩ := h
  exact hA.1
/-- A cell of the reader is written over. -/
theorem Own.rd_set {w0 w : World} {p : Nat} {d : Bool} {l : List UInt8} {bad : Bool} {J : Res} [Stab J] (h : Own w0 w (Sep (RdR p d l bad) J)) (d' bad' : Bool) (j : Nat) (u : Value)
    (hn : ∀ s : ByteArray, (#[.string s, .bool d, .bool bad] : Array Value).setIfInBounds j u = #[.string s, .bool d', .bool bad']) : Own w0 (w.setCell ⟨p, j, none⟩ u) (Sep (RdR p d' l bad') J) := by
  obtain ⟨F, ⟨A, B, hA, hB, hd, hF⟩, h2, h3⟩ := h
  have hp : A p := (hA.2 p).2 rfl
  obtain ⟨s, hs, hpc⟩ := hA.1
  refine ⟨F, ⟨A, B, ⟨⟨s, hs, by rw [heap_set hpc, hn]⟩, hA.2⟩, Stab.keep hB (fun i hi => Below.heap_setCell _ _ _ _ (fun e => hd p hp (by have e : i = p := e; rwa [e] at hi))), hd, hF⟩, h2, h3.trans (Only.cell w p j u) (fun k hk e => ?_)⟩
  have := h2 p ((hF p).2 (.inl hp))
  omega
theorem blk_cells3 {w : World} {k : Nat} {t : TypeId} {a0 a1 a2 : Value} (h : w.heap[k]? = some (.cells #[a0, a1, a2] t (0, 0))) :
    w.cell? ⟨k, 0, none⟩ = some a0 ∧ w.cell? ⟨k, 1, none⟩ = some a1 ∧ w.cell? ⟨k, 2, none⟩ = some a2 ∧
    w.frozen? ⟨k, 0, none⟩ = false ∧ w.frozen? ⟨k, 1, none⟩ = false ∧ w.frozen? ⟨k, 2, none⟩ = false :=
  ⟨blk_cell h 0 rfl, blk_cell h 1 rfl, blk_cell h 2 rfl, blk_free h 0, blk_free h 1, blk_free h 2⟩

/-- Where Decode stands: what has been read, what is left. -/
structure DecIn (ks : List Int) (ds : List Bool) (s : List UInt8) (vs : List Vv) (k : Nat) (l : List UInt8) : Prop where
  len : vs.length = k
  all : decL ks ds s = (decL (ks.drop k) (ds.drop k) l).map (vs.map Vv.vl ++ ·)
  u64 : ∀ v ∈ vs, U64 v.N
  size : vs.length + l.length ≤ s.length
theorem decL_step {k : Nat} {ks : List Int} {ds : List Bool} (hk : k < ks.length) (hd : k < ds.length) (l : List UInt8) :
    decL (ks.drop k) (ds.drop k) l = match val1 (ks.getD k 0) (turnL (ds.getD k false) l) with
      | none => none
      | some x => (decL (ks.drop (k + 1)) (ds.drop (k + 1)) (turnL (ds.getD k false) x.2)).map (x.1 :: ·) := by
  rw [List.drop_eq_getElem_cons hk, List.drop_eq_getElem_cons hd, decL]
  simp only [List.getD_eq_getElem?_getD, List.getElem?_eq_getElem hk, List.getElem?_eq_getElem hd, Option.getD_some]
  cases val1 ks[k] (turnL ds[k] l) <;> rfl
theorem val1_size {k : Int} {u q : List UInt8} {v : Vl} (hk1 : 1 ≤ k) (hk5 : k ≤ 5) (h : val1 k u = some (v, q)) : q.length + 1 ≤ u.length := by
  obtain ⟨e, hg, _⟩ := kb_val1 hk1 hk5 h
  have := (kb0_length hg.1).1
  rw [e, List.length_append]
  omega
theorem DecIn.next {ks : List Int} {ds : List Bool} {s : List UInt8} {vs : List Vv} {k : Nat} {l l' : List UInt8} {v : Vv} (h : DecIn ks ds s vs k l) (hk : k < ks.length) (hd : k < ds.length) (hk1 : 1 ≤ ks.getD k 0) (hk5 : ks.getD k 0 ≤ 5)
    (hv : val1 (ks.getD k 0) (turnL (ds.getD k false) l) = some (v.vl, turnL (ds.getD k false) l')) (hN : U64 v.N) : DecIn ks ds s (vs ++ [v]) (k + 1) l' := by
  refine ⟨by simp [h.len], ?_, ?_, ?_⟩
  · rw [h.all, decL_step hk hd, hv]
    simp only
    rw [turnL_turnL, Option.map_map]
    congr 1
    funext x
    simp
  · intro x hx
    rw [List.mem_append, List.mem_singleton] at hx
    rcases hx with hx | rfl
    · exact h.u64 x hx
    · exact hN
  · have h1 := val1_size hk1 hk5 hv
    rw [turnL_length, turnL_length] at h1
    have := h.size
    simp only [List.length_append, List.length_singleton]
    omega
theorem DecIn.fell {ks : List Int} {ds : List Bool} {s : List UInt8} {vs : List Vv} {k : Nat} {l : List UInt8} (h : DecIn ks ds s vs k l) (hk : k < ks.length) (hd : k < ds.length)
    (hv : val1 (ks.getD k 0) (turnL (ds.getD k false) l) = none) : decL ks ds s = none := by
  rw [h.all, decL_step hk hd, hv]
  rfl
theorem DecIn.ends {ks : List Int} {ds : List Bool} {s : List UInt8} {vs : List Vv} {l : List UInt8} {k : Nat} (h : DecIn ks ds s vs k l) (hk : k = ks.length) (hd : k = ds.length) : decL ks ds s = if l = [] then some (vs.map Vv.vl) else none := by
  rw [h.all, hk, List.drop_length, ← hk, hd, List.drop_length]
  show (if l = [] then some [] else none).map _ = _
  split <;> simp
theorem noKind_of {ks : List Int} (h : ks.any noKind = false) {k : Nat} (hk : k < ks.length) : 1 ≤ ks.getD k 0 ∧ ks.getD k 0 ≤ 5 := by
  have := List.any_eq_false.1 h (ks.getD k 0) (by simp [hk])
  simp only [noKind, Bool.or_eq_true, decide_eq_true_eq] at this
  omega

set_option maxHeartbeats 8000000 in
theorem decode_any (kao dao : Option Addr) (n kc m dc : Nat) (ks : List Int) (ds : List Bool) (s : ByteArray) (w : World) (hT : UTab w) (hk : SlI w kao ks) (hd : SlBo w dao ds) (hn : n = ks.length) (hm : m = ds.length) (hkl : ks.length ≤ 140737488355328) :
    Calls Tryd.prog 8 #[.slice kao n kc, .slice dao m dc, .string s] w fun e w' => DecPost ks ds s.toList w e w' := by
  have HT := Lib.hid hT
  have HK := Lib.hid hk
  have HD := Lib.hid hd
  have HN := Lib.hid hn
  have HM := Lib.hid hm
  have HC := Lib.hid (contains_kind kao n kc ks w hk hn hkl)
  have hn47 : n ≤ 140737488355328 := by omega
  obtain ⟨B, hB⟩ : ∃ B, ks.any noKind = B := ⟨_, rfl⟩
  rw [hB] at HC
  have HB := Lib.hid hB
  clear hT hk hd hn hm hkl hB
  by_cases hnm : m = n
  · subst hnm
    cases B with
    | true =>
      have HE : Hid (([], 1) = decE ks ds s.toList) := Lib.hid (by unfold decE; rw [if_pos (.inr HB.out)])
      go_enter Tryd.func8, Tryd.ntmps8
      go_wp2_with fail
      refine HC.out.mono ?_
      rintro e w1 ⟨rfl, rfl⟩
      go_wp2_with fail
      go_ret2
      exact dec_none HE.out (Only.refl _ _)
    | false =>
      by_cases h256 : 256 < s.size
      · have h1 : ¬ ks.length ≠ ds.length := by have := HN.out; have := HM.out; omega
        have HE : Hid (([], 2) = decE ks ds s.toList) := Lib.hid (by
          have hb := HB.out
          unfold decE
          rw [if_neg (fun e => e.elim h1 (fun e => by rw [show ks.any noKind = true from e] at hb; cases hb)), if_pos (by rw [ba_size]; exact h256)])
        have hsI : (256 : Int) < (s.size : Int) := by omega
        clear h1 h256
        go_enter Tryd.func8, Tryd.ntmps8
        go_wp2_with fail
        refine HC.out.mono ?_
        rintro e w1 ⟨rfl, rfl⟩
        go_wp2_with fail
        go_ret2
        exact dec_none HE.out (Only.refl _ _)
      · have hsI : ¬ (256 : Int) < (s.size : Int) := by omega
        go_enter Tryd.func8, Tryd.ntmps8
        go_wp2_with fail
        refine HC.out.mono ?_
        rintro e w1 ⟨rfl, rfl⟩
        go_wp2_with fail
        have HOK : Hid (ks.length = ds.length ∧ (∀ k ∈ ks, 1 ≤ k ∧ k ≤ 5) ∧ s.toList.length ≤ 256) := Lib.hid ⟨by rw [← HN.out, ← HM.out], fun k hk => by
          obtain ⟨j, hj, rfl⟩ := List.getElem_of_mem hk
          have := noKind_of HB.out hj
          simpa [hj] using this, by rw [ba_size]; omega⟩
        have HQ0 : Hid (Own w (w.alloc (.cells #[.string s, .bool false, .bool false] 57)) (Sep (RowV 42 3 (.slice none 0 0) 0 (vcells [])) (RdR w.heap.size false s.toList false))) := Lib.hid
          ((((Own.start w).alloc (.cells #[.string s, .bool false, .bool false] 57)).fst.imp fun F hF => (⟨⟨s, rfl, hF.1⟩, hF.2⟩ : RdR w.heap.size false s.toList false _ F)).row_nil 42 3)
        generalize w.alloc (.cells #[.string s, .bool false, .bool false] 57) = wa at *
        go_loopw [8, 10, 11, 12, 30] (fun lv _ _ _ i wr => ∃ (k : Nat) (lo : Option Addr) (lc : Nat) (vs : List Vv) (d : Bool) (l : List UInt8), k ≤ m ∧ i = .int .i64 (k : Int) ∧ lv = .slice lo k lc ∧ Hid (DecIn ks ds s.toList vs k l) ∧ Hid (Own w wr (Sep (RowV 42 3 (.slice lo k lc) k (vcells vs)) (RdR w.heap.size d l false)))) (fun _ _ _ _ i _ => m - (intOf i).toNat)
        case atStart => exact ⟨0, none, 0, [], false, s.toList, Nat.zero_le _, rfl, rfl, Lib.hid ⟨rfl, by simp, fun _ h => by simp at h, by simp⟩, HQ0⟩
        case round =>
          clear HQ0
          obtain ⟨k, lo, lc, vs, d, l, hk, rfl, rfl, HI, HQ⟩ := hrel
          have hrd := HQ.out.comm.rd
          by_cases hlt : k < m
          · have HKL : Hid (k < ks.length ∧ k < ds.length) := Lib.hid (by rw [← HN.out, ← HM.out]; exact ⟨hlt, hlt⟩)
            obtain ⟨gk, ok, rfl, hck⟩ := (HK.out.keep' HQ.out.only).at HKL.out.1
            obtain ⟨gd, od, rfl, hcd⟩ := (HD.out.keep HQ.out.only) k HKL.out.2
            obtain ⟨z, hz⟩ : ∃ z, ks.getD k 0 = z := ⟨_, rfl⟩
            obtain ⟨dd, hdd⟩ : ∃ dd, ds.getD k false = dd := ⟨_, rfl⟩
            have HZ : Hid (1 ≤ z ∧ z ≤ 5) := Lib.hid (hz ▸ noKind_of HB.out HKL.out.1)
            rw [hz] at hck
            rw [hdd] at hcd
            have HZE := Lib.hid hz
            have HDE := Lib.hid hdd
            have HLS : Hid (l.length ≤ 4096) := Lib.hid (by have := HI.out.size; have := HOK.out.2.2; omega)
            have H1 := Lib.hid (HQ.out.comm.rd_set dd false 1 (.bool dd) (fun _ => rfl))
            obtain ⟨ss, _, hpc⟩ := hrd
            have q1 : wr.cell? ⟨w.heap.size, 1, none⟩ = some (.bool d) := by simp [World.cell?, hpc]
            have qf : wr.frozen? ⟨w.heap.size, 1, none⟩ = false := by simp [World.frozen?, hpc]
            have hltI : (k : Int) < (m : Int) := by omega
            clear hz hdd hpc HQ
            go_wp2_with fail
            refine (own_value H1.out z HLS.out HZ.out.1 HZ.out.2).mono ?_
            rintro e w2 ⟨v, l', bad, rfl, hN, hv, hown⟩
            have HNV := Lib.hid hN
            have HV := Lib.hid hv
            have HS := Lib.hid (hown.alloc (.cells #[.int .i64 v.K, .int .u64 v.N, .string v.S] 42))
            clear hN hv hown q1 qf
            go_upto_region 12 with fail
            generalize w2.alloc (.cells #[.int .i64 v.K, .int .u64 v.N, .string v.S] 42) = w3 at *
            obtain ⟨x0, x1, x2, _, _, _⟩ := blk_cells3 HS.out.held
            have cb3 := HS.out.snd.rd.cell2
            generalize w2.heap.size = vb at *
            cases bad with
            | true =>
              have HE : Hid (([], 2) = decE ks ds s.toList) := Lib.hid (by
                have e : val1 (ks.getD k 0) (turnL (ds.getD k false) l) = none := by rw [HZE.out, HDE.out, HV.out, if_pos rfl]
                rw [decE_of HOK.out.1 HOK.out.2.1 HOK.out.2.2, HI.out.fell HKL.out.1 HKL.out.2 e])
              go_wp2_with fail
              go_ret2
              exact dec_none HE.out HS.out.only
            | false =>
              obtain ⟨B, hB⟩ : ∃ B, v.vl.okB = B := ⟨_, rfl⟩
              have HBV := Lib.hid hB
              have HVL : Hid (Calls Tryd.prog 22 #[vlv v.K v.N v.S] w3 fun e w' => e = .returned (.bool B) ∧ Below w3.heap.size w3 w') := Lib.hid (by
                have h := valid_u (K := v.K) (s := v.S) HNV.out w3 (HT.out.keep HS.out.belows)
                rw [show (vl v.K v.N v.S) = v.vl from rfl, hB] at h
                exact h)
              clear hB
              go_wp2_with fail
              refine HVL.out.mono ?_
              rintro e w4 ⟨rfl, hb4⟩
              have HS4 := Lib.hid (HS.out.quiet (below_quiet hb4))
              clear hb4 x0 x1 x2 cb3 HS HVL
              cases B with
              | false =>
                have HE : Hid (([], 2) = decE ks ds s.toList) := Lib.hid (by
                  have e : val1 (ks.getD k 0) (turnL (ds.getD k false) l) = none := by rw [HZE.out, HDE.out, HV.out, if_neg (by decide), okV, HBV.out]; rfl
                  rw [decE_of HOK.out.1 HOK.out.2.1 HOK.out.2.2, HI.out.fell HKL.out.1 HKL.out.2 e])
                go_wp2_with fail
                go_ret2
                exact dec_none HE.out HS4.out.only
              | true =>
                have HNX : Hid (DecIn ks ds s.toList (vs ++ [v]) (k + 1) l') := Lib.hid (HI.out.next HKL.out.1 HKL.out.2 (by rw [HZE.out]; exact HZ.out.1) (by rw [HZE.out]; exact HZ.out.2)
                  (by rw [HZE.out, HDE.out, HV.out, if_neg (by decide), okV, if_pos HBV.out]) HNV.out)
                obtain ⟨x0, x1, x2, _, _, _⟩ := blk_cells3 HS4.out.held
                have hbs := fun w => run_buildSlice_one (P := Tryd.prog) w 22 42 _ 3 Tryd.underlying22 Tryd.infoVal rfl (by decide) (by decide) #[.int .i64 v.K, .int .u64 v.N, .string v.S] rfl
                obtain ⟨i0, hi0, hz0, hz1, hz2⟩ := info_parts Tryd.infoVal3
                have H5 := HS4.out.snd.comm
                have HRW := Lib.hid (H5.owns.alloc (.cells #[.int .i64 v.K, .int .u64 v.N, .string v.S] 42))
                have HA := Lib.hid ((H5.alloc (.cells #[.int .i64 v.K, .int .u64 v.N, .string v.S] 42)).snd)
                have hk256 : k ≤ 256 := by have := HI.out.size; have := HI.out.len; have := HOK.out.2.2; omega
                have HVC := Lib.hid (vcells_snoc vs v)
                have HVN := Lib.hid (vcells_length vs)
                have HVK := Lib.hid HI.out.len
                clear H5
                go_wp2_with (first | (at_builtin; refine wpList_append_lies _ rfl (.tmp 54) (.tmp 56) 22 rfl 0 42 i0 _ 3 32 Tryd.underlying22 hi0 hz0 hz1 hz2 rfl (by decide) (.slice lo k lc) k (vcells vs) rfl HRW.out ⟨w4.heap.size, 0, none⟩ 1 1 [.int .i64 v.K, .int .u64 v.N, .string v.S] rfl rfl (World.news_of_block (heap_alloc_new w4 _)) ?_ Nat.zero_lt_one ?_ ?_ (Nat.zero_le _) (w4.heap.size + 1) ?_ ?_))
                · exact vcells_one [v]
                · unfold maxLen; omega
                · omega
                · simp
                intro g cap2 w5 hown hgrow hat hlt5
                have h5 := HA.out.appended hown hgrow (hat.imp (fun h => h) (fun h => by simp; omega))
                rw [← HVC.out] at h5
                have H6 := Lib.hid h5
                clear hown hgrow hat hlt5 h5 HA HRW hi0 hz0 hz1 hz2 hbs
                go_wp2_with fail
                go_roundw
                case rel => exact ⟨k + 1, some ⟨g, 0, none⟩, cap2, vs ++ [v], dd, l', by omega, by go_num, rfl, HNX, H6⟩
                case measure => simp [intOf]; omega
          · obtain rfl : k = m := by omega
            obtain ⟨ss, hss, hpc⟩ := hrd
            have q0 : wr.cell? ⟨w.heap.size, 0, none⟩ = some (.string ss) := by simp [World.cell?, hpc]
            have HEN := Lib.hid (HI.out.ends HN.out HM.out)
            have hnm : ¬ (k : Int) < (k : Int) := by omega
            clear hpc
            by_cases hl : l = []
            · have he : ss = ⟨#[]⟩ := ba_eq (by rw [hss, hl, ba_nil])
              have HE : Hid ((vs.map Vv.vl, 0) = decE ks ds s.toList) := Lib.hid (by rw [decE_of HOK.out.1 HOK.out.2.1 HOK.out.2.2, HEN.out, if_pos hl])
              subst he
              clear hss hl
              go_wp2_with fail
              go_ret2
              exact ⟨_, vs, 0, rfl, HE.out, HI.out.u64, by rw [HI.out.len]; exact HQ.out.fst⟩
            · have he : (ss.toList == ([] : List UInt8)) = false := by rw [hss]; simpa using hl
              have HE : Hid (([], 2) = decE ks ds s.toList) := Lib.hid (by rw [decE_of HOK.out.1 HOK.out.2.1 HOK.out.2.2, HEN.out, if_neg hl])
              clear hss hl
              go_wp2_with fail
              go_ret2
              exact dec_none HE.out HQ.out.only
  · have HE : Hid (([], 1) = decE ks ds s.toList) := Lib.hid (by unfold decE; rw [if_pos (.inl (by have := HN.out; have := HM.out; omega))])
    have hne : ((n : Int) != (m : Int)) = true := by simp; omega
    go_enter Tryd.func8, Tryd.ntmps8
    go_wp2
    go_ret2
    exact dec_none HE.out (Only.refl _ _)

end Go.Proofs.YtgkcflindenboaaDoor

namespace Go.Proofs.YtgkcflindenboaaDoor
open Go Go.RowKit
set_option linter.unusedVariables false
set_option linter.unusedSimpArgs false
set_option maxRecDepth 100000
set_option linter.unusedSimpArgs false
set_option maxRecDepth 100000

/-- A column. -/
structure Cv where
  nm : ByteArray
  K : Int
  M : Int
  nu : Bool
  dK : Int
  dN : Int
  dS : ByteArray
abbrev Cv.v (c : Cv) : Value := colv c.nm c.K c.M c.nu c.dK c.dN c.dS
abbrev Cv.d (c : Cv) : Vv := ⟨c.dK, c.dN, c.dS⟩
def Cv.E (c : Cv) : Int := colE c.nm.toList c.K c.M c.nu (vl c.dK c.dN c.dS)
def Cv.fit (c : Cv) (v : Vl) : Int := fitsE c.K c.M c.nu v
def colsB (cs : List Cv) : Bool := decide (1 ≤ cs.length ∧ cs.length ≤ 24) && cs.all (fun c => c.E == 0)
def fitsL : List Cv → List Vl → Int
  | c :: cs, v :: l => if c.fit v = 0 then fitsL cs l else c.fit v
  | _, _ => 0
def rfits (cs : List Cv) (l : List Vl) : Int := if colsB cs = false ∨ l.length ≠ cs.length then 1 else fitsL cs l
def rb (v : Vl) : List UInt8 :=
  if v.K = 0 then [1] else 0 :: (if v.K = 1 ∨ v.K = 2 then beB 8 v.N else if v.K = 3 then [UInt8.ofNat v.N] else beB 2 v.S.length ++ v.S)
def rowL : List Vl → List UInt8
  | [] => []
  | v :: l => rb v ++ rowL l
def rowS (l : List Vl) : List UInt8 := UInt8.ofNat l.length :: rowL l
def rencE (cs : List Cv) (l : List Vl) : List UInt8 × Int := if rfits cs l ≠ 0 then ([], rfits cs l) else if 512 < (rowS l).length then ([], 7) else (rowS l, 0)
def rawT (k : Int) (r : List UInt8) : Option (Vl × List UInt8) :=
  if k = 1 ∨ k = 2 then (if r.length < 8 then none else some (⟨k, numB (r.take 8), []⟩, r.drop 8))
  else if k = 3 then (match r with | [] => none | b :: q => some (⟨3, b.toNat, []⟩, q))
  else if r.length < 2 + numB (r.take 2) then none else some (⟨k, 0, (r.drop 2).take (numB (r.take 2))⟩, (r.drop 2).drop (numB (r.take 2)))
def take1 (k : Int) (u : List UInt8) : Option (Vl × List UInt8) :=
  match u with
  | [] => none
  | b :: r => if b = 1 then some (⟨0, 0, []⟩, r) else if b = 0 then rawT k r else none
def takeL : List Cv → List UInt8 → Option (List Vl)
  | [], u => if u = [] then some [] else none
  | c :: cs, u => match take1 c.K u with
    | none => none
    | some x => if c.fit x.1 = 0 then (takeL cs x.2).map (x.1 :: ·) else none
def readR (cs : List Cv) (s : List UInt8) : Option (List Vl) :=
  if 512 < s.length then none else match s with
    | [] => none
    | b :: r => if b.toNat < 1 ∨ cs.length < b.toNat then none else takeL (cs.take b.toNat) r
def rdec (cs : List Cv) (s : List UInt8) : List Vl × Int :=
  if colsB cs = false then ([], 1) else match readR cs s with
    | none => ([], 2)
    | some l => (l ++ (cs.drop l.length).map (fun c => c.d.vl), 0)
def rplace (cs : List Cv) (s : List UInt8) (col : Int) : Int × Int :=
  if (rdec cs s).2 ≠ 0 then (0, (rdec cs s).2) else if col < 0 ∨ (cs.length : Int) ≤ col then (0, 1)
  else if ¬ (((rdec cs s).1.getD col.toNat ⟨0, 0, []⟩).K = 1 ∨ ((rdec cs s).1.getD col.toNat ⟨0, 0, []⟩).K = 2) ∨ ((s.getD 0 0).toNat : Int) ≤ col then (0, 8)
  else (((rowS ((rdec cs s).1.take col.toNat)).length + 1 : Nat), 0)
def rgrown (n : Int) (c : Cv) : Option (List UInt8) × Int := if n < 1 ∨ 23 < n then (none, 1) else if c.E ≠ 0 then (none, c.E) else (some (rb c.d.vl), 0)

/-! ### What fits -/
theorem fit_zero {c : Cv} {v : Vl} (h : c.fit v = 0) : v.okB = true ∧ (v.K = 0 → c.nu = true) ∧ (v.K = 0 ∨ v.K = c.K) ∧ ((v.K = 4 ∨ v.K = 5) → (v.S.length : Int) ≤ c.M) := by
  unfold Cv.fit fitsE at h
  by_cases h1 : v.okB = false
  · rw [if_pos h1] at h; cases h
  rw [if_neg h1] at h
  by_cases h2 : v.K = 0 ∧ c.nu = false
  · rw [if_pos h2] at h; cases h
  rw [if_neg h2] at h
  by_cases h3 : v.K ≠ 0 ∧ v.K ≠ c.K
  · rw [if_pos h3] at h; cases h
  rw [if_neg h3] at h
  by_cases h4 : (v.K = 4 ∨ v.K = 5) ∧ c.M < (v.S.length : Int)
  · rw [if_pos h4] at h; cases h
  refine ⟨by simpa using h1, fun e => ?_, ?_, fun e => ?_⟩
  · cases hn : c.nu with
    | true => rfl
    | false => exact absurd ⟨e, hn⟩ h2
  · by_cases e : v.K = 0
    · exact .inl e
    · exact .inr (Classical.byContradiction fun e2 => h3 ⟨e, e2⟩)
  · exact Int.not_lt.1 fun e2 => h4 ⟨e, e2⟩
theorem col_zero {c : Cv} (h : c.E = 0) : 1 ≤ c.K ∧ c.K ≤ 5 ∧ c.fit c.d.vl = 0 := by
  unfold Cv.E colE at h
  by_cases h1 : nameB c.nm.toList = false
  · rw [if_pos h1] at h; cases h
  rw [if_neg h1] at h
  by_cases h2 : c.K < 1 ∨ 5 < c.K
  · rw [if_pos h2] at h; cases h
  rw [if_neg h2] at h
  by_cases h3 : boundB c.K c.M = false
  · rw [if_pos h3] at h; cases h
  rw [if_neg h3] at h
  exact ⟨by omega, by omega, h⟩
theorem colsB_iff {cs : List Cv} : colsB cs = true ↔ 1 ≤ cs.length ∧ cs.length ≤ 24 ∧ ∀ c ∈ cs, c.E = 0 := by
  unfold colsB
  simp [and_assoc]
theorem rb_len {v : Vl} (h : v.okB = true) : 1 ≤ (rb v).length ∧ (rb v).length ≤ 67 := by
  unfold rb
  by_cases h0 : v.K = 0
  · rw [if_pos h0]; simp
  rw [if_neg h0]
  rcases ok_kinds h with ⟨e, _⟩ | ⟨e, hS⟩ | ⟨e, hn, hS⟩ | ⟨e, hn, hS⟩
  · omega
  · rw [if_pos e]; simp [beB_length]
  · rw [if_neg (by omega), if_pos e]; simp
  · rw [if_neg (by omega), if_neg (by omega)]; simp [beB_length]; omega
theorem rowL_append : ∀ (l k : List Vl), rowL (l ++ k) = rowL l ++ rowL k
  | [], k => rfl
  | v :: l, k => by rw [List.cons_append, rowL, rowL, rowL_append l k, List.append_assoc]
theorem rowL_snoc (l : List Vl) (v : Vl) : rowL (l ++ [v]) = rowL l ++ rb v := by rw [rowL_append]; simp [rowL]
theorem rowL_len : ∀ {l : List Vl}, (∀ v ∈ l, v.okB = true) → (rowL l).length ≤ 67 * l.length
  | [], _ => by simp [rowL]
  | v :: l, h => by
    have := rowL_len (l := l) fun u hu => h u (by simp [hu])
    have := (rb_len (h v (by simp))).2
    rw [rowL, List.length_append, List.length_cons]
    omega

/-! ### There and back -/
theorem take1_rb {c : Cv} {v : Vl} (h : c.fit v = 0) (hN : v.N < 18446744073709551616) (r : List UInt8) : take1 c.K (rb v ++ r) = some (v, r) := by
  obtain ⟨hok, _, hk, _⟩ := fit_zero h
  by_cases h0 : v.K = 0
  · have hz : v = ⟨0, 0, []⟩ := by
      rcases ok_kinds hok with ⟨e, e1, e2⟩ | ⟨e, _⟩ | ⟨e, _⟩ | ⟨e, _⟩
      · exact vl_ext e e1 e2
      all_goals omega
    have e : rb v = [1] := by unfold rb; rw [if_pos h0]
    rw [e, hz]
    rfl
  have hk : v.K = c.K := hk.resolve_left h0
  have e1 : ∀ k x, take1 k (0 :: x ++ r) = rawT k (x ++ r) := fun k x => by
    show (if (0 : UInt8) = 1 then some ((⟨0, 0, []⟩ : Vl), x ++ r) else if (0 : UInt8) = 0 then rawT k (x ++ r) else none) = _
    rw [if_neg (by decide), if_pos rfl]
  have e2 : rb v = 0 :: (if v.K = 1 ∨ v.K = 2 then beB 8 v.N else if v.K = 3 then [UInt8.ofNat v.N] else beB 2 v.S.length ++ v.S) := by unfold rb; rw [if_neg h0]
  rw [e2, e1, ← hk]
  unfold rawT
  rcases ok_kinds hok with ⟨e, _⟩ | ⟨e, hS⟩ | ⟨e, hn, hS⟩ | ⟨e, hn, hS⟩
  · exact absurd e h0
  · have hl : (beB 8 v.N).length = 8 := beB_length _ _
    simp only [if_pos e]
    rw [if_neg (by simp [hl])]
    have t1 : (beB 8 v.N ++ r).take 8 = beB 8 v.N := by rw [List.take_append_of_le_length (by omega), List.take_of_length_le (by omega)]
    have t2 : (beB 8 v.N ++ r).drop 8 = r := by rw [List.drop_append_of_le_length (by omega), List.drop_of_length_le (by omega), List.nil_append]
    rw [t1, t2, numB_be' _ _ (by rw [pow8]; exact hN)]
    exact congrArg some (Prod.ext (vl_ext rfl rfl hS.symm) rfl)
  · simp only [if_neg (show ¬ (v.K = 1 ∨ v.K = 2) by omega), if_pos e]
    refine congrArg some (Prod.ext (vl_ext e.symm ?_ hS.symm) rfl)
    show (UInt8.ofNat v.N).toNat = v.N
    rw [UInt8.toNat_ofNat']
    omega
  · simp only [if_neg (show ¬ (v.K = 1 ∨ v.K = 2) by omega), if_neg (show ¬ v.K = 3 by omega)]
    have hl : (beB 2 v.S.length).length = 2 := beB_length _ _
    have t1 : (beB 2 v.S.length ++ v.S ++ r).take 2 = beB 2 v.S.length := by rw [List.append_assoc, List.take_append_of_le_length (by omega), List.take_of_length_le (by omega)]
    have t2 : (beB 2 v.S.length ++ v.S ++ r).drop 2 = v.S ++ r := by rw [List.append_assoc, List.drop_append_of_le_length (by omega), List.drop_of_length_le (by omega), List.nil_append]
    rw [t1, t2, numB_be' _ _ (by omega), if_neg (by simp [hl])]
    refine congrArg some (Prod.ext (vl_ext rfl hn.symm ?_) ?_)
    · show (v.S ++ r).take v.S.length = v.S
      simp
    · show (v.S ++ r).drop v.S.length = r
      simp
theorem rb_take1 {c : Cv} {v : Vl} {u q : List UInt8} (hc : c.E = 0) (hu : u.length ≤ 512) (h : take1 c.K u = some (v, q)) (hf : c.fit v = 0) : u = rb v ++ q ∧ v.N < 18446744073709551616 := by
  obtain ⟨hk1, hk5, _⟩ := col_zero hc
  match u, h with
  | b :: r, h =>
    have h' : (if b = 1 then some ((⟨0, 0, []⟩ : Vl), r) else if b = 0 then rawT c.K r else none) = some (v, q) := h
    by_cases h1 : b = 1
    · rw [if_pos h1] at h'
      simp only [Option.some.injEq, Prod.mk.injEq] at h'
      obtain ⟨rfl, rfl⟩ := h'
      subst h1
      exact ⟨rfl, by show 0 < _; decide⟩
    rw [if_neg h1] at h'
    by_cases h0 : b = 0
    case neg => rw [if_neg h0] at h'; cases h'
    rw [if_pos h0] at h'
    subst h0
    unfold rawT at h'
    have ek : ∀ x : Vl, x.K = c.K → rb x = 0 :: (if x.K = 1 ∨ x.K = 2 then beB 8 x.N else if x.K = 3 then [UInt8.ofNat x.N] else beB 2 x.S.length ++ x.S) := fun x e => by unfold rb; rw [if_neg (by omega)]
    by_cases hk : c.K = 1 ∨ c.K = 2
    · rw [if_pos hk] at h'
      by_cases hl : r.length < 8
      · rw [if_pos hl] at h'; cases h'
      rw [if_neg hl] at h'
      simp only [Option.some.injEq, Prod.mk.injEq] at h'
      obtain ⟨rfl, rfl⟩ := h'
      have hlt := numB_lt 8 (r.take 8) (by simp; omega)
      rw [pow8] at hlt
      refine ⟨?_, hlt⟩
      rw [ek _ rfl]
      simp only
      rw [if_pos hk, beB_numB 8 _ (by simp; omega)]
      show 0 :: r = 0 :: (r.take 8 ++ r.drop 8)
      rw [List.take_append_drop]
    rw [if_neg hk] at h'
    by_cases hk3 : c.K = 3
    · rw [if_pos hk3] at h'
      match r, h' with
      | d :: q', h' =>
        simp only [Option.some.injEq, Prod.mk.injEq] at h'
        obtain ⟨rfl, rfl⟩ := h'
        refine ⟨?_, by show d.toNat < _; have := d.toNat_lt; omega⟩
        show 0 :: d :: q' = 0 :: UInt8.ofNat d.toNat :: q'
        rw [UInt8.ofNat_toNat]
    rw [if_neg hk3] at h'
    by_cases hl : r.length < 2 + numB (r.take 2)
    · rw [if_pos hl] at h'; cases h'
    rw [if_neg hl] at h'
    simp only [Option.some.injEq, Prod.mk.injEq] at h'
    obtain ⟨rfl, rfl⟩ := h'
    refine ⟨?_, by show 0 < _; decide⟩
    rw [ek _ rfl]
    simp only
    rw [if_neg hk, if_neg hk3]
    have hlt : ((r.drop 2).take (numB (r.take 2))).length = numB (r.take 2) := by simp; omega
    rw [hlt, beB_numB 2 _ (by simp; omega)]
    show 0 :: r = 0 :: ((r.take 2 ++ (r.drop 2).take (numB (r.take 2))) ++ (r.drop 2).drop (numB (r.take 2)))
    rw [List.append_assoc, List.take_append_drop, List.take_append_drop]

theorem takeL_row : ∀ {cs : List Cv} {l : List Vl} (r : List UInt8), fitsL cs l = 0 → l.length = cs.length → (∀ v ∈ l, v.N < 18446744073709551616) → takeL cs (rowL l ++ r) = if r = [] then some l else none
  | [], [], r, _, _, _ => rfl
  | c :: cs, v :: l, r, h, hl, hN => by
    rw [fitsL] at h
    have h1 : c.fit v = 0 := by
      by_cases h1 : c.fit v = 0
      · exact h1
      · rw [if_neg h1] at h; exact h
    rw [if_pos h1] at h
    have ih := takeL_row r h (by simpa using hl) (fun u hu => hN u (by simp [hu]))
    rw [rowL, takeL, List.append_assoc, take1_rb h1 (hN v (by simp))]
    simp only
    rw [if_pos h1, ih]
    split <;> rfl
  | [], _ :: _, _, _, h, _ => by simp at h
  | _ :: _, [], _, _, h, _ => by simp at h
theorem row_takeL : ∀ {cs : List Cv} {u : List UInt8} {l : List Vl}, (∀ c ∈ cs, c.E = 0) → u.length ≤ 512 → takeL cs u = some l → u = rowL l ∧ fitsL cs l = 0 ∧ l.length = cs.length ∧ ∀ v ∈ l, v.N < 18446744073709551616
  | [], u, l, _, _, h => by
    rw [takeL] at h
    by_cases hu : u = []
    · rw [if_pos hu] at h
      simp only [Option.some.injEq] at h
      subst h hu
      exact ⟨rfl, rfl, rfl, fun _ h => by simp at h⟩
    · rw [if_neg hu] at h; cases h
  | c :: cs, u, l, hc, hu, h => by
    rw [takeL] at h
    cases ht : take1 c.K u with
    | none => rw [ht] at h; cases h
    | some x =>
      obtain ⟨v, q⟩ := x
      rw [ht] at h
      simp only at h
      by_cases hf : c.fit v = 0
      · rw [if_pos hf] at h
        obtain ⟨l', h1, h2⟩ := Option.map_eq_some_iff.1 h
        subst h2
        obtain ⟨e, hN⟩ := rb_take1 (hc c (by simp)) hu ht hf
        obtain ⟨i1, i2, i3, i4⟩ := row_takeL (fun d hd => hc d (by simp [hd])) (by rw [e] at hu; simp at hu; omega) h1
        refine ⟨by rw [e, i1]; rfl, by rw [fitsL, if_pos hf]; exact i2, by simp [i3], fun u hu => ?_⟩
        rcases List.mem_cons.1 hu with rfl | hu
        · exact hN
        · exact i4 u hu
      · rw [if_neg hf] at h; cases h

theorem ofNat_small {n : Nat} (h : n ≤ 24) : (UInt8.ofNat n).toNat = n := by
  rw [UInt8.toNat_ofNat']
  omega
theorem readR_row {cs : List Cv} {l : List Vl} (r : List UInt8) (h1 : 1 ≤ l.length) (hl : l.length ≤ cs.length) (h24 : cs.length ≤ 24) (hf : fitsL (cs.take l.length) l = 0) (hN : ∀ v ∈ l, v.N < 18446744073709551616) :
    readR cs (rowS l ++ r) = if 512 < (rowS l ++ r).length then none else if r = [] then some l else none := by
  unfold readR
  by_cases h : 512 < (rowS l ++ r).length
  · rw [if_pos h, if_pos h]
  rw [if_neg h, if_neg h]
  show (if (UInt8.ofNat l.length).toNat < 1 ∨ cs.length < (UInt8.ofNat l.length).toNat then none else takeL (cs.take (UInt8.ofNat l.length).toNat) (rowL l ++ r)) = _
  rw [ofNat_small (by omega), if_neg (by omega), takeL_row r hf (by simp; omega) hN]
theorem row_readR {cs : List Cv} {s : List UInt8} {l : List Vl} (hc : ∀ c ∈ cs, c.E = 0) (h24 : cs.length ≤ 24) (h : readR cs s = some l) :
    s = rowS l ∧ 1 ≤ l.length ∧ l.length ≤ cs.length ∧ fitsL (cs.take l.length) l = 0 ∧ s.length ≤ 512 ∧ ∀ v ∈ l, v.N < 18446744073709551616 := by
  unfold readR at h
  by_cases h5 : 512 < s.length
  · rw [if_pos h5] at h; cases h
  rw [if_neg h5] at h
  match s, h, h5 with
  | b :: r, h, h5 =>
    simp only at h
    by_cases hb : b.toNat < 1 ∨ cs.length < b.toNat
    · rw [if_pos hb] at h; cases h
    rw [if_neg hb] at h
    obtain ⟨i1, i2, i3, i4⟩ := row_takeL (fun c hm => hc c (List.mem_of_mem_take hm)) (by simp at h5; omega) h
    have e : l.length = b.toNat := by rw [i3, List.length_take]; omega
    refine ⟨?_, by omega, by omega, by rw [e]; exact i2, by omega, i4⟩
    rw [rowS, e, UInt8.ofNat_toNat, i1]

theorem fitsL_take : ∀ {cs : List Cv} {l : List Vl} (n : Nat), fitsL cs l = 0 → fitsL (cs.take n) (l.take n) = 0
  | [], l, n, _ => by cases n <;> simp [fitsL]
  | _ :: _, [], n, _ => by cases n <;> simp [fitsL]
  | c :: cs, v :: l, 0, _ => by simp [fitsL]
  | c :: cs, v :: l, n + 1, h => by
    rw [fitsL] at h
    by_cases h1 : c.fit v = 0
    · rw [if_pos h1] at h
      rw [List.take_succ_cons, List.take_succ_cons, fitsL, if_pos h1]
      exact fitsL_take n h
    · rw [if_neg h1] at h; exact absurd h h1
theorem fitsL_append : ∀ {cs ds : List Cv} {l k : List Vl}, cs.length = l.length → fitsL cs l = 0 → fitsL ds k = 0 → fitsL (cs ++ ds) (l ++ k) = 0
  | [], ds, [], k, _, _, h => h
  | c :: cs, ds, v :: l, k, hl, h, hk => by
    rw [fitsL] at h
    by_cases h1 : c.fit v = 0
    · rw [if_pos h1] at h
      rw [List.cons_append, List.cons_append, fitsL, if_pos h1]
      exact fitsL_append (by simpa using hl) h hk
    · rw [if_neg h1] at h; exact absurd h h1
  | [], _, _ :: _, _, h, _, _ => by simp at h
  | _ :: _, _, [], _, h, _, _ => by simp at h
theorem fitsL_defs : ∀ {cs : List Cv}, (∀ c ∈ cs, c.E = 0) → fitsL cs (cs.map (fun c => c.d.vl)) = 0
  | [], _ => rfl
  | c :: cs, h => by
    rw [List.map_cons, fitsL, if_pos (col_zero (h c (by simp))).2.2]
    exact fitsL_defs fun d hd => h d (by simp [hd])
theorem fitsL_ok : ∀ {cs : List Cv} {l : List Vl}, l.length = cs.length → fitsL cs l = 0 → ∀ v ∈ l, v.okB = true
  | [], [], _, _ => fun v h => by simp at h
  | c :: cs, v :: l, hl, h => by
    rw [fitsL] at h
    by_cases h1 : c.fit v = 0
    · rw [if_pos h1] at h
      intro u hu
      rcases List.mem_cons.1 hu with rfl | hu
      · exact (fit_zero h1).1
      · exact fitsL_ok (by simpa using hl) h u hu
    · rw [if_neg h1] at h; exact absurd h h1
  | [], _ :: _, h, _ => by simp at h
  | _ :: _, [], h, _ => by simp at h

end Go.Proofs.YtgkcflindenboaaDoor

namespace Go.Proofs.YtgkcflindenboaaDoor
open Go Go.RowKit
set_option linter.unusedVariables false
set_option linter.unusedSimpArgs false
set_option maxRecDepth 100000

/-- A slice value that reads as these bytes, in a block of bytes. -/
def SlB (w : World) (v : Value) (xs : List UInt8) : Prop :=
  (v = .slice none 0 0 ∧ xs = []) ∨
  ∃ g off cap cur, v = .slice (some ⟨g, off, none⟩) xs.length cap ∧ xs.length ≤ cap ∧ cap ≤ maxLen ∧ w.heap[g]? = some (.cells cur 5 (0, 0)) ∧
    ∀ j, j < xs.length → cur[off + j]? = some (.int .u8 (xs.getD j 0).toNat)

/-- The Out in block p: the slice value in its field, its bytes, the block of its row. -/
structure OutV (w : World) (p : Nat) (v : Value) (xs : List UInt8) : Prop where
  at' : w.heap[p]? = some (.cells #[v] 84 (0, 0))
  own : w.ownsRow 0 5 1 v xs.length (u8s xs)

/-- The In in block p: the slice value in its field, the bytes that are left, whether it is bad. -/
structure InV (w : World) (p : Nat) (v : Value) (xs : List UInt8) (bad : Bool) : Prop where
  at' : w.heap[p]? = some (.cells #[v, .bool bad] 111 (0, 0))
  sl : SlB w v xs

theorem SlB.keep {S : Nat → Prop} {w w' : World} {v : Value} {xs : List UInt8} (h : SlB w v xs) (ho : Only S w w')
    (hS : ∀ k cur, w.heap[k]? = some (.cells cur 5 (0, 0)) → ¬ S k) : SlB w' v xs := by
  rcases h with h | ⟨g, off, cap, cur, rfl, h1, h2, h3, h4⟩
  · exact .inl h
  · exact .inr ⟨g, off, cap, cur, rfl, h1, h2, ho.keep h3 (hS g cur h3), h4⟩

theorem InV.cell0 {w : World} {p : Nat} {v : Value} {xs : List UInt8} {bad : Bool} (h : InV w p v xs bad) : w.cell? ⟨p, 0, none⟩ = some v := by simp [World.cell?, h.at']
theorem InV.cell1 {w : World} {p : Nat} {v : Value} {xs : List UInt8} {bad : Bool} (h : InV w p v xs bad) : w.cell? ⟨p, 1, none⟩ = some (.bool bad) := by simp [World.cell?, h.at']
theorem InV.free {w : World} {p : Nat} {v : Value} {xs : List UInt8} {bad : Bool} (h : InV w p v xs bad) (o : Nat) : w.frozen? ⟨p, o, none⟩ = false := by simp [World.frozen?, h.at']
theorem InV.lt {w : World} {p : Nat} {v : Value} {xs : List UInt8} {bad : Bool} (h : InV w p v xs bad) : p < w.heap.size := lt_of_some h.at'

theorem SlB.shape {w : World} {v : Value} {xs : List UInt8} (h : SlB w v xs) :
    ∃ ao cap, v = .slice ao xs.length cap ∧ xs.length ≤ cap ∧ cap ≤ maxLen := by
  rcases h with ⟨rfl, rfl⟩ | ⟨g, off, cap, cur, rfl, h1, h2, _⟩
  · exact ⟨none, 0, rfl, Nat.le_refl _, by unfold maxLen; omega⟩
  · exact ⟨_, cap, rfl, h1, h2⟩

end Go.Proofs.YtgkcflindenboaaDoor

namespace Go.Proofs.YtgkcflindenboaaDoor
open Go Go.RowKit

set_option maxHeartbeats 400000 in
theorem bad_any (p : Nat) (b : Bool) (w : World) (hc : w.cell? ⟨p, 1, none⟩ = some (.bool b)) :
    Calls Tryd.prog 84 #[.pointer (some ⟨p, 0, none⟩)] w fun e w' => e = .returned (.bool b) ∧ w = w' := by
  go_enter Tryd.func84, Tryd.ntmps84
  go_wp2
  go_ret
  exact ⟨rfl, rfl⟩

set_option maxHeartbeats 400000 in
theorem bad_nil (w : World) :
    Calls Tryd.prog 84 #[.pointer none] w fun e w' => e = .returned (.bool true) ∧ w = w' := by
  go_enter Tryd.func84, Tryd.ntmps84
  go_wp2
  go_ret
  exact ⟨rfl, rfl⟩

set_option maxHeartbeats 400000 in
theorem left_any (p : Nat) (ao : Option Addr) (n c : Nat) (w : World) (hc : w.cell? ⟨p, 0, none⟩ = some (.slice ao n c)) :
    Calls Tryd.prog 85 #[.pointer (some ⟨p, 0, none⟩)] w fun e w' => e = .returned (.int .i64 n) ∧ w = w' := by
  go_enter Tryd.func85, Tryd.ntmps85
  go_wp2
  go_ret
  exact ⟨rfl, rfl⟩

set_option maxHeartbeats 400000 in
theorem left_nil (w : World) :
    Calls Tryd.prog 85 #[.pointer none] w fun e w' => e = .returned (.int .i64 0) ∧ w = w' := by
  go_enter Tryd.func85, Tryd.ntmps85
  go_wp2
  go_ret
  exact ⟨rfl, rfl⟩

end Go.Proofs.YtgkcflindenboaaDoor

namespace Go.Proofs.YtgkcflindenboaaDoor
open Go Go.RowKit
set_option linter.unusedVariables false
set_option linter.unusedSimpArgs false
set_option maxRecDepth 100000

set_option maxHeartbeats 400000 in
theorem next_nil (n : Int) (w : World) :
    Calls Tryd.prog 92 #[.pointer none, .int .i64 n] w fun e w' => e = .returned (.slice none 0 0) ∧ w = w' := by
  go_enter Tryd.func92, Tryd.ntmps92
  go_wp2_with (go_at_call 84; refine (bad_nil _).mono ?_; rintro e w' ⟨rfl, rfl⟩)
  go_ret
  exact ⟨rfl, rfl⟩

set_option maxHeartbeats 400000 in
theorem next_bad (p : Nat) (n : Int) (w : World) (hc : w.cell? ⟨p, 1, none⟩ = some (.bool true)) :
    Calls Tryd.prog 92 #[.pointer (some ⟨p, 0, none⟩), .int .i64 n] w fun e w' => e = .returned (.slice none 0 0) ∧ w = w' := by
  go_enter Tryd.func92, Tryd.ntmps92
  go_wp2_with (go_at_call 84; refine (bad_any _ _ _ hc).mono ?_; rintro e w' ⟨rfl, rfl⟩)
  go_ret
  exact ⟨rfl, rfl⟩

set_option maxHeartbeats 400000 in
theorem next_short (p : Nat) (ao : Option Addr) (l c n : Nat) (w : World) (hc : w.cell? ⟨p, 1, none⟩ = some (.bool false)) (hc0 : w.cell? ⟨p, 0, none⟩ = some (.slice ao l c))
    (hf : w.frozen? ⟨p, 1, none⟩ = false) (hn : l < n) :
    Calls Tryd.prog 92 #[.pointer (some ⟨p, 0, none⟩), .int .i64 n] w fun e w' => e = .returned (.slice none 0 0) ∧ w.setCell ⟨p, 1, none⟩ (.bool true) = w' := by
  go_enter Tryd.func92, Tryd.ntmps92
  go_wp2_with (go_at_call 84; refine (bad_any _ _ _ hc).mono ?_; rintro e w' ⟨rfl, rfl⟩)
  go_ret
  exact ⟨rfl, rfl⟩

set_option maxHeartbeats 400000 in
theorem next_ok (p g off l c n : Nat) (w : World) (hc : w.cell? ⟨p, 1, none⟩ = some (.bool false)) (hc0 : w.cell? ⟨p, 0, none⟩ = some (.slice (some ⟨g, off, none⟩) l c))
    (hf : w.frozen? ⟨p, 0, none⟩ = false) (hn : n ≤ l) (hlc : l ≤ c) (hm : c ≤ 9223372036854775807) :
    Calls Tryd.prog 92 #[.pointer (some ⟨p, 0, none⟩), .int .i64 n] w fun e w' => e = .returned (.slice (some ⟨g, off, none⟩) n c) ∧
      w.setCell ⟨p, 0, none⟩ (.slice (some (if n < c then ⟨g, off + n, none⟩ else ⟨g, off, none⟩)) (l - n) (c - n)) = w' := by
  have hn' : ¬ l < n := by omega
  go_enter Tryd.func92, Tryd.ntmps92
  go_wp2_with (go_at_call 84; refine (bad_any _ _ _ hc).mono ?_; rintro e w' ⟨rfl, rfl⟩)
  all_goals (go_ret; exact ⟨rfl, rfl⟩)

set_option maxHeartbeats 400000 in
theorem next_ok0 (p : Nat) (w : World) (hc : w.cell? ⟨p, 1, none⟩ = some (.bool false)) (hc0 : w.cell? ⟨p, 0, none⟩ = some (.slice none 0 0))
    (hf : w.frozen? ⟨p, 0, none⟩ = false) :
    Calls Tryd.prog 92 #[.pointer (some ⟨p, 0, none⟩), .int .i64 0] w fun e w' => e = .returned (.slice none 0 0) ∧
      w.setCell ⟨p, 0, none⟩ (.slice none 0 0) = w' := by
  go_enter Tryd.func92, Tryd.ntmps92
  go_wp2_with (go_at_call 84; refine (bad_any _ _ _ hc).mono ?_; rintro e w' ⟨rfl, rfl⟩)
  go_ret
  exact ⟨rfl, rfl⟩

/-- May n bytes be taken? -/
def can (n : Nat) (xs : List UInt8) (bad : Bool) : Bool := !bad && decide (n ≤ xs.length)
def nextR (n : Nat) (xs : List UInt8) (bad : Bool) : List UInt8 := if can n xs bad then xs.take n else []
def nextL (n : Nat) (xs : List UInt8) (bad : Bool) : List UInt8 := if can n xs bad then xs.drop n else xs

def NextPost (w : World) (p n : Nat) (xs : List UInt8) (bad : Bool) (e : Ending) (w' : World) : Prop :=
  ∃ r v', e = .returned r ∧ SlB w' r (nextR n xs bad) ∧ InV w' p v' (nextL n xs bad) (!can n xs bad) ∧ Only (fun k => k = p) w w'

theorem SlB.setCell {w : World} {v : Value} {xs : List UInt8} (h : SlB w v xs) {p : Nat} {cs : Array Value} {t : TypeId} (hp : w.heap[p]? = some (.cells cs t (0, 0))) (ht : t ≠ 5) (o : Nat) (u : Value) :
    SlB (w.setCell ⟨p, o, none⟩ u) v xs :=
  h.keep (S := fun k => k = p) (Only.cell w p o u) (fun k cur hk e => by subst e; rw [hk] at hp; simp at hp; exact ht hp.2.symm)

theorem InV.set0 {w : World} {p : Nat} {v u : Value} {xs ys : List UInt8} {bad : Bool} (h : InV w p v xs bad) (hu : SlB w u ys) : InV (w.setCell ⟨p, 0, none⟩ u) p u ys bad :=
  ⟨by rw [heap_set h.at']; rfl, hu.setCell h.at' (by decide) 0 u⟩
theorem InV.set1 {w : World} {p : Nat} {v : Value} {xs : List UInt8} {bad : Bool} (h : InV w p v xs bad) (b : Bool) : InV (w.setCell ⟨p, 1, none⟩ (.bool b)) p v xs b :=
  ⟨by rw [heap_set h.at']; rfl, h.sl.setCell h.at' (by decide) 1 _⟩

theorem SlB.take {w : World} {g off cap : Nat} {cur : Array Value} {xs : List UInt8} (hc : xs.length ≤ cap) (hm : cap ≤ maxLen) (hg : w.heap[g]? = some (.cells cur 5 (0, 0)))
    (hx : ∀ j, j < xs.length → cur[off + j]? = some (.int .u8 (xs.getD j 0).toNat)) {n : Nat} (hn : n ≤ xs.length) : SlB w (.slice (some ⟨g, off, none⟩) n cap) (xs.take n) := by
  refine .inr ⟨g, off, cap, cur, by simp [Nat.min_eq_left hn], by simp; omega, hm, hg, fun j hj => ?_⟩
  simp at hj
  rw [hx j (by omega)]
  rw [List.getD_eq_getElem?_getD, List.getD_eq_getElem?_getD, List.getElem?_take, if_pos (by omega)]

theorem SlB.drop {w : World} {g off cap : Nat} {cur : Array Value} {xs : List UInt8} (hc : xs.length ≤ cap) (hm : cap ≤ maxLen) (hg : w.heap[g]? = some (.cells cur 5 (0, 0)))
    (hx : ∀ j, j < xs.length → cur[off + j]? = some (.int .u8 (xs.getD j 0).toNat)) {n : Nat} (hn : n ≤ xs.length) :
    SlB w (.slice (some (if n < cap then ⟨g, off + n, none⟩ else ⟨g, off, none⟩)) (xs.length - n) (cap - n)) (xs.drop n) := by
  by_cases h : n < cap
  · refine .inr ⟨g, off + n, cap - n, cur, by simp [h], by simp; omega, by omega, hg, fun j hj => ?_⟩
    simp at hj
    rw [Nat.add_assoc, hx (n + j) (by omega)]
    simp [List.getD_eq_getElem?_getD]
  · refine .inr ⟨g, off, cap - n, cur, by simp [h], by simp; omega, by omega, hg, fun j hj => ?_⟩
    simp at hj
    omega

theorem next_any (p n : Nat) (v : Value) (xs : List UInt8) (bad : Bool) (w : World) (hI : InV w p v xs bad) :
    Calls Tryd.prog 92 #[.pointer (some ⟨p, 0, none⟩), .int .i64 n] w (NextPost w p n xs bad) := by
  cases bad with
  | true =>
    refine (next_bad p n w hI.cell1).mono ?_
    rintro e w' ⟨rfl, rfl⟩
    refine ⟨_, v, rfl, .inl ⟨rfl, by simp [nextR, can]⟩, by simpa [nextL, can] using hI, Only.refl _ _⟩
  | false =>
    by_cases hn : n ≤ xs.length
    · have hcan : can n xs false = true := by simp [can, hn]
      rcases hI.sl with ⟨rfl, rfl⟩ | ⟨g, off, cap, cur, rfl, h1, h2, h3, h4⟩
      · obtain rfl : n = 0 := by simpa using hn
        refine (next_ok0 p w hI.cell1 hI.cell0 (hI.free 0)).mono ?_
        rintro e w' ⟨rfl, rfl⟩
        refine ⟨_, .slice none 0 0, rfl, .inl ⟨rfl, by simp [nextR]⟩, ?_, Only.cell w p _ _⟩
        rw [hcan]
        simpa [nextL] using hI.set0 (u := .slice none 0 0) (ys := []) (.inl ⟨rfl, rfl⟩)
      · refine (next_ok p g off xs.length cap n w hI.cell1 hI.cell0 (hI.free 0) hn h1 (by unfold maxLen at h2; omega)).mono ?_
        rintro e w' ⟨rfl, rfl⟩
        have ht := (SlB.take h1 h2 h3 h4 hn).setCell hI.at' (by decide) 0 (.slice (some (if n < cap then ⟨g, off + n, none⟩ else ⟨g, off, none⟩)) (xs.length - n) (cap - n))
        have hd := hI.set0 (SlB.drop h1 h2 h3 h4 hn)
        refine ⟨_, _, rfl, by simpa [nextR, hcan] using ht, by simpa [nextL, hcan] using hd, Only.cell w p _ _⟩
    · have hcan : can n xs false = false := by simp [can]; omega
      obtain ⟨ao, cap, rfl, _⟩ := hI.sl.shape
      refine (next_short p ao xs.length cap n w hI.cell1 hI.cell0 (hI.free 1) (by omega)).mono ?_
      rintro e w' ⟨rfl, rfl⟩
      refine ⟨_, _, rfl, .inl ⟨rfl, by simp [nextR, hcan]⟩, by simpa [nextL, hcan] using hI.set1 true, Only.cell w p _ _⟩

end Go.Proofs.YtgkcflindenboaaDoor

namespace Go.Proofs.YtgkcflindenboaaDoor
open Go Go.RowKit
set_option linter.unusedVariables false
set_option linter.unusedSimpArgs false
set_option maxRecDepth 100000

theorem SlB.cells {w : World} {ao : Option Addr} {n cap : Nat} {ys : List UInt8} (h : SlB w (.slice ao n cap) ys) {k : Nat} (hk : k < ys.length) :
    ∃ g off, ao = some ⟨g, off, none⟩ ∧ w.cell? ⟨g, off + k, none⟩ = some (.int .u8 (ys.getD k 0).toNat) := by
  rcases h with ⟨_, rfl⟩ | ⟨g, off, cap', cur, hv, _, _, hg, hx⟩
  · simp at hk
  · simp only [Value.slice.injEq] at hv
    exact ⟨g, off, hv.1, by simp [World.cell?, hg, hx k hk]⟩
def NumPost (w : World) (p n : Nat) (xs : List UInt8) (bad : Bool) (e : Ending) (w' : World) : Prop :=
  ∃ v', e = .returned (.int .u64 (numB (nextR n xs bad))) ∧ InV w' p v' (nextL n xs bad) (!can n xs bad) ∧ Only (fun k => k = p) w w'

set_option maxHeartbeats 400000 in
theorem number_any (p n : Nat) (v : Value) (xs : List UInt8) (bad : Bool) (w : World) (hI : InV w p v xs bad) (hn8 : n ≤ 8) :
    Calls Tryd.prog 80 #[.pointer (some ⟨p, 0, none⟩), .int .i64 n] w (NumPost w p n xs bad) := by
  go_enter Tryd.func80, Tryd.ntmps80
  go_wp2_with fail
  refine (next_any p n v xs bad w hI).mono ?_
  rintro e w1 ⟨r, v', rfl, hr, hI', ho⟩
  obtain ⟨ys, hys⟩ : ∃ ys, ys = nextR n xs bad := ⟨_, rfl⟩
  rw [← hys] at hr
  have hl8 : ys.length ≤ 8 := by rw [hys]; unfold nextR; split <;> simp; omega
  obtain ⟨ao, cap, hre, hlc, hcm⟩ := hr.shape
  have HR := Lib.hid hr; clear hr
  have HY := Lib.hid hys; clear hys
  have HI' := Lib.hid hI'; clear hI'
  have HO := Lib.hid ho; clear ho
  have HI := Lib.hid hI; clear hI
  subst hre
  go_wp2_with fail
  go_loop [5, 12] (fun x i => ∃ k : Nat, k ≤ ys.length ∧ i = .int .i64 k ∧ x = .int .u64 (numB (ys.take k))) (fun _ i => ys.length - (intOf i).toNat)
  case atStart => exact ⟨0, Nat.zero_le _, rfl, rfl⟩
  case round =>
    obtain ⟨k, hk, rfl, rfl⟩ := hrel
    by_cases hlt : k < ys.length
    · obtain ⟨g, off, hao, hcell⟩ := HR.out.cells hlt
      have hbd : (ys.getD k 0).toNat < 256 := (ys.getD k 0).toNat_lt
      have hnb := Lib.hid (numB_take_lt ys k hlt hl8)
      have hnb' := hnb.out
      have hbd' := Lib.hid hbd
      have HT := Lib.hid (take_snoc8 ys k hlt)
      have HG : Hid (ys.getD k 0 = ys[k]) := by simp [Hid, hlt]
      subst hao
      go_wp2
      go_round
      case rel =>
        refine ⟨k + 1, by omega, by go_num, ?_⟩
        rw [← HG.out, or_step _ _ hnb.out hbd'.out, HT.out, numB_snoc]
      case measure => simp [intOf]; omega
    · have hke : k = ys.length := by omega
      go_wp2
      go_ret
      refine ⟨v', ?_, HI'.out, HO.out⟩
      rw [← HY.out]
      rfl

end Go.Proofs.YtgkcflindenboaaDoor

namespace Go.Proofs.YtgkcflindenboaaDoor
open Go Go.RowKit
set_option linter.unusedVariables false
set_option linter.unusedSimpArgs false
set_option maxRecDepth 100000

theorem nextR_le (n : Nat) (xs : List UInt8) (bad : Bool) : (nextR n xs bad).length ≤ n := by
  unfold nextR; split
  · simp; omega
  · simp
theorem numB_le (n : Nat) (l : List UInt8) (h : l.length ≤ n) : numB l < 256 ^ n := by
  have h1 := numB_lt l.length l rfl
  have h2 : 256 ^ l.length ≤ 256 ^ n := Nat.pow_le_pow_right (by omega) h
  omega
theorem numN_lt (n : Nat) (xs : List UInt8) (bad : Bool) : numB (nextR n xs bad) < 256 ^ n := numB_le n _ (nextR_le n xs bad)

/-- A take of a number of n bytes, answered in an integer kind. -/
def UPost (k : IntKind) (w : World) (p n : Nat) (xs : List UInt8) (bad : Bool) (e : Ending) (w' : World) : Prop :=
  ∃ v', e = .returned (.int k (numB (nextR n xs bad))) ∧ InV w' p v' (nextL n xs bad) (!can n xs bad) ∧ Only (fun k => k = p) w w'

set_option maxHeartbeats 400000 in
theorem inU64 (p : Nat) (v : Value) (xs : List UInt8) (bad : Bool) (w : World) (hI : InV w p v xs bad) :
    Calls Tryd.prog 82 #[.pointer (some ⟨p, 0, none⟩)] w (UPost .u64 w p 8 xs bad) := by
  go_enter Tryd.func82, Tryd.ntmps82
  go_wp2_with fail
  refine (number_any p 8 v xs bad w hI (by omega)).mono ?_
  rintro e w1 ⟨v', rfl, hI', ho⟩
  have HI' := Lib.hid hI'; clear hI'
  have HO := Lib.hid ho; clear ho
  go_wp2
  go_ret
  exact ⟨v', rfl, HI'.out, HO.out⟩


set_option maxHeartbeats 400000 in
theorem inU16 (p : Nat) (v : Value) (xs : List UInt8) (bad : Bool) (w : World) (hI : InV w p v xs bad) :
    Calls Tryd.prog 93 #[.pointer (some ⟨p, 0, none⟩)] w (UPost .u16 w p 2 xs bad) := by
  go_enter Tryd.func93, Tryd.ntmps93
  go_wp2_with fail
  refine (number_any p 2 v xs bad w hI (by omega)).mono ?_
  rintro e w1 ⟨v', rfl, hI', ho⟩
  have HI' := Lib.hid hI'; clear hI'
  have HO := Lib.hid ho; clear ho
  have HN := Lib.hid (numN_lt 2 xs bad)
  go_wp2
  go_ret
  refine ⟨v', ?_, HI'.out, HO.out⟩
  have := HN.out
  simp [IntKind.wrap_u16]
  omega

set_option maxHeartbeats 400000 in
theorem inU8 (p : Nat) (v : Value) (xs : List UInt8) (bad : Bool) (w : World) (hI : InV w p v xs bad) :
    Calls Tryd.prog 58 #[.pointer (some ⟨p, 0, none⟩)] w (UPost .u8 w p 1 xs bad) := by
  go_enter Tryd.func58, Tryd.ntmps58
  go_wp2_with fail
  refine (number_any p 1 v xs bad w hI (by omega)).mono ?_
  rintro e w1 ⟨v', rfl, hI', ho⟩
  have HI' := Lib.hid hI'; clear hI'
  have HO := Lib.hid ho; clear ho
  have HN := Lib.hid (numN_lt 1 xs bad)
  go_wp2
  go_ret
  refine ⟨v', ?_, HI'.out, HO.out⟩
  have := HN.out
  simp
  omega


/-- What a flag's take answers and leaves. -/
def flagOk (xs : List UInt8) (bad : Bool) : Bool := can 1 xs bad && decide ((xs.headD 0).toNat ≤ 1)
def flagR (xs : List UInt8) (bad : Bool) : Bool := flagOk xs bad && decide ((xs.headD 0).toNat = 1)
def flagL (xs : List UInt8) (bad : Bool) : List UInt8 := if flagOk xs bad then xs.drop 1 else xs
def FlagPost (w : World) (p : Nat) (xs : List UInt8) (bad : Bool) (e : Ending) (w' : World) : Prop :=
  ∃ v', e = .returned (.bool (flagR xs bad)) ∧ InV w' p v' (flagL xs bad) (!flagOk xs bad) ∧ Only (fun k => k = p) w w'

set_option maxHeartbeats 400000 in
theorem flag_empty (p : Nat) (v : Value) (bad : Bool) (w : World) (hI : InV w p v [] bad) :
    Calls Tryd.prog 81 #[.pointer (some ⟨p, 0, none⟩)] w (FlagPost w p [] bad) := by
  obtain ⟨ao, cap, rfl, _⟩ := hI.sl.shape
  have hc0 := hI.cell0
  simp only [List.length_nil] at hc0
  have HI := Lib.hid hI; clear hI
  go_enter Tryd.func81, Tryd.ntmps81
  go_wp2_with fail
  refine (left_any p ao 0 cap w hc0).mono ?_
  rintro e w' ⟨rfl, rfl⟩
  go_wp2_with fail
  refine (inU8 p _ [] bad w HI.out).mono ?_
  rintro e w1 ⟨v', rfl, hI', ho⟩
  have HI' := Lib.hid hI'; clear hI'
  have HO := Lib.hid ho; clear ho
  have hn : numB (nextR 1 [] bad) = 0 := by simp [nextR, numB]
  have hcan : can 1 [] bad = false := by simp [can]
  go_wp2
  go_ret
  have h1 := HI'.out
  refine ⟨v', ?_, ?_, HO.out⟩
  · simp [flagR, flagOk, hcan]
  · simpa [flagL, flagOk, hcan, nextL] using h1

set_option maxHeartbeats 400000 in
theorem flag_big (p : Nat) (v : Value) (b : UInt8) (xs : List UInt8) (bad : Bool) (w : World) (hI : InV w p v (b :: xs) bad) (hb : 1 < b.toNat) :
    Calls Tryd.prog 81 #[.pointer (some ⟨p, 0, none⟩)] w (FlagPost w p (b :: xs) bad) := by
  obtain ⟨ao, cap, rfl, _⟩ := hI.sl.shape
  have hc0 := hI.cell0
  have hf := hI.free 1
  have hc1 := hI.cell1
  obtain ⟨g, off, rfl, hcell⟩ := hI.sl.cells (k := 0) (by simp)
  simp only [List.getD_cons_zero, Nat.add_zero] at hcell
  have hpos : 0 < (b :: xs).length := by simp
  obtain ⟨l, hl⟩ : ∃ l, l = (b :: xs).length := ⟨_, rfl⟩
  rw [← hl] at hc0 hpos
  have HL := Lib.hid hl
  have hpos' : (0 : Int) < (l : Int) := by omega
  have hd : decide ((0 : Int) < (l : Int)) = true := by simpa using hpos
  have HI := Lib.hid hI; clear hI
  clear hl
  go_enter Tryd.func81, Tryd.ntmps81
  go_wp2_with fail
  refine (left_any p _ l cap w hc0).mono ?_
  rintro e w' ⟨rfl, rfl⟩
  go_wp2_with fail
  refine (inU8 p _ (b :: xs) true _ (HI.out.set1 true)).mono ?_
  rintro e w1 ⟨v', rfl, hI', ho⟩
  have HI' := Lib.hid hI'; clear hI'
  have HO := Lib.hid ho; clear ho
  have hn : numB (nextR 1 (b :: xs) true) = 0 := by simp [nextR, can, numB]
  go_wp2
  go_ret
  have h1 := HI'.out
  have hok : flagOk (b :: xs) bad = false := by simp [flagOk]; intro _; omega
  refine ⟨v', ?_, ?_, (Only.cell w p 1 _).trans HO.out (fun _ _ h => h)⟩
  · simp [flagR, hok]
  · simpa [flagL, hok, nextL, can] using h1

set_option maxHeartbeats 400000 in
theorem flag_small (p : Nat) (v : Value) (b : UInt8) (xs : List UInt8) (bad : Bool) (w : World) (hI : InV w p v (b :: xs) bad) (hb : b.toNat ≤ 1) :
    Calls Tryd.prog 81 #[.pointer (some ⟨p, 0, none⟩)] w (FlagPost w p (b :: xs) bad) := by
  obtain ⟨ao, cap, rfl, _⟩ := hI.sl.shape
  have hc0 := hI.cell0
  obtain ⟨g, off, rfl, hcell⟩ := hI.sl.cells (k := 0) (by simp)
  simp only [List.getD_cons_zero, Nat.add_zero] at hcell
  have hpos : 0 < (b :: xs).length := by simp
  obtain ⟨l, hl⟩ : ∃ l, l = (b :: xs).length := ⟨_, rfl⟩
  rw [← hl] at hc0 hpos
  have HL := Lib.hid hl
  have hpos' : (0 : Int) < (l : Int) := by omega
  have hd : decide ((0 : Int) < (l : Int)) = true := by simpa using hpos
  have hb' : ¬ (1 : Int) < (b.toNat : Int) := by omega
  have HI := Lib.hid hI; clear hI
  clear hl
  go_enter Tryd.func81, Tryd.ntmps81
  go_wp2_with fail
  refine (left_any p _ l cap w hc0).mono ?_
  rintro e w' ⟨rfl, rfl⟩
  go_wp2_with fail
  refine (inU8 p _ (b :: xs) bad _ HI.out).mono ?_
  rintro e w1 ⟨v', rfl, hI', ho⟩
  have HI' := Lib.hid hI'; clear hI'
  have HO := Lib.hid ho; clear ho
  go_wp2
  go_ret
  have h1 := HI'.out
  have hok : flagOk (b :: xs) bad = can 1 (b :: xs) bad := by simp [flagOk]; intro _; omega
  refine ⟨v', ?_, ?_, HO.out⟩
  · simp only [flagR, hok]
    cases bad
    · simp [can, nextR, numB]
      rw [Bool.eq_iff_iff]; simp; omega
    · simp [can, nextR, numB]
  · simpa [flagL, hok, nextL] using h1

theorem inFlag (p : Nat) (v : Value) (xs : List UInt8) (bad : Bool) (w : World) (hI : InV w p v xs bad) :
    Calls Tryd.prog 81 #[.pointer (some ⟨p, 0, none⟩)] w (FlagPost w p xs bad) := by
  cases xs with
  | nil => exact flag_empty p v bad w hI
  | cons b xs =>
    by_cases hb : b.toNat ≤ 1
    · exact flag_small p v b xs bad w hI hb
    · exact flag_big p v b xs bad w hI (by omega)

end Go.Proofs.YtgkcflindenboaaDoor

namespace Go.Proofs.YtgkcflindenboaaDoor
open Go Go.RowKit
set_option linter.unusedVariables false
set_option linter.unusedSimpArgs false
set_option maxRecDepth 100000

theorem run_str {w : World} {v : Value} {xs : List UInt8} (h : SlB w v xs) : (convert 49 9 v).run Tryd.prog w = .ok (.string ⟨xs.toArray⟩) w := by
  rcases h with ⟨rfl, rfl⟩ | ⟨g, off, cap, cur, rfl, h1, h2, h3, h4⟩
  · rw [run_convert_bytes_string w 49 9 5 none 0 0 Tryd.underlying49 Tryd.underlying5 Tryd.underlying9]
    kernel_rfl
  · refine run_convert_bytes_back w 49 9 5 ⟨g, off, none⟩ cap xs Tryd.underlying49 Tryd.underlying5 Tryd.underlying9 (fun j hj => ?_)
    have hadd : (⟨g, off, none⟩ : Addr).add j = ⟨g, off + j, none⟩ := by unfold Addr.add; split <;> simp_all
    rw [hadd]
    simp only [World.cell?, h3]
    rw [if_neg (by simp), h4 j hj]
    simp [hj]

/-- What a text's take answers and leaves. -/
def txtN (xs : List UInt8) : Nat := numB (xs.take 2)
def txtOk (xs : List UInt8) (bad : Bool) : Bool := can 2 xs bad && can (txtN xs) (xs.drop 2) bad
def txtR (xs : List UInt8) (bad : Bool) : List UInt8 := if txtOk xs bad then (xs.drop 2).take (txtN xs) else []
def txtL (xs : List UInt8) (bad : Bool) : List UInt8 := if txtOk xs bad then (xs.drop 2).drop (txtN xs) else xs
def TextPost (w : World) (p : Nat) (xs : List UInt8) (bad : Bool) (e : Ending) (w' : World) : Prop :=
  ∃ v', e = .returned (.string ⟨(txtR xs bad).toArray⟩) ∧ InV w' p v' (txtL xs bad) (!txtOk xs bad) ∧ Only (fun k => k = p) w w'

set_option maxHeartbeats 400000 in
theorem text_bad (p : Nat) (v : Value) (xs : List UInt8) (w : World) (hI : InV w p v xs true) :
    Calls Tryd.prog 83 #[.pointer (some ⟨p, 0, none⟩)] w (TextPost w p xs true) := by
  have hc1 := hI.cell1
  have HI := Lib.hid hI; clear hI
  go_enter Tryd.func83, Tryd.ntmps83
  go_wp2_with fail
  refine (bad_any p true w hc1).mono ?_
  rintro e w' ⟨rfl, rfl⟩
  go_wp2
  go_ret
  exact ⟨v, by simp [txtR, txtOk, can], by simpa [txtL, txtOk, can] using HI.out, Only.refl _ _⟩

/-- The same block again, whatever lies in it: what may be read stays. -/
theorem InV.back {w w' : World} {p : Nat} {v v' : Value} {xs xs' : List UInt8} {bad bad' : Bool} (h : InV w p v xs bad) (h' : InV w' p v' xs' bad') (ho : Only (fun k => k = p) w w') :
    InV (w'.setCell ⟨p, 0, none⟩ v) p v xs bad' :=
  h'.set0 (h.sl.keep ho (fun k cur hk e => by subst e; have := h.at'; rw [hk] at this; simp at this))

theorem text_ok (xs : List UInt8) (b2 : Bool) (h : b2 = !can (numB (nextR 2 xs false)) (nextL 2 xs false) (!can 2 xs false)) : txtOk xs false = !b2 := by
  subst h
  cases hc : can 2 xs false <;> simp [txtOk, hc, nextR, nextL, txtN]
  simp [can]
theorem text_res (xs : List UInt8) (h : txtOk xs false = true) : txtR xs false = nextR (numB (nextR 2 xs false)) (nextL 2 xs false) (!can 2 xs false) ∧
    txtL xs false = nextL (numB (nextR 2 xs false)) (nextL 2 xs false) (!can 2 xs false) := by
  have h1 : can 2 xs false = true := by simp [txtOk] at h; exact h.1
  have h2 : can (numB (List.take 2 xs)) (List.drop 2 xs) false = true := by simp [txtOk, txtN] at h; exact h.2
  simp [txtR, txtL, h, nextR, nextL, h1, h2, txtN]

set_option maxHeartbeats 400000 in
theorem text_good (p : Nat) (v : Value) (xs : List UInt8) (w : World) (hI : InV w p v xs false) :
    Calls Tryd.prog 83 #[.pointer (some ⟨p, 0, none⟩)] w (TextPost w p xs false) := by
  obtain ⟨ao, cap, rfl, _⟩ := hI.sl.shape
  have hc1 := hI.cell1
  have hc0 := hI.cell0
  have HI := Lib.hid hI; clear hI
  go_enter Tryd.func83, Tryd.ntmps83
  go_wp2_with fail
  refine (bad_any p false w hc1).mono ?_
  rintro e w' ⟨rfl, rfl⟩
  go_wp2_with fail
  refine (inU16 p _ xs false w HI.out).mono ?_
  rintro e w1 ⟨v1, rfl, hI1, ho1⟩
  have HI1 := Lib.hid hI1; clear hI1
  have HO1 := Lib.hid ho1; clear ho1
  clear hc0 hc1
  obtain ⟨n, hn⟩ : ∃ n, n = numB (nextR 2 xs false) := ⟨_, rfl⟩
  have hlt : n < 65536 := by rw [hn]; exact numN_lt 2 xs false
  rw [← hn]
  have HN := Lib.hid hn; clear hn
  go_wp2_with fail
  refine (next_any p n v1 _ _ w1 HI1.out).mono ?_
  rintro e w2 ⟨r, v2, rfl, hr, hI2, ho2⟩
  obtain ⟨zs, hz⟩ : ∃ zs, zs = nextR n (nextL 2 xs false) (!can 2 xs false) := ⟨_, rfl⟩
  obtain ⟨b2, hb2⟩ : ∃ b2, b2 = !can n (nextL 2 xs false) (!can 2 xs false) := ⟨_, rfl⟩
  rw [← hz] at hr
  rw [← hb2] at hI2
  have hcv := run_str hr
  have hc1 := hI2.cell1
  have hc0 := hI2.cell0
  have hf := hI2.free 0
  have HI2 := Lib.hid hI2; clear hI2
  have HO2 := Lib.hid ho2; clear ho2
  have HZ := Lib.hid hz; clear hz
  have HB := Lib.hid hb2; clear hb2
  have HR := Lib.hid hr; clear hr
  cases b2 with
  | false =>
    go_wp2
    go_ret
    have hok := text_ok xs false (by rw [← HN.out]; exact HB.out)
    have hres := text_res xs hok
    rw [← HN.out] at hres
    refine ⟨v2, ?_, ?_, HO1.out.trans HO2.out (fun _ _ h => h)⟩
    · rw [hres.1, ← HZ.out]; rfl
    · rw [hres.2, hok]; exact HI2.out
  | true =>
    go_wp2
    go_ret
    have hok := text_ok xs true (by rw [← HN.out]; exact HB.out)
    refine ⟨.slice ao xs.length cap, ?_, ?_, (HO1.out.trans HO2.out (fun _ _ h => h)).trans (Only.cell _ _ _ _) (fun _ _ h => h)⟩
    · have : zs = [] := by
        have h1 := HZ.out
        have h2 := HB.out
        simp only [nextR] at h1
        rw [if_neg (by simp at h2; simp [h2])] at h1
        exact h1
      rw [this]
      simp [txtR, hok]
    · simpa [txtL, hok] using HI.out.back HI2.out (HO1.out.trans HO2.out (fun _ _ h => h))

theorem inText (p : Nat) (v : Value) (xs : List UInt8) (bad : Bool) (w : World) (hI : InV w p v xs bad) :
    Calls Tryd.prog 83 #[.pointer (some ⟨p, 0, none⟩)] w (TextPost w p xs bad) := by
  cases bad with
  | true => exact text_bad p v xs w hI
  | false => exact text_good p v xs w hI

set_option maxHeartbeats 400000 in
theorem inDone (p : Nat) (v : Value) (xs : List UInt8) (bad : Bool) (w : World) (hI : InV w p v xs bad) :
    Calls Tryd.prog 60 #[.pointer (some ⟨p, 0, none⟩)] w fun e w' => e = .returned (.bool (!bad && xs.isEmpty)) ∧ w = w' := by
  obtain ⟨ao, cap, rfl, _⟩ := hI.sl.shape
  have hc1 := hI.cell1
  have hc0 := hI.cell0
  have HI := Lib.hid hI; clear hI
  cases bad with
  | true =>
    go_enter Tryd.func60, Tryd.ntmps60
    go_wp2_with fail
    refine (bad_any p true w hc1).mono ?_
    rintro e w' ⟨rfl, rfl⟩
    go_wp2
    go_ret
    exact ⟨rfl, rfl⟩
  | false =>
    go_enter Tryd.func60, Tryd.ntmps60
    go_wp2_with fail
    refine (bad_any p false w hc1).mono ?_
    rintro e w' ⟨rfl, rfl⟩
    go_wp2_with fail
    refine (left_any p ao xs.length cap w hc0).mono ?_
    rintro e w' ⟨rfl, rfl⟩
    go_wp2
    go_ret
    refine ⟨?_, rfl⟩
    cases xs <;> simp
    omega

end Go.Proofs.YtgkcflindenboaaDoor

namespace Go.Proofs.YtgkcflindenboaaDoor
open Go Go.RowKit
set_option linter.unusedVariables false
set_option linter.unusedSimpArgs false
set_option maxRecDepth 100000

def PutPost (w : World) (p : Nat) (v : Value) (xs : List UInt8) (e : Ending) (w' : World) : Prop :=
  e = .returned (.tuple #[]) ∧ ∃ v', OutV w' p v' xs ∧ (v'.ownBlock = v.ownBlock ∨ ∃ g, v'.ownBlock = some g ∧ w.heap.size ≤ g) ∧ Only (OutS p v) w w'

set_option maxHeartbeats 400000 in
theorem number_nil (x n : Int) (w : World) :
    Calls Tryd.prog 71 #[.pointer none, .int .u64 x, .int .i64 n] w fun e w' => e = .returned (.tuple #[]) ∧ w = w' := by
  go_enter Tryd.func71, Tryd.ntmps71
  go_wp2
  exact bodyPost_ret (results_none rfl _ _ _) rfl ⟨rfl, rfl⟩

def NumInv (w : World) (p x n : Nat) (v : Value) (xs : List UInt8) (k : Nat) (wr : World) : Prop :=
  ∃ D v', D ++ beB k x = beB n x ∧ OutV wr p v' (xs ++ D) ∧ (v'.ownBlock = v.ownBlock ∨ ∃ g, v'.ownBlock = some g ∧ w.heap.size ≤ g) ∧ Only (OutS p v) w wr

theorem OutV.cell {w : World} {p : Nat} {v : Value} {xs : List UInt8} (h : OutV w p v xs) : w.cell? ⟨p, 0, none⟩ = some v := by simp [World.cell?, h.at']
theorem OutV.free {w : World} {p : Nat} {v : Value} {xs : List UInt8} (h : OutV w p v xs) : w.frozen? ⟨p, 0, none⟩ = false := by simp [World.frozen?, h.at']
theorem OutV.ne {w : World} {p : Nat} {v : Value} {xs : List UInt8} (h : OutV w p v xs) : v.ownBlock ≠ some p := by
  intro e
  have h1 := h.at'
  rcases h.own.2 with ⟨rfl, _⟩ | ⟨g, cap, cur, rfl, _, hg, _⟩
  · simp [Value.ownBlock] at e
  · simp [Value.ownBlock] at e
    subst e
    rw [hg] at h1
    simp at h1

/-- Behind the append of one byte, ahead of its store into the Out's field. -/
structure PutMid (wr : World) (p : Nat) (v : Value) (ys : List UInt8) (v1 : Value) (w1 : World) : Prop where
  at' : w1.heap[p]? = some (.cells #[v] 84 (0, 0))
  own : w1.ownsRow 0 5 1 v1 ys.length (u8s ys)
  row : v1.ownBlock = v.ownBlock ∨ ∃ g, v1.ownBlock = some g ∧ wr.heap.size ≤ g
  only : Only (OutS p v) wr w1

theorem PutMid.done {wr w1 : World} {p : Nat} {v v1 : Value} {ys : List UInt8} (h : PutMid wr p v ys v1 w1) : OutV (w1.setCell ⟨p, 0, none⟩ v1) p v1 ys := by
  have hne : v1.ownBlock ≠ some p := by
    intro e
    have h1 := h.at'
    rcases h.own.2 with ⟨rfl, _⟩ | ⟨g, cap, cur, rfl, _, hg, _⟩
    · simp [Value.ownBlock] at e
    · simp [Value.ownBlock] at e
      subst e
      rw [hg] at h1
      simp at h1
  exact ⟨one_setCell h.at', ownsRow_setCell_other h.own hne _⟩

/-- The append itself, in whatever world the new bytes lie. -/
theorem PutMid.mk' {wr w0 w1 : World} {p : Nat} {v : Value} {xs ys : List UInt8} (hV : OutV wr p v xs) (h0 : Only (fun _ => False) wr w0) {g cap n : Nat}
    (hown : w1.ownsRow 0 5 1 (.slice (some ⟨g, 0, none⟩) n cap) n (u8s ys)) (hn : n = ys.length) (hg : w0.grownBy w1 v.ownBlock) (hat : v.ownBlock = some g ∨ wr.heap.size ≤ g) :
    PutMid wr p v ys (.slice (some ⟨g, 0, none⟩) n cap) w1 := by
  have hp := h0.keep hV.at' (fun h => h)
  subst hn
  refine ⟨(hg.block p (lt_of_some hp) (fun e => hV.ne e.symm)).trans hp, hown, ?_, ?_⟩
  · rcases hat with h | h
    · exact .inl h.symm
    · exact .inr ⟨g, rfl, h⟩
  · exact (h0.mono (T := OutS p v) (fun _ _ h => h.elim)).grown hg (fun k _ e => .inr e)

theorem step_put {ops : Array Oper} {o : Oper} {a : Act} {K : Act → World → Prop} {Q : Exit → Act → World → Prop} {E : Prop} (wr : World) (p : Nat) (v : Value) (xs : List UInt8) (z : Int) (b : UInt8)
    (hV : OutV wr p v xs) (hz : z = (b.toNat : Int)) (hlen : xs.length + 1 ≤ 140737488355328) (hgd : o.guard = none) (s x : Operand)
    (ho : o.op = .call { callee := .builtin .append, args := #[s, x], argTypes := #[49, 49] })
    (hs : a.eval s = v) (hx : a.eval x = .slice (some ⟨wr.heap.size, 0, none⟩) 1 1)
    (h : ∀ g cap w1, w1.cell? ⟨p, 0, none⟩ = some v → w1.frozen? ⟨p, 0, none⟩ = false → Hid (PutMid wr p v (xs ++ [b]) (.slice (some ⟨g, 0, none⟩) (xs.length + 1) cap) w1) →
      K (a.put o.dst (.slice (some ⟨g, 0, none⟩) (xs.length + 1) cap)) w1) :
    if Region.wanted o (yielded ops a.tmps) = true then Oper.wp Tryd.prog o a (wr.alloc (.cells #[.int .u8 z] 5)).drew K Q else E := by
  obtain ⟨i0, hi, hz0, hz1, hz2⟩ := info_parts Tryd.infoU8
  subst hz
  refine step_append_lies (P := Tryd.prog) (wr.alloc (.cells #[.int .u8 (b.toNat : Int)] 5)).drew hgd s x 49 ho 0 5 i0 (.int .u8 0) 1 1 Tryd.underlying49 hi hz0 hz1 hz2 rfl (by decide) v xs.length (u8s xs) hs
    ((hV.own.alloc _).drew) ⟨wr.heap.size, 0, none⟩ 1 1 (u8s [b]) hx rfl (World.news_of_block (B := wr.heap.size) (heap_alloc_new wr _)) (u8s_oneCell _) Nat.zero_lt_one (by unfold maxLen; omega) (by omega) (Nat.zero_le _) (wr.heap.size + 1) (by simp) ?_
  intro g cap w1 hown hgrow hat hlt
  rw [← u8s_append] at hown
  have hm := PutMid.mk' (ys := xs ++ [b]) hV (((Only.refl _ wr).alloc (.cells #[.int .u8 (b.toNat : Int)] 5)).drew) hown (by simp) hgrow (hat.imp id (fun e => by omega))
  exact h g cap w1 (cell_of_one hm.at') (free_of_one hm.at') hm

theorem NumInv.step {w wr w1 : World} {p x n m q : Nat} {v v' v1 : Value} {xs ys D : List UInt8} (hys : ys = xs ++ D) (hD : D ++ beB (m + 1) x = beB n x)
    (hb : v'.ownBlock = v.ownBlock ∨ ∃ g, v'.ownBlock = some g ∧ w.heap.size ≤ g) (ho : Only (OutS p v) w wr) (hq : q = x / 256 ^ m) (hm : PutMid wr p v' (ys ++ [UInt8.ofNat q]) v1 w1) :
    NumInv w p x n v xs m (w1.setCell ⟨p, 0, none⟩ v1) := by
  subst hys hq
  refine ⟨D ++ [UInt8.ofNat (x / 256 ^ m)], v1, by rw [← hD]; simp [beB], by simpa using hm.done, row_trans ho.size hb hm.row, ?_⟩
  exact (ho.trans (hm.only.trans (Only.cell w1 p 0 v1) (fun k _ e => .inl e)) (fun k hk h => OutS.sub hb k hk h))

set_option maxHeartbeats 400000 in
theorem putNumber (p x n : Nat) (v : Value) (xs : List UInt8) (w : World) (hO : OutV w p v xs) (hn8 : n ≤ 8) (hx : x < 18446744073709551616) (hlen : xs.length + n ≤ 140737488355328) :
    Calls Tryd.prog 71 #[.pointer (some ⟨p, 0, none⟩), .int .u64 x, .int .i64 n] w (PutPost w p v (xs ++ beB n x)) := by
  have HX := Lib.hid hx
  clear hx
  have HO := Lib.hid hO
  clear hO
  obtain ⟨i0, hi, hz0, hz1, hz2⟩ := info_parts Tryd.infoU8
  go_enter Tryd.func71, Tryd.ntmps71
  go_wp2
  go_loopw [6] (fun i wr => ∃ k : Nat, k ≤ n ∧ i = .int .i64 ((k : Int) - 1) ∧ NumInv w p x n v xs k wr) (fun i _ => (intOf i + 1).toNat)
  case atStart => exact ⟨n, Nat.le_refl _, rfl, [], v, rfl, by rw [List.append_nil]; exact HO.out, .inl rfl, Only.refl _ _⟩
  case round =>
    obtain ⟨k, hk, rfl, hinv⟩ := hrel
    have HI := Lib.hid hinv; clear hinv
    match k, hk, HI with
    | 0, hk, HI =>
      go_wp2
      obtain ⟨D, v', hD, hV, hb, ho⟩ := HI.out
      exact bodyPost_end (results_none rfl _ _ _) rfl ⟨rfl, v', by rw [← hD]; simpa [beB] using hV, hb, ho⟩
    | m + 1, hk, HI =>
      obtain ⟨D, v', hD, hV, hb, ho⟩ := HI.out
      rw [show (((m + 1 : Nat) : Int) - 1) = (m : Int) from by omega]
      obtain ⟨ys, hys⟩ : ∃ ys, ys = xs ++ D := ⟨_, rfl⟩
      rw [← hys] at hV
      have hc0 := hV.cell
      have hf := hV.free
      obtain ⟨q, hq⟩ : ∃ q, q = x / 256 ^ m := ⟨_, rfl⟩
      have hsh := shift_at x m (by omega)
      rw [← hq] at hsh
      have hlen2 : ys.length + 1 ≤ 140737488355328 := by
        have h1 := congrArg List.length hD
        rw [hys]
        simp only [List.length_append, beB_length] at h1 ⊢
        omega
      have hz : IntKind.u8.wrap (q : Int) = ((UInt8.ofNat q).toNat : Int) := by rw [IntKind.wrap_u8']; simp
      have hc0' : (wr.alloc (.cells #[.int .u8 (IntKind.u8.wrap (q : Int))] 5)).cell? ⟨p, 0, none⟩ = some v' := cell_of_one ((Below.heap_alloc wr _ p (lt_of_some hV.at')).trans hV.at')
      have HV := Lib.hid hV; clear hV
      have HD := Lib.hid hD; clear hD
      have HB := Lib.hid hb; clear hb
      have HW := Lib.hid ho; clear ho
      have HQ := Lib.hid hq; clear hq
      have HYS := Lib.hid hys; clear hys
      have HZ := Lib.hid hz; clear hz
      clear HI HO
      go_wp2
      go_region_law ((refine step_put wr p v' ys (IntKind.u8.wrap (q : Int)) (UInt8.ofNat q) HV.out HZ.out hlen2 rfl (.tmp 19) (.tmp 25) rfl ?_ ?_ ?_; (go_must (simp [Act.eval])); (go_must (simp [Act.eval])); (go_must (intro g cap w1 c1 f1 HM))))
      all_goals
        have HN := Lib.hid (NumInv.step HYS.out HD.out HB.out HW.out HQ.out HM.out)
        clear HM HYS HD HB HW HQ HV HZ hc0 hf hsh hlen2 hc0' c1 f1
        go_wp2
        go_roundw
        case rel => exact ⟨m, by omega, by go_num, HN.out⟩
        case measure => (simp [intOf] <;> omega)

end Go.Proofs.YtgkcflindenboaaDoor

namespace Go.Proofs.YtgkcflindenboaaDoor
open Go Go.RowKit Go.Lib
set_option linter.unusedVariables false
set_option linter.unusedSimpArgs false
set_option maxRecDepth 100000

theorem put_chain {w w1 w2 : World} {p : Nat} {v v1 : Value} (ho : Only (OutS p v) w w1) (hb : v1.ownBlock = v.ownBlock ∨ ∃ g, v1.ownBlock = some g ∧ w.heap.size ≤ g) (ho2 : Only (OutS p v1) w1 w2) : Only (OutS p v) w w2 :=
  ho.trans ho2 (fun k hk h => OutS.sub hb k hk h)

set_option maxHeartbeats 400000 in
theorem outU64 (p x : Nat) (v : Value) (xs : List UInt8) (w : World) (hO : OutV w p v xs) (hx : x < 18446744073709551616) (hlen : xs.length + 8 ≤ 140737488355328) :
    Calls Tryd.prog 73 #[.pointer (some ⟨p, 0, none⟩), .int .u64 x] w (PutPost w p v (xs ++ beB 8 x)) := by
  have HX := Lib.hid hx; clear hx
  have HL := Lib.hid hlen; clear hlen
  have HO := Lib.hid hO; clear hO
  have HE : Hid (IntKind.u64.wrap (x : Int) = (x : Int)) := by have := HX.out; show _ = _; rw [IntKind.wrap_u64]; omega
  go_enter Tryd.func73, Tryd.ntmps73
  go_wp2_with fail
  try rw [HE.out]
  refine (putNumber p x 8 v xs w HO.out (by omega) (by have := HX.out; omega) HL.out).mono ?_
  rintro e w1 ⟨rfl, hp⟩
  have HP := Lib.hid hp; clear hp
  go_wp2
  exact bodyPost_end (results_none rfl _ _ _) rfl ⟨rfl, HP.out⟩


set_option maxHeartbeats 400000 in
theorem outU16 (p x : Nat) (v : Value) (xs : List UInt8) (w : World) (hO : OutV w p v xs) (hx : x < 65536) (hlen : xs.length + 2 ≤ 140737488355328) :
    Calls Tryd.prog 89 #[.pointer (some ⟨p, 0, none⟩), .int .u16 x] w (PutPost w p v (xs ++ beB 2 x)) := by
  have HX := Lib.hid hx; clear hx
  have HL := Lib.hid hlen; clear hlen
  have HO := Lib.hid hO; clear hO
  have HE : Hid (IntKind.u64.wrap (x : Int) = (x : Int)) := by have := HX.out; show _ = _; rw [IntKind.wrap_u64]; omega
  go_enter Tryd.func89, Tryd.ntmps89
  go_wp2_with fail
  try rw [HE.out]
  refine (putNumber p x 2 v xs w HO.out (by omega) (by have := HX.out; omega) HL.out).mono ?_
  rintro e w1 ⟨rfl, hp⟩
  have HP := Lib.hid hp; clear hp
  go_wp2
  exact bodyPost_end (results_none rfl _ _ _) rfl ⟨rfl, HP.out⟩

set_option maxHeartbeats 400000 in
theorem outU8 (p x : Nat) (v : Value) (xs : List UInt8) (w : World) (hO : OutV w p v xs) (hx : x < 256) (hlen : xs.length + 1 ≤ 140737488355328) :
    Calls Tryd.prog 51 #[.pointer (some ⟨p, 0, none⟩), .int .u8 x] w (PutPost w p v (xs ++ beB 1 x)) := by
  have HX := Lib.hid hx; clear hx
  have HL := Lib.hid hlen; clear hlen
  have HO := Lib.hid hO; clear hO
  have HE : Hid (IntKind.u64.wrap (x : Int) = (x : Int)) := by have := HX.out; show _ = _; rw [IntKind.wrap_u64]; omega
  go_enter Tryd.func51, Tryd.ntmps51
  go_wp2_with fail
  try rw [HE.out]
  refine (putNumber p x 1 v xs w HO.out (by omega) (by have := HX.out; omega) HL.out).mono ?_
  rintro e w1 ⟨rfl, hp⟩
  have HP := Lib.hid hp; clear hp
  go_wp2
  exact bodyPost_end (results_none rfl _ _ _) rfl ⟨rfl, HP.out⟩

/-- What Flag puts. -/
def flagB : Bool → List UInt8
  | true => [1]
  | false => [0]

set_option maxHeartbeats 400000 in
theorem outFlag (p : Nat) (b : Bool) (v : Value) (xs : List UInt8) (w : World) (hO : OutV w p v xs) (hlen : xs.length + 1 ≤ 140737488355328) :
    Calls Tryd.prog 72 #[.pointer (some ⟨p, 0, none⟩), .bool b] w (PutPost w p v (xs ++ flagB b)) := by
  have HL := Lib.hid hlen; clear hlen
  have HO := Lib.hid hO; clear hO
  cases b with
  | true =>
    go_enter Tryd.func72, Tryd.ntmps72
    go_wp2_with fail
    refine (outU8 p 1 v xs w HO.out (by omega) HL.out).mono ?_
    rintro e w1 ⟨rfl, hp⟩
    have HP := Lib.hid hp; clear hp
    go_wp2
    exact bodyPost_end (results_none rfl _ _ _) rfl ⟨rfl, HP.out⟩
  | false =>
    go_enter Tryd.func72, Tryd.ntmps72
    go_wp2_with fail
    refine (outU8 p 0 v xs w HO.out (by omega) HL.out).mono ?_
    rintro e w1 ⟨rfl, hp⟩
    have HP := Lib.hid hp; clear hp
    go_wp2
    exact bodyPost_end (results_none rfl _ _ _) rfl ⟨rfl, HP.out⟩

set_option maxHeartbeats 400000 in
theorem outU8_nil (x : Nat) (w : World) (hx : x < 256) :
    Calls Tryd.prog 51 #[.pointer none, .int .u8 x] w fun e w' => e = .returned (.tuple #[]) ∧ w = w' := by
  go_enter Tryd.func51, Tryd.ntmps51
  go_wp2_with fail
  refine (number_nil _ _ w).mono ?_
  rintro e w' ⟨rfl, rfl⟩
  go_wp2
  exact bodyPost_end (results_none rfl _ _ _) rfl ⟨rfl, rfl⟩

set_option maxHeartbeats 400000 in
theorem outText_nil (s : ByteArray) (w : World) :
    Calls Tryd.prog 74 #[.pointer none, .string s] w fun e w' => e = .returned (.bool false) ∧ w = w' := by
  go_enter Tryd.func74, Tryd.ntmps74
  go_wp2
  go_ret
  exact ⟨rfl, rfl⟩

set_option maxHeartbeats 400000 in
theorem outText_long (p : Nat) (s : ByteArray) (w : World) (hs : 65535 < s.size) :
    Calls Tryd.prog 74 #[.pointer (some ⟨p, 0, none⟩), .string s] w fun e w' => e = .returned (.bool false) ∧ w = w' := by
  have hs' : (65535 : Int) < (s.size : Int) := by omega
  go_enter Tryd.func74, Tryd.ntmps74
  go_wp2
  go_ret
  exact ⟨rfl, rfl⟩

/-- append of a string's bytes, and where the new row lies. -/
theorem run_str_at (w : World) (v : Value) (n : Nat) (xs : List Value) (hown : w.ownsRow 0 5 1 v n xs) (s : ByteArray) (hlen : n + s.size ≤ 140737488355328) :
    ∃ v' w', (Builtin.append_ #[49, 9] 49 #[v, .string s]).run Tryd.prog w = .ok v' w' ∧ w'.ownsRow 0 5 1 v' (n + s.size) (xs ++ strCells s) ∧ w.grownBy w' v.ownBlock ∧
      (v'.ownBlock = v.ownBlock ∨ ∃ g, v'.ownBlock = some g ∧ w.heap.size ≤ g) := by
  obtain ⟨i0, hi, hz0, hz1, hz2⟩ := info_parts Tryd.infoU8
  have h63 : n + s.size ≤ maxLen := by unfold maxLen; omega
  obtain ⟨v', w', hr, h2, h3, h4⟩ := run_append_own_string (P := Tryd.prog) w 0 49 9 49 5 i0 Tryd.underlying49 Tryd.underlying9 hi hz0 hz1 hz2 v n xs hown s h63 hlen (Nat.zero_le _)
  refine ⟨v', w', hr, h2, h3, ?_⟩
  rcases hown.2 with ⟨rfl, rfl⟩ | ⟨g, cap, cur, rfl, hbg, hg, hnc, hcm, hcs, htake⟩
  · have hx : xs = [] := List.eq_nil_of_length_eq_zero (by simpa using hown.1)
    subst hx
    obtain ⟨v2, w2, hr2, k2, _, _⟩ := run_append_own_string (P := Tryd.prog) w w.heap.size 49 9 49 5 i0 Tryd.underlying49 Tryd.underlying9 hi hz0 hz1 hz2 (.slice none 0 0) 0 [] (World.ownsRow_nil _ _ _ _) s h63 hlen (Nat.le_refl _)
    rw [hr] at hr2
    simp only [Result.ok.injEq] at hr2
    obtain ⟨rfl, rfl⟩ := hr2
    rcases k2.2 with ⟨rfl, _⟩ | ⟨g, cap, cur, rfl, hb, _⟩
    · exact .inl rfl
    · exact .inr ⟨g, rfl, hb⟩
  · by_cases hroom : n + s.size ≤ cap
    · have hr2 := run_append_room_string (P := Tryd.prog) w 49 9 49 5 i0 Tryd.underlying49 Tryd.underlying9 hi hz1 g n cap cur hg s hroom (by omega)
      rw [hr] at hr2
      simp only [Result.ok.injEq] at hr2
      exact .inl (by rw [hr2.1]; rfl)
    · have hr2 := run_append_grow_string (P := Tryd.prog) w 49 9 49 5 i0 (.int .u8 0) Tryd.underlying49 Tryd.underlying9 hi hz0 ⟨g, 0, none⟩ n cap xs (by rw [hz1]; exact hown.1) (hown.cells (g := g) rfl) s (by omega)
        (by unfold maxLen at h63; omega) (by rw [hz2]; exact growslice_fits (by omega) (by omega))
      rw [hr] at hr2
      simp only [Result.ok.injEq] at hr2
      exact .inr ⟨w.heap.size, by rw [hr2.1]; rfl, Nat.le_refl _⟩

theorem wp_text {ops : Array Oper} {rest : List Oper} {o : Oper} {a : Act} {Q : Exit → Act → World → Prop} (w : World) (p : Nat) (v : Value) (xs : List UInt8) (s : ByteArray) (hV : OutV w p v xs) (hlen : xs.length + s.size ≤ 140737488355328)
    (hgd : o.guard = none) (sl x : Operand) (ho : o.op = .call { callee := .builtin .append, args := #[sl, x], argTypes := #[49, 9] }) (hty : o.type = 49)
    (hs : a.eval sl = v) (hx : a.eval x = .string s)
    (h : ∀ ao cap w', w'.cell? ⟨p, 0, none⟩ = some v → w'.frozen? ⟨p, 0, none⟩ = false → Hid (PutMid w p v (xs ++ s.data.toList) (.slice ao (xs.length + s.size) cap) w') → wpList Tryd.prog ops Q rest (a.put o.dst (.slice ao (xs.length + s.size) cap)) w') :
    wpList Tryd.prog ops Q (o :: rest) a w := by
  refine wpList_plain hgd fun K hK => ?_
  obtain ⟨v', w', hr, h2, h3, h4⟩ := run_str_at w v xs.length (u8s xs) hV.own s hlen
  obtain ⟨ao, cap, rfl⟩ := own_shape h2
  have hm : PutMid w p v (xs ++ s.data.toList) (.slice ao (xs.length + s.size) cap) w' := by
    refine ⟨(h3.block p (lt_of_some hV.at') (fun e => hV.ne e.symm)).trans hV.at', ?_, h4, (Only.refl _ w).grown h3 (fun k _ e => .inr e)⟩
    rw [u8s_append, List.length_append, Array.length_toList]
    exact h2
  unfold Oper.wp execOp
  simp only [ho, hty, resolve, invoke, builtin, Sem.run_bind, Sem.run_pure, Result.andThen_ok, List.map_toArray, List.map_cons, List.map_nil, hs, hx, hr]
  exact hK _ _ (h _ _ _ (cell_of_one hm.at') (free_of_one hm.at') hm)

end Go.Proofs.YtgkcflindenboaaDoor

namespace Go.Proofs.YtgkcflindenboaaDoor
open Go Go.RowKit Go.Lib
set_option linter.unusedVariables false
set_option linter.unusedSimpArgs false
set_option maxRecDepth 100000

def TextPutPost (w : World) (p : Nat) (v : Value) (xs : List UInt8) (e : Ending) (w' : World) : Prop :=
  e = .returned (.bool true) ∧ ∃ v', OutV w' p v' xs ∧ (v'.ownBlock = v.ownBlock ∨ ∃ g, v'.ownBlock = some g ∧ w.heap.size ≤ g) ∧ Only (OutS p v) w w'

/-- What Text puts of s. -/
def txtB (l : List UInt8) : List UInt8 := beB 2 l.length ++ l

set_option maxHeartbeats 400000 in
theorem outText (p : Nat) (s : ByteArray) (v : Value) (xs : List UInt8) (w : World) (hO : OutV w p v xs) (hs : s.size ≤ 65535) (hlen : xs.length + 2 + s.size ≤ 140737488355328) :
    Calls Tryd.prog 74 #[.pointer (some ⟨p, 0, none⟩), .string s] w (TextPutPost w p v (xs ++ txtB s.data.toList)) := by
  have HO := Lib.hid hO; clear hO
  have hs' : ¬ (65535 : Int) < (s.size : Int) := by omega
  have HE : Hid (IntKind.u16.wrap (s.size : Int) = (s.size : Int)) := by show _ = _; rw [IntKind.wrap_u16]; omega
  have hne : (p : Nat) = p := rfl
  clear hne
  go_enter Tryd.func74, Tryd.ntmps74
  go_wp2_with fail
  try rw [HE.out]
  refine (outU16 p s.size v xs w HO.out (by omega) (by omega)).mono ?_
  rintro e w1 ⟨rfl, v1, hV1, hb1, ho1⟩
  have hl2 : (xs ++ beB 2 s.size).length + s.size ≤ 140737488355328 := by simp [beB_length]; omega
  obtain ⟨ys, hys⟩ : ∃ ys, ys = xs ++ beB 2 s.size := ⟨_, rfl⟩
  rw [← hys] at hV1 hl2
  have hc0 := hV1.cell
  have hf := hV1.free
  have HV1 := Lib.hid hV1; clear hV1
  have HB1 := Lib.hid hb1; clear hb1
  have HO1 := Lib.hid ho1; clear ho1
  have HY := Lib.hid hys; clear hys
  go_wp2_with (at_builtin; refine wp_text w1 p v1 ys s HV1.out hl2 rfl (.tmp 21) (.tmp 22) rfl rfl rfl rfl ?_; intro ao cap w2 c2 f2 HM)
  go_ret
  refine ⟨rfl, .slice ao (ys.length + s.size) cap, ?_, row_trans HO1.out.size HB1.out HM.out.row, put_chain HO1.out HB1.out (HM.out.only.trans (Only.cell _ _ _ _) (fun k _ e => .inl e))⟩
  have := HM.out.done
  rw [show xs ++ txtB s.data.toList = ys ++ s.data.toList by rw [HY.out]; simp [txtB]]
  exact this

theorem SlB.toC {w : World} {v : Value} {xs : List UInt8} (h : SlB w v xs) : SlC w v xs := by
  rcases h with h | ⟨g, off, cap, cur, rfl, h1, h2, h3, h4⟩
  · exact .inl h
  · exact .inr ⟨_, cap, rfl, fun j hj => by rw [add_lit]; simp [World.cell?, h3, h4 j hj]⟩
theorem own_toB {w : World} {B : Nat} {v : Value} {xs : List UInt8} (h : w.ownsRow B 5 1 v xs.length (u8s xs)) : SlB w v xs := by
  rcases h.2 with ⟨rfl, h0⟩ | ⟨g, cap, cur, rfl, _, hg, hc, hm, hs, ht⟩
  · exact .inl ⟨rfl, List.eq_nil_of_length_eq_zero h0⟩
  · refine .inr ⟨g, 0, cap, cur, rfl, hc, hm, hg, fun j hj => ?_⟩
    have h1 := u8s_at hj
    rw [← ht, List.getElem?_take, if_pos (by omega)] at h1
    simpa using h1

/-- A fresh copy: in a new block (or nil), nothing that was there is changed. -/
def ClonePost (w : World) (xs : List UInt8) (e : Ending) (w' : World) : Prop :=
  ∃ r, e = .returned r ∧ w'.ownsRow w.heap.size 5 1 r xs.length (u8s xs) ∧ Only (fun _ => False) w w'

set_option maxHeartbeats 400000 in
theorem clone_any (v : Value) (xs : List UInt8) (w : World) (h : SlC w v xs) (hlen : xs.length ≤ 140737488355328) :
    Calls Tryd.prog 75 #[v] w (ClonePost w xs) := by
  obtain ⟨i0, hi, hz0, hz1, hz2⟩ := info_parts Tryd.infoU8
  rcases h with ⟨rfl, rfl⟩ | ⟨a, cap, rfl, hc⟩
  · have hnil := fun (w : World) => Lib.run_eql_slice_nil (P := Tryd.prog) w 49 5 none 0 0 0 0 Tryd.underlying49
    go_enter Tryd.func75, Tryd.ntmps75
    go_wp2
    go_ret
    exact ⟨_, rfl, World.ownsRow_nil _ _ _ _, Only.refl _ _⟩
  · have hn : ∀ j u, (u8s xs)[j]? = some u → w.cell? (a.add j) = some u := fun j u hu => by
      obtain ⟨hj, rfl⟩ := u8s_get hu
      exact hc j hj
    have HN : Hid (∀ j u, (u8s xs)[j]? = some u → (w.alloc (.cells #[] 5)).cell? (a.add j) = some u) := fun j u hu => by
      have h1 := hn j u hu
      have hb : (a.add j).block < w.heap.size := World.block_lt_of_cell? w _ h1
      exact (World.cell?_of_block (Below.heap_alloc w _ _ hb)).trans h1
    clear hn hc
    have HL := Lib.hid hlen; clear hlen
    obtain ⟨l, hl⟩ : ∃ l, l = xs.length := ⟨_, rfl⟩
    rw [← hl]
    have HE := Lib.hid hl; clear hl
    have hnil := fun (w : World) => Lib.run_eql_slice_nil (P := Tryd.prog) w 49 5 (some a) l cap 0 0 Tryd.underlying49
    go_enter Tryd.func75, Tryd.ntmps75
    go_wp2_with (at_builtin; refine wpList_append_own _ rfl _ _ 49 rfl w.heap.size 5 i0 (.int .u8 0) 1 1 Tryd.underlying49 hi hz0 hz1 hz2 rfl (by decide) _ _ _ rfl (World.ownsRow_made w #[] 0 (Nat.le_refl _) (by decide) rfl) a l cap (u8s xs) rfl ?c1 HN.out (u8s_oneCell xs) ?c3 ?c4 ?c5 ?_)
    case c1 => rw [HE.out, u8s_length, Nat.mul_one]
    case c3 => have := HL.out; rw [HE.out]; unfold maxLen; omega
    case c4 => have := HL.out; rw [HE.out]; omega
    case c5 => simp
    intro v' w1 hown hg _
    have HG := Lib.hid hg; clear hg
    have HW := Lib.hid hown; clear hown
    go_wp2
    go_ret
    refine ⟨_, rfl, ?_, ((Only.refl _ w).alloc _).grown HG.out (fun k hk e => ?_)⟩
    · rw [← HE.out]; exact HW.out
    · simp [Value.ownBlock] at e; omega

set_option maxHeartbeats 400000 in
theorem outBytes (p : Nat) (v : Value) (xs : List UInt8) (w : World) (hV : OutV w p v xs) (hlen : xs.length ≤ 140737488355328) :
    Calls Tryd.prog 53 #[.pointer (some ⟨p, 0, none⟩)] w (ClonePost w xs) := by
  have hc := hV.cell
  have HC := Lib.hid (own_toB hV.own).toC
  clear hV
  go_enter Tryd.func53, Tryd.ntmps53
  go_wp2_with fail
  refine (clone_any v xs w HC.out hlen).mono ?_
  rintro e w1 ⟨r, rfl, hr, ho⟩
  have HR := Lib.hid hr; clear hr
  have HO := Lib.hid ho; clear ho
  go_wp2
  go_ret
  exact ⟨_, rfl, HR.out, HO.out⟩

set_option maxHeartbeats 400000 in
theorem outBytes_nil (w : World) :
    Calls Tryd.prog 53 #[.pointer none] w fun e w' => e = .returned (.slice none 0 0) ∧ w = w' := by
  go_enter Tryd.func53, Tryd.ntmps53
  go_wp2
  go_ret
  exact ⟨rfl, rfl⟩

def ToPost (w : World) (xs : List UInt8) (e : Ending) (w' : World) : Prop :=
  ∃ p v, e = .returned (.pointer (some ⟨p, 0, none⟩)) ∧ InV w' p v xs false ∧ w.heap.size ≤ p ∧ Only (fun _ => False) w w'

theorem SlB.alloc {w : World} {v : Value} {xs : List UInt8} (h : SlB w v xs) (o : Obj) : SlB (w.alloc o) v xs :=
  h.keep ((Only.refl (fun _ => False) w).alloc o) (fun _ _ _ h => h)

set_option maxHeartbeats 400000 in
theorem to_any (v : Value) (xs : List UInt8) (w : World) (h : SlC w v xs) (hlen : xs.length ≤ 140737488355328) :
    Calls Tryd.prog 57 #[v] w (ToPost w xs) := by
  have HC := Lib.hid h
  clear h
  go_enter Tryd.func57, Tryd.ntmps57
  go_wp2_with fail
  refine (clone_any v xs w HC.out hlen).mono ?_
  rintro e w1 ⟨r, rfl, hr, ho⟩
  obtain ⟨ao, cap, rfl⟩ := own_shape hr
  have HR := Lib.hid hr; clear hr
  have HO := Lib.hid ho; clear ho
  go_wp2
  go_ret
  exact ⟨w1.heap.size, _, rfl, ⟨heap_alloc_new w1 _, (own_toB HR.out).alloc _⟩, HO.out.size, HO.out.alloc _⟩

end Go.Proofs.YtgkcflindenboaaDoor

namespace Go.Proofs.YtgkcflindenboaaDoor
open Go Go.RowKit Go.Lib
set_option linter.unusedVariables false
set_option linter.unusedSimpArgs false
set_option maxRecDepth 100000

theorem OutV.new (w : World) : OutV (w.alloc (.cells #[.slice none 0 0] 84)) w.heap.size (.slice none 0 0) [] :=
  ⟨heap_alloc_new w _, World.ownsRow_nil _ _ _ _⟩

theorem Only.none {a b c : World} {S : Nat → Prop} (h : Only (fun _ => False) a b) (k : Only S b c) (hS : ∀ k, S k → a.heap.size ≤ k) : Only (fun _ => False) a c :=
  h.trans k (fun i hi hs => by have := hS i hs; omega)
theorem OutS.ge {B p : Nat} {v : Value} (hp : B ≤ p) (hv : v.ownBlock = .none ∨ ∃ g, v.ownBlock = some g ∧ B ≤ g) : ∀ k, OutS p v k → B ≤ k := by
  intro k h
  rcases h with rfl | h
  · exact hp
  · rcases hv with hv | ⟨g, hg, hB⟩
    · rw [hv] at h; cases h
    · rw [hg] at h; simp at h; omega
theorem row_ge {B : Nat} {w : World} {v v' : Value} (hB : B ≤ w.heap.size) (hv : v.ownBlock = .none ∨ ∃ g, v.ownBlock = some g ∧ B ≤ g) (h : v'.ownBlock = v.ownBlock ∨ ∃ g, v'.ownBlock = some g ∧ w.heap.size ≤ g) :
    v'.ownBlock = .none ∨ ∃ g, v'.ownBlock = some g ∧ B ≤ g := by
  rcases h with h | ⟨g, hg, hge⟩
  · rw [h]; exact hv
  · exact .inr ⟨g, hg, by omega⟩

theorem OutV.keep {S : Nat → Prop} {w w' : World} {p : Nat} {v : Value} {xs : List UInt8} (h : OutV w p v xs) (ho : Only S w w') (hp : ¬ S p) (hv : ∀ g, v.ownBlock = some g → ¬ S g) : OutV w' p v xs := by
  refine ⟨ho.keep h.at' hp, h.own.1, ?_⟩
  rcases h.own.2 with h0 | ⟨g, cap, cur, rfl, hb, hg, rest⟩
  · exact .inl h0
  · exact .inr ⟨g, cap, cur, rfl, hb, ho.keep hg (hv g rfl), rest⟩
theorem InV.keep {S : Nat → Prop} {w w' : World} {p : Nat} {v : Value} {xs : List UInt8} {bad : Bool} (h : InV w p v xs bad) (ho : Only S w w') (hp : ¬ S p)
    (hS : ∀ k cur, w.heap[k]? = some (.cells cur 5 (0, 0)) → ¬ S k) : InV w' p v xs bad :=
  ⟨ho.keep h.at' hp, h.sl.keep ho hS⟩
theorem SlB.lit (w : World) (xs : List UInt8) (cur : Array Value) (hm : xs.length ≤ maxLen) (h : cur = (u8s xs).toArray) :
    SlB (w.alloc (.cells cur 5)) (.slice (some ⟨w.heap.size, 0, none⟩) xs.length xs.length) xs :=
  .inr ⟨w.heap.size, 0, xs.length, cur, rfl, Nat.le_refl _, hm, heap_alloc_new w _, fun j hj => by subst h; simpa using u8s_at hj⟩


end Go.Proofs.YtgkcflindenboaaDoor
