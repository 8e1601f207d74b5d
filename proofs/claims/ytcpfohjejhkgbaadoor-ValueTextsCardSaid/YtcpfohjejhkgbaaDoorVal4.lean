/-
  What the library's tables hold, kept from call to call; the decimal digits of a number: strconv's FormatUint and FormatInt.
-/
import Derived.Test.YtcpfohjejhkgbaaDoorVal1
import Derived.Test.YtcpfohjejhkgbaaDoorVal3
import Derived.Lib.ItoaMem
import Derived.Lib.AppendIntMem
import Derived.WalkSmall
namespace Go.Proofs.YtcpfohjejhkgbaaDoor
open Go Go.RowKit
set_option linter.unusedVariables false
set_option linter.unusedSimpArgs false
set_option maxRecDepth 100000

/-- The library's tables and errors as the program lays them. -/
structure Tabs (w : World) : Prop where
  pow : Lib.TabIs Tryd.prog w "internal/strconv.uint64pow10" .u64 Lib.pow10Tab
  utf : Lib.Utf8Tabs (Tryd.laysValid_ren.g 3) (Tryd.laysValid_ren.g 4) w
  syn : ∃ tp p, w.var? Tryd.prog "strconv.ErrSyntax" = some #[.iface tp p]
  rng : ∃ tp p, w.var? Tryd.prog "strconv.ErrRange" = some #[.iface tp p]
theorem var_keep {P : Program} {w w' : World} {n : String} {cs : Array Value} (h : w.var? P n = some cs) (hb : Below w.heap.size w w') : w'.var? P n = some cs := by
  unfold World.var? at *
  cases hg : P.globalNamed n with
  | none => simp [hg] at h
  | some g =>
    simp only [hg, Option.bind_some] at h ⊢
    have hlt : g < w.heap.size := by
      rcases Nat.lt_or_ge g w.heap.size with h' | h'
      · exact h'
      · rw [Array.getElem?_eq_none h'] at h; simp at h
    rw [hb.block g hlt]
    exact h
theorem Tabs.keep {w w' : World} (h : Tabs w) (hb : Below w.heap.size w w') : Tabs w' :=
  ⟨var_keep h.pow hb, Utf8Tabs_below h.utf hb, h.syn.imp fun _ h => h.imp fun _ h => var_keep h hb, h.rng.imp fun _ h => h.imp fun _ h => var_keep h hb⟩

theorem dig_dec (n : Nat) : dig n = Lib.decDigits n := by
  induction n using Nat.strongRecOn with
  | ind n ih =>
    by_cases h : n < 10
    · rw [dig_lo h, Lib.decDigits, dif_pos h]
    · rw [dig_hi h, Lib.decDigits, dif_neg h, ih (n / 10) (by omega)]
theorem below_grow (w : World) (k : Nat) (os : Array Obj) : Below w.heap.size w (Sort.grow (w.drewN k) os) := by
  refine ⟨rfl, rfl, rfl, ?_, ?_⟩
  · show w.heap.size ≤ (w.heap ++ os).size
    simp
  · intro i hi
    show (w.heap ++ os)[i]? = _
    rw [Array.getElem?_append_left hi]

abbrev encB : UInt8 → Value := fun b => .int .u8 (b.toNat : Int)
theorem holds_zero0 (w : World) (T : TypeId) (nd : Nat) (hs : nd ≤ 24) : Sort.Holds encB (w.alloc (.cells Lib.zeros24 T)) w.heap.size 0 (Array.replicate nd (0 : UInt8)) := fun j hj => by
  have hj' : j < nd := by simpa using hj
  refine ⟨?_, World.frozen?_alloc_new _ _ _ _⟩
  rw [World.cell?_alloc_new, Nat.zero_add, Lib.zeros24_at _ (by omega), getElem!_pos _ j hj]
  simp

set_option maxHeartbeats 1000000 in
theorem fmt_inner (u : Nat) (hu64 : u < 18446744073709551616) (w : World) (htab : Lib.TabIs Tryd.prog w "internal/strconv.uint64pow10" .u64 Lib.pow10Tab) :
    Calls Tryd.prog 32 #[.int .u64 (u : Int), .int .i64 10] w fun e w' => e = .returned (.string ⟨(Lib.decDigits u).toArray⟩) ∧ Below w.heap.size w w' := by
  by_cases hs : u < 100
  · obtain ⟨z, hz⟩ : ∃ z : Int, (u : Int) = z := ⟨_, rfl⟩
    have HS := Lib.hid (Tryd.internal_strconv_small u hs w)
    rw [hz] at HS ⊢
    have hz0 : 0 ≤ z ∧ z < 100 := by omega
    clear hz
    go_enter Tryd.func32, Tryd.ntmps32
    go_wp2_with fail
    refine HS.out.mono ?_
    rintro e w' ⟨rfl, rfl⟩
    go_wp2_with fail
    go_ret
    exact ⟨rfl, Below.refl _ _⟩
  · have hu1 : 1 ≤ u := by omega
    have hnd20 : Lib.nDigits u ≤ 20 := by have := Lib.numDigits_eq u hu1 hu64; split at this <;> omega
    have hal : Tryd.prog.arrayLen 78 = 24 := by simp [Program.arrayLen, Tryd.underlying78]
    have hsl : ∀ W, (Instr.sliceAt 78 (.pointer (some ⟨w.heap.size, 0, none⟩)) none (some (.int .i64 (Lib.nDigits u : Int))) none).run Tryd.prog W = .ok (.slice (some ⟨w.heap.size, 0, none⟩) (Lib.nDigits u) 24) W := fun W => by
      rw [run_sliceAt_array_h W 78 ⟨w.heap.size, 0, none⟩ (by simp [Program.arrayLen, Program.elem, Tryd.underlying78]) .i64 (Lib.nDigits u : Int) (by omega) (by rw [hal]; omega)]
      go_simp
    have hH0 := holds_zero0 w 78 (Lib.nDigits u) (by omega)
    have hfmt := Tryd.internal_strconv_formatBase10 w.heap.size 0 24 u (Array.replicate (Lib.nDigits u) 0) (w.alloc (.cells Lib.zeros24 78)) hH0 (by rw [Array.size_replicate]; exact Lib.lt_pow_nDigits u) hu64 (by rw [Array.size_replicate]; omega)
    rw [Array.size_replicate] at hfmt
    have HND := Lib.hid (Tryd.internal_strconv_numDigits u hu1 hu64 (w.alloc (.cells Lib.zeros24 78)) (Lib.tabIs_alloc htab _))
    have HH0 := Lib.hid hH0
    have HFM := Lib.hid hfmt
    obtain ⟨z, hz⟩ : ∃ z : Int, (u : Int) = z := ⟨_, rfl⟩
    rw [hz] at HND HFM ⊢
    have hge : ¬ z < 100 := by omega
    clear hH0 hal hfmt hs hz hu64 hu1
    go_enter Tryd.func32, Tryd.ntmps32
    go_wp2_with fail
    refine HND.out.mono ?_
    rintro e w1 ⟨rfl, rfl⟩
    go_wp2_with fail
    refine HFM.out.mono ?_
    rintro e w2 ⟨rfl, k, v', dk, rfl, hF⟩
    have hcv : (convert 43 9 (.slice (some ⟨w.heap.size, 0, none⟩) (Lib.nDigits u) 24)).run Tryd.prog ((Sort.putRow encB (w.alloc (.cells Lib.zeros24 78)) w.heap.size 0 dk).drewN k) = .ok (.string ⟨(Lib.decDigits u).toArray⟩) ((Sort.putRow encB (w.alloc (.cells Lib.zeros24 78)) w.heap.size 0 dk).drewN k) := by
      have h := run_convert_bytes_back (P := Tryd.prog) ((Sort.putRow encB (w.alloc (.cells Lib.zeros24 78)) w.heap.size 0 dk).drewN k) 43 9 5 ⟨w.heap.size, 0, none⟩ 24 (Lib.decDigits u) Tryd.underlying43 Tryd.underlying5 Tryd.underlying9 (fun j hj => by
        rw [Lib.row_is_numeral hF j hj, Lib.add_plain, World.cell?_drewN]
        exact Sort.cell?_putRow encB _ w.heap.size 0 _ dk HH0.out (by rw [hF.size, Array.size_replicate]) j (by rw [hF.size]; rw [Lib.decDigits_length] at hj; exact hj))
      rw [Lib.decDigits_length] at h
      exact h
    have HB : Hid (Below w.heap.size w ((Sort.putRow encB (w.alloc (.cells Lib.zeros24 78)) w.heap.size 0 dk).drewN k)) := Lib.hid (by
      obtain ⟨os, eo⟩ := Lib.fin_at w (.cells Lib.zeros24 78) dk k 0
      rw [eo]
      exact below_grow w k os)
    clear hF HFM HND HH0
    go_wp2
    go_ret
    exact ⟨rfl, HB.out⟩
theorem fmt_uint (n : Int) (hn : U64 n) (w : World) (htab : Lib.TabIs Tryd.prog w "internal/strconv.uint64pow10" .u64 Lib.pow10Tab) :
    Calls Tryd.prog 14 #[.int .u64 n, .int .i64 10] w fun e w' => e = .returned (.string ⟨(dig n.toNat).toArray⟩) ∧ Below w.heap.size w w' := by
  have h := fmt_inner n.toNat (by have := hn.lo; have := hn.hi; omega) w htab
  rw [Int.toNat_of_nonneg hn.lo, ← dig_dec] at h
  have H := Lib.hid h
  clear h htab
  go_enter Tryd.func14, Tryd.ntmps14
  go_wp2_with fail
  refine H.out.mono ?_
  rintro e w1 ⟨rfl, hb⟩
  have HB := Lib.hid hb
  clear hb H
  go_wp2
  go_ret
  exact ⟨rfl, HB.out⟩
theorem itoa_dig (n : Nat) (hn : n < M64) : Lib.itoa (sgn n) = if sgn n < 0 then 45 :: dig (M64 - n) else dig n := by
  unfold sgn Lib.itoa M64 at *
  by_cases h : n < 9223372036854775808
  · rw [if_pos h, if_neg (by omega), if_neg (by omega), dig_dec]
    rfl
  · rw [if_neg h, if_pos (by omega), if_pos (by omega), dig_dec]
    congr 2
    omega
theorem fmt_int (n : Int) (hn : U64 n) (w : World) (htab : Lib.TabIs Tryd.prog w "internal/strconv.uint64pow10" .u64 Lib.pow10Tab) :
    Calls Tryd.prog 13 #[.int .i64 (sgn n.toNat), .int .i64 10] w fun e w' => e = .returned (.string ⟨(if sgn n.toNat < 0 then 45 :: dig (M64 - n.toNat) else dig n.toNat).toArray⟩) ∧ Below w.heap.size w w' := by
  have hs : -9223372036854775808 ≤ sgn n.toNat ∧ sgn n.toNat ≤ 9223372036854775807 := by
    have := hn.lo; have := hn.hi
    unfold sgn; split <;> omega
  refine (Tryd.strconv_FormatInt_10 _ hs.1 hs.2 w htab).mono ?_
  rintro e w' ⟨rfl, k, os, rfl⟩
  exact ⟨by rw [itoa_dig _ (by have := hn.lo; have := hn.hi; unfold M64; omega)], below_grow w k os⟩

end Go.Proofs.YtcpfohjejhkgbaaDoor
