/-
  What the library's tables hold, kept from call to call; the decimal digits of a number: strconv's FormatUint and FormatInt.
-/
import Derived.Test.YtpedcpehomkikaaDoorVal1
import Derived.Test.YtpedcpehomkikaaDoorVal3
import Derived.Lib.ItoaMem
import Derived.Lib.AppendIntMem
import Derived.WalkSmall
namespace Go.Proofs.YtpedcpehomkikaaDoor
open Go Go.RowKit
set_option linter.unusedVariables false
set_option linter.unusedSimpArgs false
set_option maxRecDepth 100000

/-- The library's tables and errors as the program lays them. -/
structure Tabs (w : World) : Prop where
  pow : Lib.TabIs Tryd.prog w "internal/strconv.uint64pow10" .u64 Lib.pow10Tab
  utf : Lib.Utf8Tabs (Tryd.laysValid_ren.g 3) (Tryd.laysValid_ren.g 4) w
  syn : ∃ tp p, w.var? Tryd.prog "strconv.ErrSyntax" = some #[.iface tp p]
  rng : ∃ tp p, w.var? Tryd.prog "strconv.ErrRange" = some #[.iface tp p]
theorem var_keep {P : Program} {w w' : World} {n : String} {cs : Array Value} (h : w.var? P n = some cs) (hb : Below w.heap.size w w') : w'.var? P n = some cs := by
  unfold World.var? at *
  cases hg : P.globalNamed n with
  | none => simp [hg] at h
  | some g =>
    simp only [hg, Option.bind_some] at h ⊢
    have hlt : g < w.heap.size := by
      rcases Nat.lt_or_ge g w.heap.size with h' | h'
      · exact h'
      · rw [Array.getElem?_eq_none h'] at h; simp at h
    rw [hb.block g hlt]
    exact h
theorem Tabs.keep {w w' : World} (h : Tabs w) (hb : Below w.heap.size w w') : Tabs w' :=
  ⟨var_keep h.pow hb, Utf8Tabs_below h.utf hb, h.syn.imp fun _ h => h.imp fun _ h => var_keep h hb, h.rng.imp fun _ h => h.imp fun _ h => var_keep h hb⟩

theorem dig_dec (n : Nat) : dig n = Lib.decDigits n := by
  induction n using Nat.strongRecOn with
  | ind n ih =>
    by_cases h : n < 10
    · rw [dig_lo h, Lib.decDigits, dif_pos h]
    · rw [dig_hi h, Lib.decDigits, dif_neg h, ih (n / 10) (by omega)]
theorem below_grow (w : World) (k : Nat) (os : Array Obj) : Below w.heap.size w (Sort.grow (w.drewN k) os) := by
  refine ⟨rfl, rfl, rfl, ?_, ?_⟩
  · show w.heap.size ≤ (w.heap ++ os).size
    simp
  · intro i hi
    show (w.heap ++ os)[i]? = _
    rw [Array.getElem?_append_left hi]

abbrev encB : UInt8 → Value := fun b => .int .u8 (b.toNat : Int)
theorem holds_zero0 (w : World) (T : TypeId) (nd : Nat) (hs : nd ≤ 24) : Sort.Holds encB (w.alloc (.cells Lib.zeros24 T)) w.heap.size 0 (Array.replicate nd (0 : UInt8)) := fun j hj => by
  have hj' : j < nd := by simpa using hj
  refine ⟨?_, World.frozen?_alloc_new _ _ _ _⟩
  rw [World.cell?_alloc_new, Nat.zero_add, Lib.zeros24_at _ (by omega), getElem!_pos _ j hj]
  simp



theorem itoa_dig (n : Nat) (hn : n < M64) : Lib.itoa (sgn n) = if sgn n < 0 then 45 :: dig (M64 - n) else dig n := by
  unfold sgn Lib.itoa M64 at *
  by_cases h : n < 9223372036854775808
  · rw [if_pos h, if_neg (by omega), if_neg (by omega), dig_dec]
    rfl
  · rw [if_neg h, if_pos (by omega), if_pos (by omega), dig_dec]
    congr 2
    omega

end Go.Proofs.YtpedcpehomkikaaDoor
