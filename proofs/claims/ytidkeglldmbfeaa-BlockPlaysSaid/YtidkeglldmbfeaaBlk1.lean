/-
  What a block's sectors hold, and package block's Count and the bytes of a part.
-/
import Derived.Test.YtidkeglldmbfeaaPackWide
import Derived.Test.YtidkeglldmbfeaaPackIn5
import Derived.Test.YtidkeglldmbfeaaApart
import Derived.Test.YtidkeglldmbfeaaDisk7
namespace Go.Proofs.Ytidkeglldmbfeaa
open Go Go.RowKit
set_option linter.unusedVariables false
set_option linter.unusedSimpArgs false
set_option maxRecDepth 100000

/-- What one of a block's sectors holds. -/
structure Part where
  id : Nat
  place : Nat
  count : Nat
  data : List UInt8
instance : Inhabited Part := ⟨⟨0, 0, 0, []⟩⟩
def cntN (n : Nat) : Nat := if n ≤ 50 then 1 else (n + 49) / 50
def cnt (n : Int) : Nat := if n < 0 ∨ 32768 < n then 0 else cntN n.toNat
theorem cntN_pos (n : Nat) : 1 ≤ cntN n := by unfold cntN; split <;> omega
theorem cntN_max {n : Nat} (h : n ≤ 32768) : cntN n ≤ 656 := by unfold cntN; split <;> omega
theorem cntN_fits (n : Nat) : n ≤ 50 * cntN n ∧ (1 < cntN n → 50 * (cntN n - 1) < n) := by unfold cntN; split <;> omega
theorem cnt_nat {n : Nat} (h : n ≤ 32768) : cnt n = cntN n := by unfold cnt; rw [if_neg (by omega)]; simp
theorem cnt_zero (z : Int) : cnt z = 0 ↔ z < 0 ∨ 32768 < z := by
  unfold cnt
  split
  · simp [*]
  · have := cntN_pos z.toNat; constructor <;> intro h <;> omega

def Part.out (p : Part) : List UInt8 := ((([] ++ beB 8 p.id) ++ beB 2 p.place) ++ beB 2 p.count) ++ txtB p.data
structure Part.Ok (p : Part) : Prop where
  id : p.id < 18446744073709551616
  place : p.place < 65536
  count : p.count < 65536
  data : p.data.length ≤ 50
def Part.val (p : Part) : Value := .agg #[.int .u64 p.id, .int .i64 p.place, .int .i64 p.count, .string ⟨p.data.toArray⟩]
theorem Part.out_length (p : Part) : p.out.length = 14 + p.data.length := by simp [Part.out, txtB, beB_length]; omega

/-- A boxed part and an Out, made since w. -/
structure PutC (w w1 : World) (pb po : Nat) (cs : Array Value) (v : Value) (xs : List UInt8) : Prop where
  box : w1.heap[pb]? = some (.cells cs 75 (0, 0))
  out : OutV w1 po v xs
  ne : pb ≠ po
  gb : w.heap.size ≤ pb
  go : w.heap.size ≤ po
  row : v.ownBlock = .none ∨ ∃ g, v.ownBlock = some g ∧ w.heap.size ≤ g
  only : Only (fun _ => False) w w1
theorem PutC.put {w w1 w2 : World} {pb po : Nat} {cs : Array Value} {v v' : Value} {xs ys : List UInt8} (h : PutC w w1 pb po cs v xs) (hO : OutV w2 po v' ys)
    (hr : v'.ownBlock = v.ownBlock ∨ ∃ g, v'.ownBlock = some g ∧ w1.heap.size ≤ g) (ho : Only (OutS po v) w1 w2) : PutC w w2 pb po cs v' ys := by
  refine ⟨ho.keep h.box ?_, hO, h.ne, h.gb, h.go, row_ge h.only.size h.row hr, h.only.none ho (OutS.ge h.go h.row)⟩
  rintro (e | e)
  · exact h.ne e
  · exact h.out.rowne h.box (by decide) e
theorem PutC.cell {w w1 : World} {pb po : Nat} {cs : Array Value} {v : Value} {xs : List UInt8} (h : PutC w w1 pb po cs v xs) (j : Nat) : w1.cell? ⟨pb, j, none⟩ = cs[j]? := by simp [World.cell?, h.box]

theorem own_base {w : World} {B B' : Nat} {e : TypeId} {size : Nat} {v : Value} {n : Nat} {xs : List Value} (h : w.ownsRow B e size v n xs) (hB : B' ≤ B) : w.ownsRow B' e size v n xs := by
  refine ⟨h.1, ?_⟩
  rcases h.2 with h0 | ⟨g, cap, cur, rfl, hb, rest⟩
  · exact .inl h0
  · exact .inr ⟨g, cap, cur, rfl, Nat.le_trans hB hb, rest⟩

set_option maxHeartbeats 1000000 in
theorem part_bytes (p : Part) (hp : p.Ok) (w : World) :
    Calls Try.prog 42 #[p.val] w (ClonePost w p.out) := by
  obtain ⟨id, place, count, data⟩ := p
  obtain ⟨h1, h2, h3, h4⟩ := hp
  simp only at h1 h2 h3 h4
  unfold Part.val
  simp only
  have HP : Hid (IntKind.u16.wrap (place : Int) = (place : Int)) := by show _ = _; rw [IntKind.wrap_u16]; omega
  have HC : Hid (IntKind.u16.wrap (count : Int) = (count : Int)) := by show _ = _; rw [IntKind.wrap_u16]; omega
  have H1 := Lib.hid h1
  have H2 := Lib.hid h2
  have H3 := Lib.hid h3
  have H4 := Lib.hid h4
  clear h1 h2 h3 h4
  go_enter Try.func42, Try.ntmps42
  go_wp2_with fail
  have hc0 : PutC w ((w.alloc (.cells #[.int .u64 id, .int .i64 place, .int .i64 count, .string ⟨data.toArray⟩] 75)).alloc (.cells #[.slice none 0 0] 86)) w.heap.size (w.heap.size + 1) #[.int .u64 id, .int .i64 place, .int .i64 count, .string ⟨data.toArray⟩] (.slice none 0 0) [] := by
    refine ⟨?_, ?_, by omega, Nat.le_refl _, by omega, .inl rfl, ((Only.refl (fun _ => False) w).alloc _).alloc _⟩
    · exact ((Only.refl (fun _ => False) _).alloc _).keep (heap_alloc_new w _) (fun h => h)
    · have := OutV.new (w.alloc (.cells #[.int .u64 id, .int .i64 place, .int .i64 count, .string ⟨data.toArray⟩] 75))
      rwa [show (w.alloc (.cells #[.int .u64 id, .int .i64 place, .int .i64 count, .string ⟨data.toArray⟩] 75)).heap.size = w.heap.size + 1 by simp] at this
  have HC0 := Lib.hid hc0; clear hc0
  refine (outU64 (w.heap.size + 1) id _ [] _ HC0.out.out H1.out (by simp)).mono ?_
  rintro e w1 ⟨rfl, v1, hV1, hr1, ho1⟩
  have hc1 := HC0.out.put hV1 hr1 ho1
  have d1 := hc1.cell 1
  have d2 := hc1.cell 2
  simp at d1 d2
  have HC1 := Lib.hid hc1; clear hc1 hV1 hr1 ho1 HC0
  go_wp2_with fail
  try rw [HP.out]
  refine (outU16 (w.heap.size + 1) place _ _ _ HC1.out.out H2.out (by simp [beB_length])).mono ?_
  rintro e w2 ⟨rfl, v2, hV2, hr2, ho2⟩
  have hc2 := HC1.out.put hV2 hr2 ho2
  clear d1 d2
  have d2 := hc2.cell 2
  have d3 := hc2.cell 3
  simp at d2 d3
  have HC2 := Lib.hid hc2; clear hc2 hV2 hr2 ho2 HC1
  go_wp2_with fail
  try rw [HC.out]
  refine (outU16 (w.heap.size + 1) count _ _ _ HC2.out.out H3.out (by simp [beB_length])).mono ?_
  rintro e w3 ⟨rfl, v3, hV3, hr3, ho3⟩
  have hc3 := HC2.out.put hV3 hr3 ho3
  clear d2 d3
  have d3 := hc3.cell 3
  simp at d3
  have HC3 := Lib.hid hc3; clear hc3 hV3 hr3 ho3 HC2
  go_wp2_with fail
  refine (outText (w.heap.size + 1) ⟨data.toArray⟩ _ _ _ HC3.out.out (by have := H4.out; simp [ByteArray.size]; omega) (by have := H4.out; simp [beB_length, ByteArray.size]; omega)).mono ?_
  rintro e w4 ⟨rfl, v4, hV4, hr4, ho4⟩
  have hc4 := HC3.out.put hV4 hr4 ho4
  obtain ⟨zs, hzs⟩ : ∃ zs, zs = (Part.mk id place count data).out := ⟨_, rfl⟩
  have hz : zs.length ≤ 140737488355328 := by rw [hzs, Part.out_length]; have := H4.out; simp only; omega
  have hzs' : ((([] ++ beB 8 id) ++ beB 2 place) ++ beB 2 count) ++ txtB data = zs := hzs.symm
  rw [hzs'] at hc4
  have HZ := Lib.hid hz
  have HZS := Lib.hid hzs
  clear hzs hzs' hz
  have HC4 := Lib.hid hc4; clear hc4 hV4 hr4 ho4 HC3 d3
  go_wp2_with fail
  refine (outBytes (w.heap.size + 1) _ _ _ HC4.out.out HZ.out).mono ?_
  rintro e w5 ⟨r, rfl, hr, ho⟩
  obtain ⟨ao, cap, hv⟩ := own_shapeN hr
  have HR := Lib.hid hr; clear hr
  have HO := Lib.hid ho; clear ho
  rw [hv] at HR
  rw [hv]
  clear hv
  have HR2 : Hid (w5.ownsRow w.heap.size 5 1 (.slice ao zs.length cap) (Part.mk id place count data).out.length (u8s (Part.mk id place count data).out)) := by
    have := own_base HR.out HC4.out.only.size
    rw [HZS.out] at this
    rw [HZS.out]
    exact this
  clear HR
  go_wp2
  go_ret
  exact ⟨.slice ao zs.length cap, rfl, HR2.out, HC4.out.only.trans HO.out (fun _ _ h => h)⟩

set_option maxHeartbeats 1000000 in
theorem count_all (z : Int) (w : World) :
    Calls Try.prog 31 #[.int .i64 z] w fun e w' => e = .returned (.int .i64 (cnt z)) ∧ w = w' := by
  by_cases h0 : z < 0
  · have e : cnt z = 0 := (cnt_zero z).2 (.inl h0)
    rw [e]
    go_enter Try.func31, Try.ntmps31
    go_wp2
    go_ret
    exact ⟨rfl, rfl⟩
  · by_cases h1 : 32768 < z
    · have e : cnt z = 0 := (cnt_zero z).2 (.inr h1)
      rw [e]
      go_enter Try.func31, Try.ntmps31
      go_wp2
      go_ret
      exact ⟨rfl, rfl⟩
    · have hz0 : 0 ≤ z := by omega
      have hz1 : z ≤ 32768 := by omega
      have e : (cnt z : Int) = max 1 ((z + 50 - 1) / 50) := by
        obtain ⟨n, rfl⟩ := Int.eq_ofNat_of_zero_le hz0
        rw [cnt_nat (by omega)]
        unfold cntN
        split <;> omega
      have HE := Lib.hid e
      clear e
      go_enter Try.func31, Try.ntmps31
      go_wp2
      all_goals
        go_ret
        refine ⟨?_, rfl⟩
        show Ending.returned (.int .i64 _) = Ending.returned (.int .i64 _)
        congr 2
        have := HE.out
        omega

theorem count_any (z : Int) (hz : -9223372036854775808 ≤ z ∧ z ≤ 9223372036854775807) (w : World) :
    Calls Try.prog 31 #[.int .i64 z] w fun e w' => e = .returned (.int .i64 (cnt z)) ∧ w = w' := count_all z w

end Go.Proofs.Ytidkeglldmbfeaa
