/-
  Package slices at rows of places: Delete.
-/
import Derived.Test.YtjmelhmjcbliaaaPoM1
import Derived.Shelf.RegionOpenPlain
namespace Go.Proofs.Ytjmelhmjcbliaaa
open Go Go.RowKit
set_option linter.unusedVariables false
set_option linter.unusedSimpArgs false
set_option maxRecDepth 100000

set_option maxHeartbeats 8000000 in
theorem delete_pb {w0 w : World} {so : Option Addr} {sc : Nat} {es : List Pb} {J : Res} [Stab J] (h : Own w0 w (Sep (RowG 67 (.slice so es.length sc) es) J)) (i j : Nat) (hij : i ≤ j) (hj : j ≤ es.length) (hb : es.length ≤ 4000000000) :
    Calls Try.prog 49 #[.slice so es.length sc, .int .i64 (i : Int), .int .i64 (j : Int)] w fun r w' => CloneOut w0 w' 67 (es.take i ++ es.drop j) J r := by
  have hshs := (shp_own h).1
  have HS := Lib.hid h
  obtain ⟨n, hn⟩ : ∃ n, es.length = n := ⟨_, rfl⟩
  have HN := Lib.hid hn
  by_cases hee : i = j
  · subst hee
    have e1 : es.take i ++ es.drop i = es := List.take_append_drop _ _
    rw [e1]
    have hs3 : ∃ v, ∀ W, (Instr.slice 64 (.slice so n sc) (some (.int .i64 (i : Int))) (some (.int .i64 (i : Int))) (some (.int .i64 (n : Int)))).run Try.prog W = .ok v W := by
      rcases hshs with ⟨rfl, h0, rfl⟩ | ⟨⟨g, off, sp⟩, rfl, hle⟩
      · have hn0 : n = 0 := by omega
        subst hn0
        have hi0 : i = 0 := by omega
        subst hi0
        obtain ⟨iT, z, hi, _, hsz, _⟩ := elPb.i
        have hbd : ∀ W, (Instr.sliceBounds true 0 0 (some (.int .i64 ((0 : Nat) : Int))) (some (.int .i64 ((0 : Nat) : Int))) (some (.int .i64 ((0 : Nat) : Int)))).run Try.prog W = .ok (0, 0, 0) W := fun W => by
          simp [Instr.sliceBounds, run_sliceBound]
        refine ⟨.slice none 0 0, fun W => ?_⟩
        simp only [Instr.slice, Sem.run_bind, run_underlying elPb.u, Result.andThen, hbd]
        simp [sizeOf, typeInfo, hi]
      · obtain ⟨g2, hg2⟩ : ∃ g2, (⟨g, off, sp⟩ : Addr) = ⟨g2, 0, none⟩ := by
          rcases h.owns.2 with ⟨e, h0⟩ | ⟨g', cap', cur, e, _⟩
          · cases e
          · simp only [Value.slice.injEq, Option.some.injEq] at e
            exact ⟨g', e.1⟩
        rw [hg2]
        exact slice_3 elPb (by omega) (by omega) (by omega)
    obtain ⟨v3, hv3⟩ := hs3
    rw [hn] at hj hb
    rw [hn]
    clear h hshs hn e1
    go_enter Try.func49, Try.ntmps49
    go_wp2_with fail
    go_ret
    exact ⟨so, sc, by rw [HN.out]; rfl, Lib.hid (shp_own HS.out).1, HS.out⟩
  · have hijl : i < j := by omega
    obtain ⟨g, rfl⟩ : ∃ g, so = some ⟨g, 0, none⟩ := by
      rcases h.owns.2 with ⟨e, h0⟩ | ⟨g, cap', cur, e, _⟩
      · exact absurd h0 (by omega)
      · simp only [Value.slice.injEq] at e
        exact ⟨g, e.1⟩
    obtain ⟨cur, _, hle, hmx, hsz, ht, h1⟩ := h.openRow
    obtain ⟨v3, hv3⟩ := slice_3 elPb (g := g) (m := es.length) (cap := sc) (a := i) (b := j) hij hj hle
    obtain ⟨bo, b1, b2, b3⟩ := slice_back elPb hshs hj
    have hsl := b3 w es rfl (by
      obtain ⟨ao, c2, e1, e2, _⟩ := rowg_slg h.owns
      simp only [Value.slice.injEq] at e1
      rw [← e1.1] at e2
      exact e2)
    have hld : (es.drop j).length = n - j := by rw [List.length_drop, hn]
    have hlB : (cAll (es.drop j)).length = n - j := by rw [cAll_length, hld]; show (n - j) * 1 = _; omega
    have hiA : cur.toList.take i = cAll (es.take i) := by
      have := cAll_take es i
      rw [show i * Cel.size Pb = i from Nat.mul_one i] at this
      rw [← this, ← ht, show es.length * Cel.size Pb = es.length from Nat.mul_one _, List.take_take, Nat.min_eq_left (by omega)]
    have hsz1 : cur.size = sc := by rw [hsz]; exact Nat.mul_one _
    rw [hn] at hle b1 b2 hv3
    have hsl2 : SlG w.drew bo (es.drop j) := hsl.keep ((Only.refl _ _).drew)
    obtain ⟨W1, hr1, o1⟩ := over_row elPb h1.drew (i := i) (m := n - j) (by omega) hsz bo (sc - j) (es.drop j) hld b2 (fun hne => by
      cases bo with
      | none => have := b2.none rfl; exact absurd (List.length_eq_zero_iff.1 (by rw [hld]; exact this.1)) hne
      | some ad => exact ⟨ad, rfl, slg_cells hsl2 ad rfl⟩) 64
    have hs1 : (spl cur.toList (i * Cel.size Pb) (cAll (es.drop j))).toArray.size = sc := by
      rw [show i * Cel.size Pb = i from Nat.mul_one i, List.size_toArray, spl_len (by rw [hlB, Array.length_toList, hsz1]; omega), Array.length_toList, hsz1]
    have sUi := fun W => slice_upto elPb (g := g) (m := n) (cap := sc) (b := i) (by omega) hle W
    obtain ⟨a, ha⟩ : ∃ a, i + (n - j) = a := ⟨_, rfl⟩
    have has : a ≤ sc := by omega
    have hcap := fun W => slice_cap elPb (g := g) (m := a) (cap := sc) (a := a) (b := n) (by omega) hle (by omega) W
    rw [show a * Cel.size Pb = a from Nat.mul_one a] at hcap
    have hzl : (Builtin.zeroCells (Value.pointer none).cells (n - a)).toList.length = n - a := by rw [Array.length_toList, zero_size]; show (n - a) * 1 = _; omega
    have hclr := run_clear_sliceN (P := Try.prog) W1 64 67 0 (.pointer none) Try.underlying64 (fun w => by rfl) g a (n - a) (sc - a) _ 67 o1.blkT _ rfl (by rw [hzl, hs1]; omega) (zero_one rfl rfl _)
    rw [if_neg (by omega)] at hclr
    have o2 := o1.setRow ((spl cur.toList (i * Cel.size Pb) (cAll (es.drop j))).toArray.toList.take a ++ (Builtin.zeroCells (Value.pointer none).cells (n - a)).toList ++ (spl cur.toList (i * Cel.size Pb) (cAll (es.drop j))).toArray.toList.drop (a + (Builtin.zeroCells (Value.pointer none).cells (n - a)).toList.length)).toArray
    have hlen : (es.take i ++ es.drop j).length = a := by rw [List.length_append, List.length_take, hld, hn]; omega
    have hfin := o2.shutRow (l := es.take i ++ es.drop j) (cap := sc) (by rw [hlen]; omega) hmx (by
      rw [List.append_assoc, List.size_toArray]
      show (spl _ _ _).length = _
      rw [spl_len (by rw [hzl, Array.length_toList, hs1]; omega), Array.length_toList, hs1]
      exact (Nat.mul_one _).symm) (by
      rw [hlen, List.toList_toArray, List.append_assoc]
      show (spl _ _ _).take _ = _
      rw [show a * Cel.size Pb = a from Nat.mul_one a, spl_below (Nat.le_refl _) (by rw [Array.length_toList, hs1]; omega), List.toList_toArray, show i * Cel.size Pb = i from Nat.mul_one i, spl_front (by rw [Array.length_toList, hsz1]; omega) (by rw [hlB]; exact ha.symm), hiA, cAll_append])
    rw [hlen] at hfin
    have HFIN := Lib.hid hfin
    have HLEN := Lib.hid hlen
    rw [ha] at hr1
    have HR1 := Lib.hid hr1
    generalize World.setRow W1 g _ = W2 at *
    have hijI : ¬ (i : Int) = (j : Int) := by omega
    have hi0 : (0 : Int) ≤ (i : Int) := by omega
    have mixed : Try.prog.follows Departure.mixedOrders = true := by kernel_rfl
    rw [hn]
    clear hfin hr1 o1 o2 h1 h ht hiA hlB hld hlen hsz hsz1 hs1 hsl hsl2 b2 b3 hshs hmx hn hb hj hzl ha hee HN HS
    go_enter Try.func49, Try.ntmps49
    go_wp2_with fail
    go_region_law_o (refine step_append_run rfl _ _ 64 64 rfl _ _ (by simp [Act.eval, Act.put]) (by simp [Act.eval, Act.put]) HR1.out ?_)
    go_wp2_with fail
    go_ret
    exact ⟨some ⟨g, 0, none⟩, sc, by rw [HLEN.out]; first | rfl | simp, Lib.hid (.inr ⟨_, rfl, by rw [HLEN.out]; exact has⟩), by rw [HLEN.out]; exact HFIN.out⟩


end Go.Proofs.Ytjmelhmjcbliaaa
