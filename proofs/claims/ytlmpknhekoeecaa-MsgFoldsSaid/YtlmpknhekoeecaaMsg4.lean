/-
  Package msg: put, del and grow.
-/
import Derived.Test.YtlmpknhekoeecaaMsg1
import Derived.Lib.AtoiErrMem
import Derived.Test.YtlmpknhekoeecaaMemP
namespace Go.Proofs.Ytlmpknhekoeecaa
open Go Go.RowKit
set_option linter.unusedVariables false
set_option linter.unusedSimpArgs false
set_option maxRecDepth 100000

theorem vput_any (v : Mv) (m : Ms) (w : World) : Calls Try.prog 29 #[mvv v, msv m] w fun e w' => e = .returned (mvv ⟨true, m.v⟩) ∧ Below w.heap.size w w' := by
  obtain ⟨t, b⟩ := v
  obtain ⟨sq, K, mk, x, mv, off, num⟩ := m
  go_enter Try.func29, Try.ntmps29
  go_wp2
  exact bodyPost_ret (v := .agg #[.bool true, .string mv]) (by simp [results, Try.results29, go_sem]) rfl ⟨rfl, by repeat (first | exact Below.refl _ _ | refine Below.alloc ?_ (by simp <;> omega) _)⟩
theorem vdel_any (v : Mv) (m : Ms) (w : World) : Calls Try.prog 30 #[mvv v, msv m] w fun e w' => e = .returned (mvv Mv.no) ∧ Below w.heap.size w w' := by
  obtain ⟨t, b⟩ := v
  obtain ⟨sq, K, mk, x, mv, off, num⟩ := m
  go_enter Try.func30, Try.ntmps30
  go_wp2
  exact bodyPost_ret (v := .agg #[.bool false, .string ⟨#[]⟩]) (by simp [results, Try.results30, go_sem]) rfl ⟨rfl, by repeat (first | exact Below.refl _ _ | refine Below.alloc ?_ (by simp <;> omega) _)⟩

theorem bempty_of {s : ByteArray} (h : s.size = 0) : s.toList.isEmpty = true ∧ s.toList = [] := by
  have := ba_len s
  rw [h] at this
  have h2 := List.eq_nil_of_length_eq_zero this
  exact ⟨by rw [h2]; rfl, h2⟩
theorem bnonempty_of {s : ByteArray} (h : 0 < s.size) : s.toList.isEmpty = false ∧ (s.toList == []) = false := by
  have := ba_len s
  cases hl : s.toList with
  | nil => rw [hl] at this; simp at this; omega
  | cons => exact ⟨rfl, rfl⟩
theorem gconv1 (c : UInt8) (z : Int) (hz : (c.toNat : Int) = z) (W : World) (p : Nat) (h : W.cell? ⟨p, 0, none⟩ = some (.int .u8 z)) :
    (convert 54 9 (.slice (some ⟨p, 0, none⟩) 1 1)).run Try.prog W = .ok (.string ⟨#[c]⟩) W :=
  run_convert_bytes_back (P := Try.prog) W 54 9 5 ⟨p, 0, none⟩ 1 [c] Try.underlying54 Try.underlying5 Try.underlying9 (fun j hj => by
    obtain rfl : j = 0 := by simp at hj; omega
    rw [add_lit]
    show W.cell? ⟨p, 0, none⟩ = some (.int .u8 (c.toNat : Int))
    rw [hz]
    exact h)
theorem gconv1_new (c : UInt8) (z : Int) (hz : (c.toNat : Int) = z) (W : World) :
    (convert 54 9 (.slice (some ⟨W.heap.size, 0, none⟩) 1 1)).run Try.prog (W.alloc (.cells #[.int .u8 z] 5)) = .ok (.string ⟨#[c]⟩) (W.alloc (.cells #[.int .u8 z] 5)) := gconv1 c z hz _ _ (by go_simp)
theorem gconv1_drew (c : UInt8) (z : Int) (hz : (c.toNat : Int) = z) (W : World) :
    (convert 54 9 (.slice (some ⟨W.heap.size, 0, none⟩) 1 1)).run Try.prog (W.alloc (.cells #[.int .u8 z] 5)).drew = .ok (.string ⟨#[c]⟩) (W.alloc (.cells #[.int .u8 z] 5)).drew := gconv1 c z hz _ _ (by go_simp)
theorem byteOf8 (q : Nat) : ((q : Int) + 1) % 256 = ((UInt8.ofNat (q + 1)).toNat : Int) := by
  rw [UInt8.toNat_ofNat']
  omega
/-- Where grow stands: the value's block, the message's, the answer's. -/
structure GrAt (w W : World) (p : Nat) (t : Bool) (b mv : ByteArray) : Prop where
  c : W.cell? ⟨p, 1, none⟩ = some (.string b) ∧ W.cell? ⟨p + 1, 4, none⟩ = some (.string mv)
  r : W.heap[p + 1 + 1]? = some (.cells #[.bool false, .string ⟨#[]⟩] 43 (0, 0))
  only : Only (fun _ => False) w W
  ge : w.heap.size ≤ p
theorem GrAt.keep {w W W' : World} {p : Nat} {t : Bool} {b mv : ByteArray} (H : GrAt w W p t b mv) (ho : Only (fun _ => False) W W') : GrAt w W' p t b mv :=
  ⟨⟨ho.cellq H.c.1, ho.cellq H.c.2⟩, qkeep ho H.r, H.only.trans ho (fun _ _ h => h), H.ge⟩
theorem GrAt.start (w : World) (t : Bool) (b : ByteArray) (sq K : Int) (mk : ByteArray) (x : Int) (mv : ByteArray) (off num : Int) : GrAt w (((w.alloc (.cells #[.bool t, .string b] 43)).alloc (.cells #[.int .u64 sq, .int .i64 K, .string mk, .int .u64 x, .string mv, .int .i64 off, .int .u64 num] 28)).alloc (.cells #[.bool false, .string ⟨#[]⟩] 43)) w.heap.size t b mv := by
  refine ⟨⟨by go_simp, by go_simp⟩, ?_, (((Only.refl _ w).alloc _).alloc _).alloc _, Nat.le_refl _⟩
  have := heap_alloc_new ((w.alloc (.cells #[.bool t, .string b] 43)).alloc (.cells #[.int .u64 sq, .int .i64 K, .string mk, .int .u64 x, .string mv, .int .i64 off, .int .u64 num] 28)) (.cells #[.bool false, .string ⟨#[]⟩] 43)
  rwa [World.size_alloc, World.size_alloc] at this
theorem GrAt.res {w W : World} {p : Nat} {t : Bool} {b mv : ByteArray} (H : GrAt w W p t b mv) : (W.cell? ⟨p + 1 + 1, 0, none⟩ = some (.bool false) ∧ W.cell? ⟨p + 1 + 1, 1, none⟩ = some (.string ⟨#[]⟩)) ∧ (W.frozen? ⟨p + 1 + 1, 0, none⟩ = false ∧ W.frozen? ⟨p + 1 + 1, 1, none⟩ = false) := by
  simp [World.cell?, World.frozen?, H.r]
theorem GrAt.put {w W : World} {p : Nat} {t : Bool} {b mv : ByteArray} (H : GrAt w W p t b mv) (u0 u1 : Value) :
    (((W.setCell ⟨p + 1 + 1, 0, none⟩ u0).setCell ⟨p + 1 + 1, 1, none⟩ u1).cell? ⟨p, 1, none⟩ = some (.string b) ∧ ((W.setCell ⟨p + 1 + 1, 0, none⟩ u0).setCell ⟨p + 1 + 1, 1, none⟩ u1).cell? ⟨p + 1, 4, none⟩ = some (.string mv)) ∧ Below w.heap.size w ((W.setCell ⟨p + 1 + 1, 0, none⟩ u0).setCell ⟨p + 1 + 1, 1, none⟩ u1) := by
  have hg := H.ge
  refine ⟨⟨?_, ?_⟩, only_b (only_set (only_set H.only (by omega) _ _) (by omega) _ _)⟩
  · rw [World.cell?_of_block (Below.heap_setCell _ _ _ _ (fun e => by simp at e; omega)), World.cell?_of_block (Below.heap_setCell _ _ _ _ (fun e => by simp at e; omega))]
    exact H.c.1
  · rw [World.cell?_of_block (Below.heap_setCell _ _ _ _ (fun e => by simp at e)), World.cell?_of_block (Below.heap_setCell _ _ _ _ (fun e => by simp at e))]
    exact H.c.2
theorem GrAt.later {W W' : World} {p q : Nat} {b mv : ByteArray} (h : W.cell? ⟨p, 1, none⟩ = some (.string b) ∧ W.cell? ⟨q, 4, none⟩ = some (.string mv)) (ho : Only (fun _ => False) W W') : W'.cell? ⟨p, 1, none⟩ = some (.string b) ∧ W'.cell? ⟨q, 4, none⟩ = some (.string mv) := ⟨ho.cellq h.1, ho.cellq h.2⟩
theorem grow_bytes (b mv : ByteArray) (c : UInt8) : (ByteArray.mk #[c] ++ b.extract 1 b.size ++ mv).toList = c :: (b.toList.drop 1 ++ mv.toList) := by
  simp only [ByteArray.toList_eq]
  simp
  exact List.take_of_length_le (by rw [List.length_tail, Array.length_toList]; exact Nat.le_refl _)
theorem bfirst (s : ByteArray) (h : 0 < s.size) : s.toList.getD 0 0 = s[0] := by
  rw [ByteArray.toList_eq, List.getD_eq_getElem?_getD]
  have h2 : 0 < s.data.size := h
  rw [List.getElem?_eq_getElem (by simpa using h2)]
  rfl
set_option maxHeartbeats 2000000 in
theorem vgrow_any (v : Mv) (m : Ms) (w : World) (hs : v.b.size ≤ 140737488355328) (hm : m.v.size ≤ 140737488355328) : Calls Try.prog 32 #[mvv v, msv m] w fun e w' => e = .returned (mvv (v.grow m)) ∧ Below w.heap.size w w' := by
  obtain ⟨t, b⟩ := v
  obtain ⟨sq, K, mk, x, mv, off, num⟩ := m
  simp only at hs hm
  by_cases h0 : b.size = 0
  · have HV : Hid (Mv.grow ⟨t, b⟩ ⟨sq, K, mk, x, mv, off, num⟩ = ⟨t, b⟩) := Lib.hid (if_pos h0)
    obtain ⟨he1, he2⟩ := bempty_of h0
    have he3 : (b.toList == []) = true := by rw [he2]; rfl
    clear h0
    go_enter Try.func32, Try.ntmps32
    go_wp2_with fail
    go_quiet (fail)
    go_wp2
    exact bodyPost_ret (v := .agg #[.bool t, .string b]) (by simp [results, Try.results32, go_sem]) rfl ⟨by rw [HV.out], only_b (by repeat (first | exact Only.refl _ _ | refine only_set ?_ (by omega) _ _ | refine Only.drewN ?_ _ | refine Only.drew ?_ | refine Only.alloc ?_ _))⟩
  have hp0 : 0 < b.size := by omega
  have hpI : (0 : Int) < (b.size : Int) := by omega
  obtain ⟨he1, he2⟩ := bnonempty_of hp0
  obtain ⟨z, hz⟩ : ∃ z : Int, ((b[0]'hp0).toNat : Int) = z := ⟨_, rfl⟩
  have hz0 : 0 ≤ z := by omega
  have hz255 : z ≤ 255 := by have := (b[0]'hp0).toNat_lt; omega
  have hwz : IntKind.i64.wrap z = z := IntWalk.i64_in _ (by omega)
  have hsum : IntKind.i64.wrap ((b.size : Int) + (mv.size : Int)) = (b.size : Int) + (mv.size : Int) := IntWalk.i64_in _ (by omega)
  have hz2 : ((b.toList.getD 0 0).toNat : Int) = z := by rw [bfirst b hp0, hz]
  by_cases h1 : z = off
  case neg =>
    have HV : Hid (Mv.grow ⟨t, b⟩ ⟨sq, K, mk, x, mv, off, num⟩ = ⟨t, b⟩) := Lib.hid (by unfold Mv.grow; simp only; rw [if_neg h0, if_pos (by rw [hz2]; exact h1)])
    have hne : (z != off) = true := by simpa using h1
    clear h0 h1 hz2
    go_enter Try.func32, Try.ntmps32
    go_wp2_with fail
    go_quiet (fail)
    go_wp2
    exact bodyPost_ret (v := .agg #[.bool t, .string b]) (by simp [results, Try.results32, go_sem]) rfl ⟨by rw [HV.out], only_b (by repeat (first | exact Only.refl _ _ | refine only_set ?_ (by omega) _ _ | refine Only.drewN ?_ _ | refine Only.drew ?_ | refine Only.alloc ?_ _))⟩
  subst h1
  have hne : (z != z) = false := by simp
  by_cases h2 : 512 < b.size + mv.size
  · have HV : Hid (Mv.grow ⟨t, b⟩ ⟨sq, K, mk, x, mv, z, num⟩ = ⟨t, b⟩) := Lib.hid (by unfold Mv.grow; simp only; rw [if_neg h0, if_neg (by rw [hz2]; simp), if_pos h2])
    have hgt : decide (512 < b.size + mv.size) = true := by simpa using h2
    have hgtI : (512 : Int) < (b.size : Int) + (mv.size : Int) := by omega
    have hgtD : decide ((512 : Int) < (b.size : Int) + (mv.size : Int)) = true := by simpa using hgtI
    clear h0 hz2 h2
    go_enter Try.func32, Try.ntmps32
    go_wp2_with fail
    go_quiet (fail)
    go_wp2
    exact bodyPost_ret (v := .agg #[.bool t, .string b]) (by simp [results, Try.results32, go_sem]) rfl ⟨by rw [HV.out], only_b (by repeat (first | exact Only.refl _ _ | refine only_set ?_ (by omega) _ _ | refine Only.drewN ?_ _ | refine Only.drew ?_ | refine Only.alloc ?_ _))⟩
  · have hgt : decide (512 < b.size + mv.size) = false := by simpa using h2
    have hgtI : ¬ (512 : Int) < (b.size : Int) + (mv.size : Int) := by omega
    have hgtD : decide ((512 : Int) < (b.size : Int) + (mv.size : Int)) = false := by simpa using hgtI
    clear h0 hz2 h2
    go_enter Try.func32, Try.ntmps32
    go_wp2_with fail
    go_quiet (fail)
    go_upto_region 3 with fail
    have HG0 := Lib.hid ((GrAt.start w t b sq K mk x mv z num).keep ((Only.refl _ _).drewN nq))
    generalize World.drewN _ nq = W1 at *
    obtain ⟨y1, y2⟩ := HG0.out.c
    obtain ⟨⟨r0, r1⟩, f0, f1⟩ := HG0.out.res
    have hlt : w.heap.size + 1 + 1 < W1.heap.size := lt_of_some HG0.out.r
    obtain ⟨c, hc⟩ : ∃ c, UInt8.ofNat ((b[0]'hp0).toNat + 1) = c := ⟨_, rfl⟩
    obtain ⟨zz, hzz⟩ : ∃ zz : Int, (c.toNat : Int) = zz := ⟨_, rfl⟩
    have hw1 : IntKind.u8.wrap (z + 1) = zz := by rw [IntKind.wrap_u8', ← hzz, ← hc, ← hz]; exact byteOf8 _
    have hw2 : (z + 1) % 256 = zz := by rw [← IntKind.wrap_u8']; exact hw1
    have HCV1 := Lib.hid (fun W => gconv1_new c zz hzz W)
    have HCV2 := Lib.hid (fun W => gconv1_drew c zz hzz W)
    obtain ⟨y, hy⟩ : ∃ y : ByteArray, (⟨#[c]⟩ : ByteArray) = y := ⟨_, rfl⟩
    rw [hy] at HCV1 HCV2
    obtain ⟨b1, hb1⟩ : ∃ b1, b.extract 1 b.size = b1 := ⟨_, rfl⟩
    obtain ⟨Y1, hY1⟩ : ∃ Y1, y ++ b1 = Y1 := ⟨_, rfl⟩
    obtain ⟨X, hX⟩ : ∃ X, Y1 ++ mv = X := ⟨_, rfl⟩
    have hYX : y ++ b1 ++ mv = X := by rw [hY1, hX]
    have HBY : Hid ((y ++ b1 ++ mv).toList = growL b.toList mv.toList) := Lib.hid (by rw [← hy, ← hb1, grow_bytes, ← hc, ← bfirst b hp0]; rfl)
    have HV : Hid (Mv.grow ⟨t, b⟩ ⟨sq, K, mk, x, mv, z, num⟩ = ⟨true, y ++ b1 ++ mv⟩) := Lib.hid (by
      unfold Mv.grow; simp only; rw [if_neg (by omega), if_neg (by rw [bfirst b hp0, hz]; simp), if_neg (by omega)]
      congr 1
      exact ba_ext (by rw [mk_toList, HBY.out]))
    have hys : y.size = 1 := by rw [← hy]; rfl
    have hb1s : b1.size = b.size - 1 := by rw [← hb1]; simp
    have hcat1 : ¬ 9223372036854775807 < y.size + b1.size := by omega
    have hY1s : Y1.size = y.size + b1.size := by rw [← hY1, ByteArray.size_append]
    have hcat2 : ¬ 9223372036854775807 < Y1.size + mv.size := by omega
    rw [hYX] at HV
    clear hYX hY1s
    have HS := Lib.hid (And.intro hys hb1s)
    have hcv1 := HCV1.out W1
    have hcv2 := HCV2.out W1
    have hcv3 := HCV1.out W1.drew
    clear hc hzz hy hys hb1s HBY HCV1 HCV2
    have HP0 := HG0.out.put (.bool true) (.string X)
    have HP := Lib.hid (And.intro HP0.1 (below_quiet HP0.2))
    clear HP0
    go_region_held (fun w' => w'.cell? ⟨w.heap.size, 1, none⟩ = some (.string b) ∧ w'.cell? ⟨w.heap.size + 1, 4, none⟩ = some (.string mv))
      (first
        | (refine GrAt.later HG0.out.c ?_; (repeat (first | exact Only.refl _ _ | refine Only.drew ?_ | refine Only.alloc ?_ _)); done)
        | (refine GrAt.later HP.out.1 ?_; (repeat (first | exact Only.refl _ _ | refine Only.drew ?_ | refine Only.alloc ?_ _)); done))
      (fail)
    all_goals
      clear hcv1 hcv2 hcv3 y1 y2 hcat1 hcat2 hY1 hX hb1
      obtain ⟨⟨q0, q1⟩, _⟩ := blk2 (alloc_keep (o := .cells #[.int .u8 zz] 5) (set2 HG0.out.r (.bool true) (.string X)))
      go_wp2_with fail
      refine bodyPost_ret (v := .agg #[.bool true, .string X]) (by simp [results, Try.results32, go_sem, q0, q1]) rfl ?_
      exact ⟨by rw [HV.out], only_b (Only.trans (T := fun _ => False) HP.out.2 (by repeat (first | exact Only.refl _ _ | refine Only.drew ?_ | refine Only.alloc ?_ _)) (fun _ _ h => h))⟩

end Go.Proofs.Ytlmpknhekoeecaa
