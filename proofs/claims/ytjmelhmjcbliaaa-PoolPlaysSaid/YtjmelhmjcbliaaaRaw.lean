/-
  Contracts of the statements' Copy, Lent, Kept and Bytes, in any seat.
-/
import Derived.Test.YtjmelhmjcbliaaaMemP
import Derived.Laws.AppendOwnNone
import Derived.Deep.DeepCutAuto
import Derived.Deep.CutBlock
namespace Go.Proofs.Ytjmelhmjcbliaaa
open Go Go.RowKit Go.Lib
set_option linter.unusedVariables false
set_option linter.unusedSimpArgs false
set_option maxRecDepth 100000

set_option maxHeartbeats 400000 in
theorem raw_copy (v : Value) (xs : List UInt8) (w : World) (h : SlC w v xs) (hlen : xs.length ≤ 140737488355328) :
    Calls Try.prog 38 #[v] w fun e w' => ∃ v', e = .returned v' ∧ w'.ownsRow w.heap.size 5 1 v' xs.length (u8s xs) ∧ Only (fun _ => False) w w' := by
  obtain ⟨vo, vc, rfl⟩ := h.shape
  have HC := Lib.hid h; clear h
  go_enter Try.func38, Try.ntmps38
  go_wp2_with (at_builtin; refine wp_fresh w _ xs HC.out hlen rfl (.tmp 3) (.tmp 4) rfl rfl rfl ?_; intro ao cap w1 HW HO)
  go_ret
  exact ⟨_, rfl, HW.out, HO.out⟩

def LentAt (w : World) (xs : List UInt8) (e : Ending) (w' : World) : Prop :=
  ∃ g cap, e = .returned (.slice (some ⟨g, 0, none⟩) xs.length cap) ∧ w'.ownsRow w.heap.size 5 1 (.slice (some ⟨g, 0, none⟩) (xs.length + 2) cap) (xs.length + 2) (u8s (xs ++ [71, 72])) ∧ Only (fun _ => False) w w'

set_option maxHeartbeats 400000 in
theorem raw_lent (v : Value) (xs : List UInt8) (w : World) (h : SlC w v xs) (hlen : xs.length + 2 ≤ 140737488355328) :
    Calls Try.prog 13 #[v] w (LentAt w xs) := by
  obtain ⟨i0, hi, hz0, hz1, hz2⟩ := info_parts Try.infoU8
  obtain ⟨vo, vc, rfl⟩ := h.shape
  have HC := Lib.hid h; clear h
  go_enter Try.func13, Try.ntmps13
  go_upto_region 2 with (at_builtin; refine wp_fresh w _ xs HC.out (by omega) rfl (.tmp 4) (.tmp 5) rfl rfl rfl ?_; intro ao cap w1 HW HO)
  go_wp2_with (at_builtin; refine wpList_append_lies _ rfl (.tmp 7) (.tmp 8) 35 rfl w.heap.size 5 i0 (.int .u8 0) 1 1 Try.underlying35 hi hz0 hz1 hz2 rfl (by decide) _ xs.length (u8s xs) rfl (HW.out.alloc _) ⟨w1.heap.size, 0, none⟩ 2 2 (u8s [71, 72]) rfl rfl (World.news_of_block (heap_alloc_new w1 _)) (u8s_oneCell _) (by decide) ?c1 ?c2 ?c3 (w1.heap.size + 1) ?c4 ?_)
  case c1 => unfold maxLen; omega
  case c2 => omega
  case c3 => have := HO.out.size; simp; omega
  case c4 => simp
  intro g cap2 w2 hown hgrow hat hlt
  have hcap : xs.length + 2 ≤ cap2 := by
    rcases hown.2 with ⟨hv, _⟩ | ⟨g', cap', cur, hv, _, _, hc, _⟩
    · simp at hv
    · simp at hv; omega
  have HW2 := Lib.hid hown; clear hown
  have hge : ∀ k, k < w.heap.size → (Value.slice ao xs.length cap).ownBlock = some k → False := fun k hk e => by
    have := (HW.out.lt k e).1
    omega
  have HO2 := Lib.hid ((HO.out.alloc (.cells #[.int .u8 71, .int .u8 72] 5)).grown hgrow hge)
  clear hgrow hat hlt hge
  go_wp2
  go_ret
  exact ⟨g, cap2, rfl, by rw [u8s_append]; exact HW2.out, HO2.out⟩

set_option maxHeartbeats 400000 in
theorem raw_kept (B g cap : Nat) (v : Value) (xs : List UInt8) (w : World) (hown : w.ownsRow B 5 1 (.slice (some ⟨g, 0, none⟩) (xs.length + 2) cap) (xs.length + 2) (u8s (xs ++ [71, 72]))) (h : SlC w v xs) (hlen : xs.length + 2 ≤ 140737488355328) :
    Calls Try.prog 16 #[.slice (some ⟨g, 0, none⟩) xs.length cap, v] w fun e w' => e = .returned (.bool true) ∧ w = w' := by
  have hcb := run_strC h
  obtain ⟨vo, vc, rfl⟩ := h.shape
  have hcap : xs.length + 2 ≤ cap := by
    rcases hown.2 with ⟨hv, _⟩ | ⟨g', cap', cur, hv, _, _, hc, _⟩
    · simp at hv
    · simp at hv; omega
  have hcell : ∀ j, j < xs.length + 2 → w.cell? ⟨g, j, none⟩ = some (.int .u8 ((xs ++ [71, 72]).getD j 0).toNat) := fun j hj => by
    rw [hown.cellAt j (by omega)]
    exact u8s_at (by simp; omega)
  have hm : SlC w (.slice (some ⟨g, 0, none⟩) xs.length cap) xs := .inr ⟨_, cap, rfl, fun j hj => by
    rw [add_lit, Nat.zero_add, hcell j (by omega)]
    congr 3
    simp [List.getD_eq_getElem?_getD, List.getElem?_append, hj]⟩
  have hcm := run_strC hm
  have h71 : w.cell? ⟨g, xs.length, none⟩ = some (.int .u8 71) := by
    rw [hcell _ (by omega)]
    simp [List.getD_eq_getElem?_getD]
  have h72 : w.cell? ⟨g, xs.length + 1, none⟩ = some (.int .u8 72) := by
    rw [hcell _ (by omega)]
    simp [List.getD_eq_getElem?_getD]
  clear hown h hcell hm
  obtain ⟨n, hn⟩ : ∃ n, n = xs.length := ⟨_, rfl⟩
  rw [← hn] at h71 h72 hcap hlen hcb hcm ⊢
  have HN := Lib.hid hn; clear hn
  have hcap' : (n : Int) + 2 ≤ (cap : Int) := by omega
  have hge : ¬ (cap : Int) < (n : Int) + 2 := by omega
  go_enter Try.func16, Try.ntmps16
  go_wp2
  go_ret
  exact ⟨rfl, rfl⟩

set_option maxHeartbeats 400000 in
theorem raw_bytes (a b : Value) (xs : List UInt8) (w : World) (ha : SlC w a xs) (hb : SlC w b xs) :
    Calls Try.prog 12 #[a, b] w fun e w' => e = .returned (.bool true) ∧ w = w' := by
  have hca := run_strC ha
  have hcb := run_strC hb
  obtain ⟨ao, ac, rfl⟩ := ha.shape
  obtain ⟨bo, bc, rfl⟩ := hb.shape
  clear ha hb
  go_enter Try.func12, Try.ntmps12
  go_wp2
  go_ret
  exact ⟨rfl, rfl⟩

end Go.Proofs.Ytjmelhmjcbliaaa
