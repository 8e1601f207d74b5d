/-
  Contracts of package disk: Sync.
-/
import Derived.Test.YtidkeglldmbfeaaDisk4
namespace Go.Proofs.Ytidkeglldmbfeaa
open Go Go.RowKit
set_option linter.unusedVariables false
set_option linter.unusedSimpArgs false
set_option maxRecDepth 100000

set_option maxHeartbeats 400000 in
theorem disk_sync_nil (w : World) :
    Calls Try.prog 16 #[.pointer none] w fun e w' => e = .returned (.int .i64 11) ∧ w = w' := by
  go_enter Try.func16, Try.ntmps16
  go_wp2
  go_ret
  exact ⟨rfl, rfl⟩

set_option maxHeartbeats 400000 in
theorem disk_sync_gone {w : World} {p gn gk : Nat} {vw : Value} {D : DS} (h : DiskAt w p gn gk vw D) (hd : D.down = true) :
    Calls Try.prog 16 #[.pointer (some ⟨p, 0, none⟩)] w fun e w' => e = .returned (.int .i64 4) ∧ w = w' := by
  have hc : w.cell? ⟨p, 4, none⟩ = some (.bool D.down) := h.cell 4
  rw [hd] at hc
  clear h hd
  go_enter Try.func16, Try.ntmps16
  go_wp2
  go_ret
  exact ⟨rfl, rfl⟩

theorem lays_take (K : List UInt8) (W : List (Nat × List UInt8)) {j : Nat} (hj : j < W.length) : lays K (W.take (j + 1)) = put (lays K (W.take j)) (W[j]).1 (W[j]).2 := by
  rw [List.take_succ_eq_append_getElem hj, lays, List.foldl_append]
  rfl
theorem DiskAt.waits {w : World} {p gn gk : Nat} {ao : Option Addr} {n cap : Nat} {D : DS} (h : DiskAt w p gn gk (.slice ao n cap) D) : n = D.W.length := by
  rcases h.row.2 with ⟨hv, h0⟩ | ⟨g, cap', cur, hv, _⟩
  · simp at hv; omega
  · simp at hv; exact hv.2.1
/-- The list of what waits is dropped. -/
theorem DiskAt.none {w : World} {p gn gk : Nat} {vw : Value} {D : DS} (h : DiskAt w p gn gk vw D) : DiskAt (w.setCell ⟨p, 2, none⟩ (.slice none 0 0)) p gn gk (.slice none 0 0) { D with W := [] } := by
  obtain ⟨n1, n2⟩ := h.np
  refine ⟨⟨h.ok.n, h.ok.N, h.ok.K, by simp, h.ok.fuse⟩, by rw [heap_set h.at']; rfl, ?_, ?_, World.ownsRow_nil _ _ _ _, h.ne⟩
  · rw [Below.heap_setCell _ _ _ _ n1]; exact h.now
  · rw [Below.heap_setCell _ _ _ _ n2]; exact h.kept

set_option maxRecDepth 100000 in
set_option maxHeartbeats 1000000 in
theorem disk_sync_ok {w : World} {p gn gk : Nat} {vw : Value} {D : DS} (h : DiskAt w p gn gk vw D) (hd : D.down = false) (hW : D.W.length ≤ 1000000) (hsy : D.sy ≤ 1000000) :
    Calls Try.prog 16 #[.pointer (some ⟨p, 0, none⟩)] w fun e w' => e = .returned (.int .i64 0) ∧ DiskAt w' p gn gk (.slice none 0 0) D.sync ∧ Only (Foot p gn gk vw) w w' := by
  have hc4 : w.cell? ⟨p, 4, none⟩ = some (.bool D.down) := h.cell 4
  rw [hd] at hc4
  have HD := Lib.hid hd
  have hc2 : w.cell? ⟨p, 2, none⟩ = some vw := h.cell 2
  obtain ⟨ao, cap, rfl⟩ := own_shapeN h.row
  obtain ⟨m, hm⟩ : ∃ m, m = D.W.length := ⟨_, rfl⟩
  rw [← hm] at hc2 hW
  have H := Lib.hid h
  have HM := Lib.hid hm
  clear h hd
  rw [← hm] at H ⊢
  clear hm
  go_enter Try.func16, Try.ntmps16
  go_wp2_with fail
  go_loopw [16] (fun i wr => ∃ j : Nat, j ≤ m ∧ i = .int .i64 j ∧ Hid (DiskAt wr p gn gk (.slice ao m cap) { D with K := lays D.K (D.W.take j) }) ∧ Hid (Only (Foot p gn gk (.slice ao m cap)) w wr)) (fun i _ => m - (intOf i).toNat)
  case atStart => exact ⟨0, Nat.zero_le _, rfl, H.out, Lib.hid (Only.refl _ _)⟩
  case round =>
    obtain ⟨j, hj, rfl, HQ, HO⟩ := hrel
    by_cases hlt : j < m
    · have hj' : j < D.W.length := by rw [← HM.out]; exact hlt
      obtain ⟨gw, rfl, hr0⟩ := HQ.out.wait hj'
      obtain ⟨hx1, hx2⟩ := H.out.ok.W _ (List.getElem_mem hj')
      have HLT := Lib.hid (lays_take D.K D.W hj')
      change wr.rangeAt gw (j * 65) (.int .i64 (D.W[j]).1 :: u8s (D.W[j]).2) at hr0
      obtain ⟨q, hq⟩ : ∃ q, q = (D.W[j]).1 := ⟨_, rfl⟩
      obtain ⟨s, hs⟩ : ∃ s, s = (D.W[j]).2 := ⟨_, rfl⟩
      rw [← hq, ← hs] at hr0 HLT
      rw [← hq] at hx1
      rw [← hs] at hx2
      clear hq hs hj'
      have hcs1 := u8s_oneCell s
      have hcs2 : (u8s s).length = 64 := by rw [u8s_length, hx2]
      obtain ⟨cs, hcs⟩ : ∃ cs, cs = u8s s := ⟨_, rfl⟩
      rw [← hcs] at hcs1 hcs2 hr0
      have HCS := Lib.hid hcs
      clear hcs
      obtain ⟨L, hL⟩ : ∃ L, L = Value.int .i64 (q : Int) :: cs := ⟨_, rfl⟩
      rw [← hL] at hr0
      have hL65 : L.length = 65 := by rw [hL, List.length_cons, hcs2]
      have HL1 : Hid (L.toArray.size = 65) := Lib.hid (by rw [List.size_toArray, hL65])
      have HL2 : Hid (L.toArray.all (·.oneCell') = true) := Lib.hid (by
        rw [hL]
        exact all_oneCell_toArray (fun v hv => by
          rcases List.mem_cons.1 hv with rfl | hv
          · rfl
          · exact hcs1 v hv))
      have HL3 : Hid ((Try.prog.info? 71).map (·.size) = some L.length) := Lib.hid (by rw [(zero_of_info Try.infoWr).2, hL65])
      have HLL := Lib.hid hL
      have HR0 := Lib.hid hr0
      have hn := H.out.ok.n
      have hjI : (j : Int) < (m : Int) := by omega
      have hj0 : (0 : Int) ≤ (j : Int) := by omega
      clear hL65 hL hr0 hj hc2 hc4
      go_upto_region 8 with (first | (refine wpList_load_mid rfl 71 (.tmp 18) rfl gw (j * 65) rfl L _ HR0.out Try.underlying71 rfl HL3.out ?_) | (refine wpList_alloc_store rfl rfl 71 (.tmp 4) (.tmp 19) rfl rfl _ 65 Try.infoWr rfl L.toArray HL1.out HL2.out rfl rfl ?_))
      (try simp only [Act.put, List.setIfInBounds_toArray, List.set_cons_succ, List.set_cons_zero])
      have h2 := HQ.out.alloc (.cells L.toArray 71)
      have hg := heap_alloc_new wr (.cells L.toArray 71)
      have o2 := HO.out.alloc (.cells L.toArray 71)
      generalize wr.alloc (.cells L.toArray 71) = w2 at *
      generalize wr.heap.size = g at *
      have hqI : (q : Int) < (D.n : Int) := by omega
      have hq0 : (0 : Int) ≤ (q : Int) := by omega
      have hc1 : w2.cell? ⟨p, 1, none⟩ = some (.slice (some ⟨gk, 0, none⟩) D.n D.n) := h2.cell 1
      have hcg : w2.cell? ⟨g, 0, none⟩ = some (.int .i64 q) := by simp [World.cell?, hg, HLL.out]
      have hr : w2.rangeAt g 1 cs := by
        have := range_of_list (L := L) hg 1 64
        rw [HLL.out, List.drop_succ_cons, List.drop_zero, List.take_of_length_le (by omega)] at this
        exact this
      have ht : w2.there gk (q * 64) 64 := there_of_row h2.kept (by have := h2.ok.K; simp [u8s_length]; simp at this; omega)
      have hu := Try.underlying69
      have hsz : (Try.prog.info? 69).map (·.size) = some cs.length := by rw [Try.sizeSec, hcs2]
      have hggk : g ≠ gk := fun e => by have b := h2.kept; rw [← e, hg] at b; simp at b
      have hpgk : p ≠ gk := fun e => h2.np.2 e.symm
      have HS0 : Hid (w2.drew.cell? ⟨p, 1, none⟩ = some (.slice (some ⟨gk, 0, none⟩) D.n D.n) ∧ w2.drew.cell? ⟨g, 0, none⟩ = some (.int .i64 q) ∧ w2.drew.rangeAt g 1 cs ∧ w2.drew.there gk (q * 64) 64) := Lib.hid ⟨hc1, hcg, hr, ht⟩
      have HS1 : Hid ((w2.drew.setCells gk (q * 64) cs).cell? ⟨p, 1, none⟩ = some (.slice (some ⟨gk, 0, none⟩) D.n D.n) ∧ (w2.drew.setCells gk (q * 64) cs).cell? ⟨g, 0, none⟩ = some (.int .i64 q) ∧ (w2.drew.setCells gk (q * 64) cs).rangeAt g 1 cs ∧ (w2.drew.setCells gk (q * 64) cs).there gk (q * 64) 64) := Lib.hid
        ⟨by rw [World.cell?_of_block (heap_setCells_other gk cs (q * 64) w2.drew p hpgk)]; exact hc1, by rw [World.cell?_of_block (heap_setCells_other gk cs (q * 64) w2.drew g hggk)]; exact hcg, World.rangeAt_setCells_apart (w := w2.drew) hr _ _ _ (.inl hggk), World.there_setCells (w := w2.drew) ht _ _ _⟩
      have H5 := Lib.hid h2
      have H7 := Lib.hid o2
      clear h2 hg o2 hggk hpgk HQ HO
      go_region_held3 (fun w' => w'.cell? ⟨p, 1, none⟩ = some (.slice (some ⟨gk, 0, none⟩) D.n D.n) ∧ w'.cell? ⟨g, 0, none⟩ = some (.int .i64 q) ∧ w'.rangeAt g 1 cs ∧ w'.there gk (q * 64) 64) (first | exact HS0.out | exact HS1.out) (fail)
      have HF : Hid (DiskAt (w2.drew.setCells gk (q * 64) cs) p gn gk (.slice (some ⟨gw, 0, none⟩) m cap) { D with K := lays D.K (D.W.take (j + 1)) }) := Lib.hid (by
        have h3 := (H5.out.keep (w' := w2.drew) (fun _ _ => rfl)).layK (i := q) (s := s) hx1 hx2
        rw [HCS.out, HLT.out]
        exact h3)
      have HO : Hid (Only (Foot p gn gk (.slice (some ⟨gw, 0, none⟩) m cap)) w (w2.drew.setCells gk (q * 64) cs)) := Lib.hid
        ((H7.out.drew).trans (Only.setCells w2.drew gk (q * 64) cs) (fun k _ e => .inr (.inr (.inl e))))
      generalize w2.drew.setCells gk (q * 64) cs = w3 at *
      clear hc1 hcg hr ht HS0 HS1 H5 H7
      go_wp2
      go_roundw
      case rel => exact ⟨j + 1, by omega, by go_num, HF, HO⟩
      case measure => simp [intOf]; omega
    · obtain rfl : j = m := by omega
      have hE : D.W.take j = D.W := List.take_of_length_le (by rw [← HM.out]; exact Nat.le_refl _)
      have h2 := HQ.out
      rw [hE] at h2
      have h3 := h2.none
      have f2 := h2.free 2
      have c2 : wr.cell? ⟨p, 2, none⟩ = some (.slice ao j cap) := h2.cell 2
      have c6 : (wr.setCell ⟨p, 2, none⟩ (.slice none 0 0)).cell? ⟨p, 6, none⟩ = some (.int .i64 D.sy) := h3.cell 6
      have f6 := h3.free 6
      have h4 := h3.set (D' := D.sync) 6 (.int .i64 ((D.sy : Int) + 1)) (by
        have e := h3.ok
        rw [DS.sync, HD.out]
        exact ⟨e.n, e.N, e.K, by simp, e.fuse⟩) (by rw [DS.sync, HD.out]; rfl) (by rw [DS.sync, HD.out]; rfl) (by rw [DS.sync, HD.out]; rfl) (by rw [DS.sync, HD.out]; rfl)
      have H4 := Lib.hid h4
      have HO1 := Lib.hid ((HO.out.trans (Only.cell wr p 2 (.slice none 0 0)) (fun k _ e => .inl e)).trans (Only.cell _ p 6 (.int .i64 ((D.sy : Int) + 1))) (fun k _ e => .inl e))
      clear h2 h3 h4 hE HQ HO hc2 hc4
      go_wp2
      go_ret
      exact ⟨rfl, H4.out, HO1.out⟩

end Go.Proofs.Ytidkeglldmbfeaa
