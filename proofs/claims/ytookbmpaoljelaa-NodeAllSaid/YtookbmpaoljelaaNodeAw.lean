/-
  The laws' first line: a fixed node, fixed bytes.
-/
import Derived.Test.YtookbmpaoljelaaNodeSt3
import Derived.Test.YtookbmpaoljelaaNode14
import Derived.Lib.SlBytesConst
namespace Go.Proofs.Ytookbmpaoljelaa
open Go Go.RowKit
set_option linter.unusedVariables false
set_option linter.unusedSimpArgs false
set_option maxRecDepth 100000

theorem alloc_at (w : World) (o : Obj) : (w.alloc o).heap[w.heap.size]? = some o := heap_alloc_new w o
theorem awk_nd (w : World) : NdAt (((w.alloc (.cells #[.int .u64 5, .int .u64 6] 43)).alloc (.cells #[.string ⟨#[109]⟩] 9)).alloc (.cells #[.slice none 0 0, .slice none 0 0] 46)) ⟨none, 0, some ⟨w.heap.size + 1, 0, none⟩, 1, some ⟨w.heap.size, 0, none⟩, 2, some ⟨w.heap.size + 1 + 1, 0, none⟩, 2⟩ ndA := by
  have a1 := alloc_at w (.cells #[.int .u64 5, .int .u64 6] 43)
  have a2 := alloc_at (w.alloc (.cells #[.int .u64 5, .int .u64 6] 43)) (.cells #[.string ⟨#[109]⟩] 9)
  have a3 := alloc_at ((w.alloc (.cells #[.int .u64 5, .int .u64 6] 43)).alloc (.cells #[.string ⟨#[109]⟩] 9)) (.cells #[.slice none 0 0, .slice none 0 0] 46)
  have k2 := Only.refl (fun _ => False) (w.alloc (.cells #[.int .u64 5, .int .u64 6] 43))
  have k3 := Only.refl (fun _ => False) ((w.alloc (.cells #[.int .u64 5, .int .u64 6] 43)).alloc (.cells #[.string ⟨#[109]⟩] 9))
  have a1 := qkeep (k3.alloc (.cells #[.slice none 0 0, .slice none 0 0] 46)) (qkeep (k2.alloc (.cells #[.string ⟨#[109]⟩] 9)) a1)
  have a2 := qkeep (k3.alloc (.cells #[.slice none 0 0, .slice none 0 0] 46)) a2
  simp only [World.size_alloc] at a2 a3
  generalize ((w.alloc (.cells #[.int .u64 5, .int .u64 6] 43)).alloc (.cells #[.string ⟨#[109]⟩] 9)).alloc (.cells #[.slice none 0 0, .slice none 0 0] 46) = W at *
  refine ⟨SlG.nil _ _, ?_, ?_, ?_, by decide, by decide, by decide, by decide⟩
  · intro j hj
    have : j = 0 := by simp [ndA] at hj; omega
    subst this
    refine ⟨_, _, rfl, fun i hi => ?_⟩
    have : i = 0 := by have : i < 1 := hi; omega
    subst this
    exact blk_cell a2 0 rfl
  · intro j hj
    have : j = 0 ∨ j = 1 := by simp [ndA] at hj; omega
    rcases this with rfl | rfl
    · refine ⟨_, _, rfl, fun i hi => ?_⟩
      have : i = 0 := by have : i < 1 := hi; omega
      subst this
      exact blk_cell a1 0 rfl
    · refine ⟨_, _, rfl, fun i hi => ?_⟩
      have : i = 0 := by have : i < 1 := hi; omega
      subst this
      exact blk_cell a1 1 rfl
  · intro j hj
    have : j = 0 ∨ j = 1 := by simp [ndA] at hj; omega
    rcases this with rfl | rfl
    · exact ⟨_, _, none, 0, rfl, blk_cell a3 0 rfl, SlG.nil _ _, by simp [ndA]⟩
    · exact ⟨_, _, none, 0, rfl, blk_cell a3 1 rfl, SlG.nil _ _, by simp [ndA]⟩

abbrev nhA (s : Nat) : Nh := ⟨none, 0, some ⟨s + 1, 0, none⟩, 1, some ⟨s, 0, none⟩, 2, some ⟨s + 1 + 1, 0, none⟩, 2⟩
/-- Where the first line stands: the fixed node in its block. -/
structure AwAt (w W : World) (b s : Nat) : Prop where
  b : W.heap[b]? = some (.cells #[.bool false, .slice none 0 0, .slice (some ⟨s + 1, 0, none⟩) 1 1, .slice (some ⟨s, 0, none⟩) 2 2, .slice (some ⟨s + 1 + 1, 0, none⟩) 2 2] 27 (0, 0))
  n : NdAt W (nhA s) ndA
  o : Only (fun _ => False) w W
theorem AwAt.keep {w W W' : World} {b s : Nat} (h : AwAt w W b s) (ho : Only (fun _ => False) W W') : AwAt w W' b s := ⟨qkeep ho h.b, h.n.keep ho, h.o.trans ho (fun _ _ h => h)⟩
theorem AwAt.start (w : World) : AwAt w ((((w.alloc (.cells #[.int .u64 5, .int .u64 6] 43)).alloc (.cells #[.string ⟨#[109]⟩] 9)).alloc (.cells #[.slice none 0 0, .slice none 0 0] 46)).alloc (.cells #[.bool false, .slice none 0 0, .slice (some ⟨w.heap.size + 1, 0, none⟩) 1 1, .slice (some ⟨w.heap.size, 0, none⟩) 2 2, .slice (some ⟨w.heap.size + 1 + 1, 0, none⟩) 2 2] 27)) (w.heap.size + 1 + 1 + 1) w.heap.size := by
  have hb := heap_alloc_new (((w.alloc (.cells #[.int .u64 5, .int .u64 6] 43)).alloc (.cells #[.string ⟨#[109]⟩] 9)).alloc (.cells #[.slice none 0 0, .slice none 0 0] 46)) (.cells #[.bool false, .slice none 0 0, .slice (some ⟨w.heap.size + 1, 0, none⟩) 1 1, .slice (some ⟨w.heap.size, 0, none⟩) 2 2, .slice (some ⟨w.heap.size + 1 + 1, 0, none⟩) 2 2] 27)
  simp only [World.size_alloc] at hb
  exact ⟨hb, (awk_nd w).keep ((Only.refl _ _).alloc _), ((((Only.refl _ w).alloc _).alloc _).alloc _).alloc _⟩
theorem Own.owns1 {w0 w : World} {e : TypeId} {size : Nat} {v : Value} {n : Nat} {xs : List Value} (h : Own w0 w (RowV e size v n xs)) : w.ownsRow 0 e size v n xs := by
  obtain ⟨F, ⟨h1, _⟩, _⟩ := h
  exact h1
theorem enc_get {w w' : World} {n : Nd} {e : Ending} (h : EncPost w n e w') : ∃ ao cap, e = .returned (.tuple #[.slice ao (encOut n).length cap, .int .i64 (encErr n)]) ∧ SlC w' (.slice ao (encOut n).length cap) (encOut n) ∧ Own w w' (RowV 5 1 (.slice ao (encOut n).length cap) (encOut n).length (u8s (encOut n))) := by
  obtain ⟨v, rfl, ho⟩ := h
  have h1 := ho.owns1
  obtain ⟨ao, cap, rfl⟩ := own_shapeN h1
  exact ⟨ao, cap, rfl, (own_toB h1).toC, ho⟩
set_option maxHeartbeats 4000000 in
theorem awake_any (w : World) : Calls Try.prog 7 #[] w fun r w' => r = .returned (.bool true) ∧ Only (fun _ => False) w w' := by
  have H0 := Lib.hid (AwAt.start w)
  have kc := fun (w : World) (C : Array Value) (n c : Nat) => Lib.run_convert_bytes_const (P := Try.prog) w 29 5 C n c Try.underlying29 Try.underlying5
  go_enter Try.func7, Try.ntmps7
  go_upto_region 2 with fail
  generalize (((w.alloc (.cells #[.int .u64 5, .int .u64 6] 43)).alloc (.cells #[.string ⟨#[109]⟩] 9)).alloc (.cells #[.slice none 0 0, .slice none 0 0] 46)).alloc (.cells #[.bool false, .slice none 0 0, .slice (some ⟨w.heap.size + 1, 0, none⟩) 1 1, .slice (some ⟨w.heap.size, 0, none⟩) 2 2, .slice (some ⟨w.heap.size + 1 + 1, 0, none⟩) 2 2] 27) = w1 at *
  generalize w.heap.size = s at *
  generalize s + 1 + 1 + 1 = nb at *
  obtain ⟨c0, c1, c2, c3, c4⟩ := blk5c H0.out.b
  go_wp2_with fail
  refine (encode_any (nhA s) ndA w1 H0.out.n ndA_w).mono ?_
  rintro r w2 hp
  obtain ⟨ao, cap, rfl, _, h2⟩ := enc_get hp
  have hl : (encOut ndA).length = 26 := by unfold encOut; rw [if_pos encA, ndA_len]
  rw [encA, hl]
  have H2 := Lib.hid (H0.out.keep h2.only)
  clear hp hl h2 H0 c0 c1 c2 c3 c4
  go_wp2_with fail
  clear kc
  have hsl : SlC (w2.alloc (.cells (u8s bytesA).toArray 5 (21, 22))) (.slice (some ⟨w2.heap.size, 0, none⟩) 21 21) bytesA := row_bytes' (heap_alloc_new w2 _) (by decide)
  have H3 := Lib.hid (H2.out.keep ((Only.refl _ w2).alloc (.cells (u8s bytesA).toArray 5 (21, 22))))
  refine (decode_any _ bytesA _ hsl (by decide)).mono ?_
  rintro r w3 hp
  rcases hp with ⟨H, n, hs, hd, rfl, hz, ho⟩ | ⟨hd, _, _⟩
  rotate_left
  · rw [decA] at hd; cases hd
  rw [decA] at hd
  simp only [Option.some.injEq] at hd
  subst hd
  have hnd := nodr_at (ho.imp (fun F hF => (⟨F, fun _ => False, hF, fun _ h => h, fun _ _ h => h, fun k => by simp⟩ : Sep (NodR H ndB hs) Emp _ F))) hz
  obtain ⟨g, off, he, y0, y1, y2, y3, y4, y5⟩ := hnd.e.en (j := 0) (by decide)
  obtain ⟨eo, ec, po, pc, ko, kcc, bo, bc⟩ := H
  simp only at he
  subst he
  have H4 := Lib.hid ((H3.out.keep ho.only).keep ((Only.refl _ w3).alloc (.cells (ndc ⟨some ⟨g, off, none⟩, ec, po, pc, ko, kcc, bo, bc⟩ ndB) 27)))
  have z2 := ((Only.refl (fun _ => False) w3).alloc (.cells (ndc ⟨some ⟨g, off, none⟩, ec, po, pc, ko, kcc, bo, bc⟩ ndB) 27)).cellq y2
  have hb := heap_alloc_new w3 (.cells (ndc ⟨some ⟨g, off, none⟩, ec, po, pc, ko, kcc, bo, bc⟩ ndB) 27)
  have hv : (ndB.es.getD 0 default).v = ⟨#[118]⟩ := rfl
  rw [hv, Nat.zero_mul, Nat.add_zero] at z2
  clear hnd ho hz y0 y1 y2 y3 y4 y5 H3 H2 hsl hv
  go_upto_region 4 with fail
  generalize w3.alloc (.cells (ndc ⟨some ⟨g, off, none⟩, ec, po, pc, ko, kcc, bo, bc⟩ ndB) 27) = w4 at *
  have hb2 : w4.heap[w3.heap.size]? = some (.cells #[.bool true, .slice (some ⟨g, off, none⟩) 1 ec, .slice po 0 pc, .slice ko 0 kcc, .slice bo 0 bc] 27 (0, 0)) := hb
  clear hb
  generalize w3.heap.size = mb at *
  obtain ⟨e0, e1, e2, e3, e4⟩ := blk5c hb2
  obtain ⟨c0, c1, c2, c3, c4⟩ := blk5c H4.out.b
  have HRT := Lib.hid (fun W (hn : NdAt W (nhA s) ndA) => route_any (nhA s) ndA ⟨#[109]⟩ W hn)
  rw [ndA_route] at HRT
  have HRG := Lib.hid (fun W (hn : NdAt W (nhA s) ndA) => right_any (nhA s) ndA W hn)
  rw [ndA_right] at HRG
  clear hb2
  go_wp2_with fail
  refine (HRT.out _ H4.out.n).mono ?_
  rintro r w5 ⟨rfl, ho⟩
  have H5 := Lib.hid (H4.out.keep ho)
  clear ho H4 HRT z2 e0 e1 e2 e3 e4 c0 c1 c2 c3 c4
  obtain ⟨c0, c1, c2, c3, c4⟩ := blk5c H5.out.b
  go_wp2_with fail
  refine (HRG.out _ H5.out.n).mono ?_
  rintro r w6 ⟨rfl, ho⟩
  have H6 := Lib.hid (H5.out.keep ho)
  clear ho H5 HRG c0 c1 c2 c3 c4
  go_wp2_with fail
  go_ret
  exact ⟨rfl, H6.out.o⟩

end Go.Proofs.Ytookbmpaoljelaa
