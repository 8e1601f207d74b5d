/-
  Joined: Node13 Node14 OrdG NodeZ3 NodeAw NodeRaw2.
-/
import Derived.Test.YtookbmpaoljelaaGreatNodeJ7
import Derived.OrdersHeld
import Derived.Deep.RegionHeld
import Derived.Lib.SlBytesConst

namespace Go.Proofs.YtookbmpaoljelaaGreat
open Go Go.RowKit
set_option linter.unusedVariables false
set_option linter.unusedSimpArgs false
set_option maxRecDepth 100000
set_option linter.unusedSimpArgs false
set_option maxRecDepth 100000

theorem blk5c {w : World} {k : Nat} {t : TypeId} {a0 a1 a2 a3 a4 : Value} (h : w.heap[k]? = some (.cells #[a0, a1, a2, a3, a4] t (0, 0))) :
    w.cell? ⟨k, 0, none⟩ = some a0 ∧ w.cell? ⟨k, 1, none⟩ = some a1 ∧ w.cell? ⟨k, 2, none⟩ = some a2 ∧ w.cell? ⟨k, 3, none⟩ = some a3 ∧ w.cell? ⟨k, 4, none⟩ = some a4 := by
  simp [World.cell?, h]
theorem own_set5 {w0 w : World} {k : Nat} {t : TypeId} {a0 a1 a2 a3 a4 : Value} {J : Res} [Stab J] (h : Own w0 w (Sep (Blk k (.cells #[a0, a1, a2, a3, a4] t (0, 0))) J)) (u0 u1 u2 u3 u4 : Value) :
    Own w0 (((((w.setCell ⟨k, 0, none⟩ u0).setCell ⟨k, 1, none⟩ u1).setCell ⟨k, 2, none⟩ u2).setCell ⟨k, 3, none⟩ u3).setCell ⟨k, 4, none⟩ u4) (Sep (Blk k (.cells #[u0, u1, u2, u3, u4] t (0, 0))) J) := by
  have := ((((h.store 0 u0).store 1 u1).store 2 u2).store 3 u3).store 4 u4
  simpa using this

/-- A node in slices of one's own. -/
abbrev NodR (H : Nh) (n : Nd) (hs : List Hd) : Res := Sep (RowG 41 (.slice H.eo n.es.length H.ec) n.es) (Sep (RowG 9 (.slice H.po n.ps.length H.pc) n.ps) (Sep (RowG 39 (.slice H.ko n.ks.length H.kc) n.ks) (Sep (RowG 55 (.slice H.bo n.bs.length H.bc) hs) (Fix (BufsP hs n.bs)))))
structure NdS (n : Nd) : Prop where
  e : n.es.length ≤ 65535
  p : n.ps.length ≤ 65535
  k : n.ks.length ≤ 65535
  b : n.bs.length ≤ 65535
theorem rowg_at {α : Type} [Cel α] [Inhabited α] {w0 w : World} {e : TypeId} {ao : Option Addr} {n c : Nat} {l : List α} {J : Res} (h : Own w0 w (Sep (RowG e (.slice ao n c) l) J)) : SlG w ao l ∧ n = l.length := by
  obtain ⟨ao', cap, e1, h1, _⟩ := rowg_slg h.owns
  simp only [Value.slice.injEq] at e1
  rw [e1.1]
  exact ⟨h1, e1.2.1⟩
theorem nodr_at {w0 w : World} {H : Nh} {n : Nd} {hs : List Hd} {J : Res} (h : Own w0 w (Sep (NodR H n hs) J)) (hz : NdS n) : NdAt w H n := by
  have h1 := h.fst
  have he := rowg_at h1
  have hp := rowg_at h1.snd
  have hk := rowg_at h1.snd.snd
  have hb := rowg_at h1.snd.snd.snd
  have hf := Own.fixed h1.snd.snd.snd.comm
  exact ⟨he.1, hp.1, hk.1, hf.sll hb.1, by have := hz.e; omega, by have := hz.p; omega, by have := hz.k; omega, by have := hz.b; omega⟩
def NodePost (xs : List UInt8) (bad : Bool) (p : Nat) (J : Res) (w0 : World) (r : Ending) (w' : World) : Prop :=
  ∃ (H : Nh) (n : Nd) (hs : List Hd) (ys : List UInt8) (b : Bool), r = .returned (ndv H n) ∧ NdS n ∧ Rd pNode xs bad n ys b ∧ Own w0 w' (Sep (NodR H n hs) (Sep (InR p ys b) J))

abbrev TakB (a p : Nat) : Res := Blk a (.cells #[.pointer (some ⟨p, 0, none⟩)] 47 (0, 0))
abbrev NodZ (b : Nat) : Res := Blk b (.cells #[.bool false, .slice none 0 0, .slice none 0 0, .slice none 0 0, .slice none 0 0] 30 (0, 0))
set_option maxHeartbeats 8000000 in
theorem tnode_any {w0 w : World} {p : Nat} {xs : List UInt8} {bad : Bool} {J : Res} [Stab J] (h : Own w0 w (Sep (InR p xs bad) J)) :
    Calls Tryz.prog 15 #[putv p] w (NodePost xs bad p J w0) := by
  have H0 := Lib.hid (((h.alloc (.cells #[.pointer (some ⟨p, 0, none⟩)] 47)).alloc (.cells #[.bool false, .slice none 0 0, .slice none 0 0, .slice none 0 0, .slice none 0 0] 30)).ac (by ac_rfl) : Own w0 ((w.alloc (.cells #[.pointer (some ⟨p, 0, none⟩)] 47)).alloc (.cells #[.bool false, .slice none 0 0, .slice none 0 0, .slice none 0 0, .slice none 0 0] 30)) (Sep (InR p xs bad) (Sep (Blk w.heap.size (.cells #[.pointer (some ⟨p, 0, none⟩)] 47 (0, 0))) (Sep (Blk (w.alloc (.cells #[.pointer (some ⟨p, 0, none⟩)] 47)).heap.size (.cells #[.bool false, .slice none 0 0, .slice none 0 0, .slice none 0 0, .slice none 0 0] 30 (0, 0))) J))))
  rw [World.size_alloc] at H0
  clear h
  have ha := blk_cell H0.out.snd.held 0 rfl
  go_enter Tryz.func15, Tryz.ntmps15
  go_wp2_with fail
  generalize w.heap.size + 1 = rb at *
  generalize w.heap.size = tb at *
  refine (rd_flag H0.out).mono ?_
  rintro r w1 ⟨lf, y1, b1, rfl, hr, h1⟩
  have HR1 := Lib.hid hr
  have H1 := Lib.hid h1
  have ha := blk_cell H1.out.snd.held 0 rfl
  clear hr h1 H0
  cases lf with
  | true =>
    go_upto_region 2 with fail
    clear ha
    have H1d := Lib.hid H1.out.drew
    refine wp_region_held_drew (S := (fun w' => w'.cell? ⟨tb, 0, none⟩ = some (.pointer (some ⟨p, 0, none⟩)))) (by kernel_rfl) ?_ (fun hHeld => ?_)
    · exact blk_cell H1d.out.snd.held 0 rfl
    refine wpAnyH_take (i := 0) (oi := ?_) (v := ?_) ?_ (by kernel_rfl) (by kernel_rfl) (by kernel_rfl) ?_ (Or.inl ⟨?_, ?_⟩) (by assumption) ?_
    rotate_left 2
    · (simp only [List.getElem?_toArray, List.getElem?_cons_zero]; rfl)
    · exact fun _ _ _ h => h
    · rfl
    · (intro w hSw; (try dsimp only at hSw); go_simp <;> with_reducible rfl)
    (try simp only [Act.put, List.setIfInBounds_toArray, List.set_cons_zero, List.set_cons_succ])
    refine wpAnyH_take (i := 1) (oi := ?_) (v := ?_) ?_ (by kernel_rfl) (by kernel_rfl) (by kernel_rfl) ?_ (Or.inl ⟨?_, ?_⟩) (by assumption) ?_
    rotate_left 2
    · (simp only [List.getElem?_toArray, List.getElem?_cons_succ, List.getElem?_cons_zero]; rfl)
    · exact fun _ _ _ h => h
    · rfl
    · (intro w hSw; (try dsimp only at hSw); go_simp <;> with_reducible rfl)
    (try simp only [Act.put, List.setIfInBounds_toArray, List.set_cons_zero, List.set_cons_succ])
    refine wpAnyH_take (i := 3) (oi := ?_) (v := ?_) ?_ (by kernel_rfl) (by kernel_rfl) (by kernel_rfl) ?_ (Or.inl ⟨?_, ?_⟩) (by assumption) ?_
    rotate_left 2
    · (simp only [List.getElem?_toArray, List.getElem?_cons_succ, List.getElem?_cons_zero]; rfl)
    · exact fun _ _ _ h => h
    · rfl
    · (intro w hSw; (try dsimp only at hSw); go_simp <;> with_reducible rfl)
    (try simp only [Act.put, List.setIfInBounds_toArray, List.set_cons_zero, List.set_cons_succ])
    refine wpAnyH_take (i := 4) (oi := ?_) (v := ?_) ?_ (by kernel_rfl) (by kernel_rfl) (by kernel_rfl) ?_ (Or.inl ⟨?_, ?_⟩) (by assumption) ?_
    rotate_left 2
    · (simp only [List.getElem?_toArray, List.getElem?_cons_succ, List.getElem?_cons_zero]; rfl)
    · exact fun _ _ _ h => h
    · rfl
    · (intro w hSw; (try dsimp only at hSw); go_simp <;> with_reducible rfl)
    (try simp only [Act.put, List.setIfInBounds_toArray, List.set_cons_zero, List.set_cons_succ])
    refine wpAnyH_ready (rs := [2]) (by kernel_rfl) (by simp) (AllReadyH.cons (o := ?o2_1) ?h2_1 (fun K hK => ?s2_1) AllReadyH.nil)
    case h2_1 => (simp only [List.getElem?_toArray, List.getElem?_cons_succ, List.getElem?_cons_zero]; rfl)
    case' s2_1 =>
      (go_simp; refine (tcount_any H1d.out).mono ?_; rintro r w2 ⟨c, y2, b2, rfl, hc, hr, h2⟩; have HR2 := Lib.hid hr; have H2 := Lib.hid h2; clear hr h2 H1d H1)
      refine hK.out _ _ ?_ (fun hHeld => ?_)
    · exact blk_cell H2.out.snd.held 0 rfl
    clear hK K
    (try simp only [Act.put, List.setIfInBounds_toArray, List.set_cons_zero, List.set_cons_succ])
    refine wpAnyH_ready (rs := [5]) (by kernel_rfl) (by simp) (AllReadyH.cons (o := ?o5_2) ?h5_2 (fun K hK => ?s5_2) AllReadyH.nil)
    case h5_2 => (simp only [List.getElem?_toArray, List.getElem?_cons_succ, List.getElem?_cons_zero]; rfl)
    case' s5_2 =>
      (go_simp; refine (list_e H2.out (c : Int) (by omega)).mono ?_; rintro r w3 ⟨v, l, y3, b3, rfl, hl, hr, h3⟩; obtain ⟨ao, cap, rfl⟩ := rowg_shape h3; have HR3 := Lib.hid hr; have H3 := Lib.hid h3; have HL := Lib.hid hl; clear hr h3 H2 hl)
      refine hK.out _ _ ?_ (fun hHeld => ?_)
    · exact blk_cell H3.out.snd.snd.held 0 rfl
    clear hK K
    (try simp only [Act.put, List.setIfInBounds_toArray, List.set_cons_zero, List.set_cons_succ])
    refine wpAnyH_take (i := 6) (oi := ?_) (v := ?_) ?_ (by kernel_rfl) (by kernel_rfl) (by kernel_rfl) ?_ (Or.inl ⟨?_, ?_⟩) (by assumption) ?_
    rotate_left 2
    · (simp only [List.getElem?_toArray, List.getElem?_cons_succ, List.getElem?_cons_zero]; rfl)
    · exact fun _ _ _ h => h
    · rfl
    · (intro w hSw; (try dsimp only at hSw); go_simp <;> with_reducible rfl)
    (try simp only [Act.put, List.setIfInBounds_toArray, List.set_cons_zero, List.set_cons_succ])
    have HS := Lib.hid (own_set5 (H3.out.ac (by ac_rfl) : Own w0 w3 (Sep (Blk rb (.cells #[.bool false, .slice none 0 0, .slice none 0 0, .slice none 0 0, .slice none 0 0] 30 (0, 0))) (Sep (Blk tb (.cells #[.pointer (some ⟨p, 0, none⟩)] 47 (0, 0))) (Sep (RowG 41 (.slice ao l.length cap) l) (Sep (InR p y3 b3) J))))) (.bool true) (.slice ao l.length cap) (.slice none 0 0) (.slice none 0 0) (.slice none 0 0))
    obtain ⟨e0, e1, e2, e3, e4⟩ := blk5c H3.out.snd.snd.snd.held
    have q0 := blk_free H3.out.snd.snd.snd.held 0
    have q1 := blk_free H3.out.snd.snd.snd.held 1
    have q2 := blk_free H3.out.snd.snd.snd.held 2
    have q3 := blk_free H3.out.snd.snd.snd.held 3
    have q4 := blk_free H3.out.snd.snd.snd.held 4
    refine wpAnyH_ready (rs := [7]) (by kernel_rfl) (by simp) (AllReadyH.cons (o := ?o7_3) ?h7_3 (fun K hK => ?s7_3) AllReadyH.nil)
    case h7_3 => (simp only [List.getElem?_toArray, List.getElem?_cons_succ, List.getElem?_cons_zero]; rfl)
    case' s7_3 =>
      go_simp
      refine hK.out _ _ ?_ (fun hHeld => ?_)
    · exact blk_cell HS.out.snd.held 0 rfl
    clear hK K
    (try simp only [Act.put, List.setIfInBounds_toArray, List.set_cons_zero, List.set_cons_succ])
    refine wpAnyH_done (by kernel_rfl) ?_ _
    clear e0 e1 e2 e3 e4 q0 q1 q2 q3 q4 H3
    generalize World.setCell (World.setCell (World.setCell (World.setCell (World.setCell w3 _ _) _ _) _ _) _ _) _ _ = w8 at *
    obtain ⟨e0, e1, e2, e3, e4⟩ := blk5c HS.out.held
    go_wp2_with fail
    refine bodyPost_ret (v := ndv ⟨ao, cap, none, 0, none, 0, none, 0⟩ ⟨true, l, [], [], []⟩) (by simp [results, Tryz.results15, go_sem, e0, e1, e2, e3, e4]) rfl ?_
    refine ⟨⟨ao, cap, none, 0, none, 0, none, 0⟩, ⟨true, l, [], [], []⟩, [], y3, b3, rfl, ⟨HL.out, by simp, by simp, by simp⟩, ?_, ?_⟩
    · have h3 := HR3.out
      rw [Int.toNat_natCast] at h3
      exact HR1.out.bind (q := fun leaf => if leaf = true then pLeaf else pInner) (HR2.out.bind (h3.bind (Rd.ret _ _ _)))
    · have h1 := ((((HS.out.snd.snd.row_nil 9 (Cel.size ByteArray)).row_nil 39 (Cel.size Int)).row_nil 55 (Cel.size Hd)).fix0 (P := BufsP [] []) BufsP.nil)
      exact (h1.ac (by ac_rfl) : Own w0 w8 (Sep (Sep (RowG 41 (.slice ao l.length cap) l) (Sep (RowV 9 (Cel.size ByteArray) (.slice none 0 0) 0 []) (Sep (RowV 39 (Cel.size Int) (.slice none 0 0) 0 []) (Sep (RowV 55 (Cel.size Hd) (.slice none 0 0) 0 []) (Fix (BufsP [] [])))))) (Sep (InR p y3 b3) J)))
  | false =>
    go_wp2_with fail
    refine (tcount_any H1.out).mono ?_
    rintro r w2 ⟨c, y2, b2, rfl, hc, hr, h2⟩
    have HR2 := Lib.hid hr
    have H2 := Lib.hid h2
    clear hr h2 H1 ha
    go_upto_region 4 with fail
    have H2d := Lib.hid H2.out.drew
    have hs1 : IntKind.i64.wrap ((c : Int) - 1) = (c : Int) - 1 := IntWalk.i64_in _ (by omega)
    refine wp_region_held_drew (S := (fun w' => w'.cell? ⟨tb, 0, none⟩ = some (.pointer (some ⟨p, 0, none⟩)))) (by kernel_rfl) ?_ (fun hHeld => ?_)
    · exact blk_cell H2d.out.snd.held 0 rfl
    refine wpAnyH_take (i := 0) (oi := ?_) (v := ?_) ?_ (by kernel_rfl) (by kernel_rfl) (by kernel_rfl) ?_ (Or.inl ⟨?_, ?_⟩) (by assumption) ?_
    rotate_left 2
    · (simp only [List.getElem?_toArray, List.getElem?_cons_zero]; rfl)
    · exact fun _ _ _ h => h
    · rfl
    · (intro w hSw; (try dsimp only at hSw); go_simp <;> with_reducible rfl)
    (try simp only [Act.put, List.setIfInBounds_toArray, List.set_cons_zero, List.set_cons_succ])
    refine wpAnyH_take (i := 1) (oi := ?_) (v := ?_) ?_ (by kernel_rfl) (by kernel_rfl) (by kernel_rfl) ?_ (Or.inl ⟨?_, ?_⟩) (by assumption) ?_
    rotate_left 2
    · (simp only [List.getElem?_toArray, List.getElem?_cons_succ, List.getElem?_cons_zero]; rfl)
    · exact fun _ _ _ h => h
    · rfl
    · (intro w hSw; (try dsimp only at hSw); go_simp <;> with_reducible rfl)
    (try simp only [Act.put, List.setIfInBounds_toArray, List.set_cons_zero, List.set_cons_succ])
    refine wpAnyH_take (i := 2) (oi := ?_) (v := ?_) ?_ (by kernel_rfl) (by kernel_rfl) (by kernel_rfl) ?_ (Or.inl ⟨?_, ?_⟩) (by assumption) ?_
    rotate_left 2
    · (simp only [List.getElem?_toArray, List.getElem?_cons_succ, List.getElem?_cons_zero]; rfl)
    · exact fun _ _ _ h => h
    · rfl
    · (intro w hSw; (try dsimp only at hSw); go_simp <;> with_reducible rfl)
    (try simp only [Act.put, List.setIfInBounds_toArray, List.set_cons_zero, List.set_cons_succ])
    refine wpAnyH_take (i := 3) (oi := ?_) (v := ?_) ?_ (by kernel_rfl) (by kernel_rfl) (by kernel_rfl) ?_ (Or.inl ⟨?_, ?_⟩) (by assumption) ?_
    rotate_left 2
    · (simp only [List.getElem?_toArray, List.getElem?_cons_succ, List.getElem?_cons_zero]; rfl)
    · exact fun _ _ _ h => h
    · rfl
    · (intro w hSw; (try dsimp only at hSw); go_simp <;> with_reducible rfl)
    (try simp only [Act.put, List.setIfInBounds_toArray, List.set_cons_zero, List.set_cons_succ])
    refine wpAnyH_take (i := 4) (oi := ?_) (v := ?_) ?_ (by kernel_rfl) (by kernel_rfl) (by kernel_rfl) ?_ (Or.inl ⟨?_, ?_⟩) (by assumption) ?_
    rotate_left 2
    · (simp only [List.getElem?_toArray, List.getElem?_cons_succ, List.getElem?_cons_zero]; rfl)
    · exact fun _ _ _ h => h
    · rfl
    · (intro w hSw; (try dsimp only at hSw); go_simp <;> with_reducible rfl)
    (try simp only [Act.put, List.setIfInBounds_toArray, List.set_cons_zero, List.set_cons_succ])
    refine wpAnyH_take (i := 6) (oi := ?_) (v := ?_) ?_ (by kernel_rfl) (by kernel_rfl) (by kernel_rfl) ?_ (Or.inl ⟨?_, ?_⟩) (by assumption) ?_
    rotate_left 2
    · (simp only [List.getElem?_toArray, List.getElem?_cons_succ, List.getElem?_cons_zero]; rfl)
    · exact fun _ _ _ h => h
    · rfl
    · (intro w hSw; (try dsimp only at hSw); go_simp <;> with_reducible rfl)
    (try simp only [Act.put, List.setIfInBounds_toArray, List.set_cons_zero, List.set_cons_succ])
    refine wpAnyH_take (i := 7) (oi := ?_) (v := ?_) ?_ (by kernel_rfl) (by kernel_rfl) (by kernel_rfl) ?_ (Or.inl ⟨?_, ?_⟩) (by assumption) ?_
    rotate_left 2
    · (simp only [List.getElem?_toArray, List.getElem?_cons_succ, List.getElem?_cons_zero]; rfl)
    · exact fun _ _ _ h => h
    · rfl
    · (intro w hSw; (try dsimp only at hSw); go_simp <;> with_reducible rfl)
    (try simp only [Act.put, List.setIfInBounds_toArray, List.set_cons_zero, List.set_cons_succ])
    refine wpAnyH_take (i := 8) (oi := ?_) (v := ?_) ?_ (by kernel_rfl) (by kernel_rfl) (by kernel_rfl) ?_ (Or.inl ⟨?_, ?_⟩) (by assumption) ?_
    rotate_left 2
    · (simp only [List.getElem?_toArray, List.getElem?_cons_succ, List.getElem?_cons_zero]; rfl)
    · exact fun _ _ _ h => h
    · rfl
    · (intro w hSw; (try dsimp only at hSw); go_simp <;> with_reducible rfl)
    (try simp only [Act.put, List.setIfInBounds_toArray, List.set_cons_zero, List.set_cons_succ])
    refine wpAnyH_take (i := 9) (oi := ?_) (v := ?_) ?_ (by kernel_rfl) (by kernel_rfl) (by kernel_rfl) ?_ (Or.inl ⟨?_, ?_⟩) (by assumption) ?_
    rotate_left 2
    · (simp only [List.getElem?_toArray, List.getElem?_cons_succ, List.getElem?_cons_zero]; rfl)
    · exact fun _ _ _ h => h
    · rfl
    · (intro w hSw; (try dsimp only at hSw); go_simp <;> with_reducible rfl)
    (try simp only [Act.put, List.setIfInBounds_toArray, List.set_cons_zero, List.set_cons_succ])
    refine wpAnyH_take (i := 10) (oi := ?_) (v := ?_) ?_ (by kernel_rfl) (by kernel_rfl) (by kernel_rfl) ?_ (Or.inl ⟨?_, ?_⟩) (by assumption) ?_
    rotate_left 2
    · (simp only [List.getElem?_toArray, List.getElem?_cons_succ, List.getElem?_cons_zero]; rfl)
    · exact fun _ _ _ h => h
    · rfl
    · (intro w hSw; (try dsimp only at hSw); go_simp <;> with_reducible rfl)
    (try simp only [Act.put, List.setIfInBounds_toArray, List.set_cons_zero, List.set_cons_succ])
    refine wpAnyH_take (i := 11) (oi := ?_) (v := ?_) ?_ (by kernel_rfl) (by kernel_rfl) (by kernel_rfl) ?_ (Or.inl ⟨?_, ?_⟩) (by assumption) ?_
    rotate_left 2
    · (simp only [List.getElem?_toArray, List.getElem?_cons_succ, List.getElem?_cons_zero]; rfl)
    · exact fun _ _ _ h => h
    · rfl
    · (intro w hSw; (try dsimp only at hSw); go_simp <;> with_reducible rfl)
    (try simp only [Act.put, List.setIfInBounds_toArray, List.set_cons_zero, List.set_cons_succ])
    refine wpAnyH_take (i := 13) (oi := ?_) (v := ?_) ?_ (by kernel_rfl) (by kernel_rfl) (by kernel_rfl) ?_ (Or.inl ⟨?_, ?_⟩) (by assumption) ?_
    rotate_left 2
    · (simp only [List.getElem?_toArray, List.getElem?_cons_succ, List.getElem?_cons_zero]; rfl)
    · exact fun _ _ _ h => h
    · rfl
    · (intro w hSw; (try dsimp only at hSw); go_simp <;> with_reducible rfl)
    (try simp only [Act.put, List.setIfInBounds_toArray, List.set_cons_zero, List.set_cons_succ])
    refine wpAnyH_take (i := 14) (oi := ?_) (v := ?_) ?_ (by kernel_rfl) (by kernel_rfl) (by kernel_rfl) ?_ (Or.inl ⟨?_, ?_⟩) (by assumption) ?_
    rotate_left 2
    · (simp only [List.getElem?_toArray, List.getElem?_cons_succ, List.getElem?_cons_zero]; rfl)
    · exact fun _ _ _ h => h
    · rfl
    · (intro w hSw; (try dsimp only at hSw); go_simp <;> with_reducible rfl)
    (try simp only [Act.put, List.setIfInBounds_toArray, List.set_cons_zero, List.set_cons_succ])
    refine wpAnyH_take (i := 15) (oi := ?_) (v := ?_) ?_ (by kernel_rfl) (by kernel_rfl) (by kernel_rfl) ?_ (Or.inl ⟨?_, ?_⟩) (by assumption) ?_
    rotate_left 2
    · (simp only [List.getElem?_toArray, List.getElem?_cons_succ, List.getElem?_cons_zero]; rfl)
    · exact fun _ _ _ h => h
    · rfl
    · (intro w hSw; (try dsimp only at hSw); go_simp <;> with_reducible rfl)
    (try simp only [Act.put, List.setIfInBounds_toArray, List.set_cons_zero, List.set_cons_succ])
    refine wpAnyH_take (i := 16) (oi := ?_) (v := ?_) ?_ (by kernel_rfl) (by kernel_rfl) (by kernel_rfl) ?_ (Or.inl ⟨?_, ?_⟩) (by assumption) ?_
    rotate_left 2
    · (simp only [List.getElem?_toArray, List.getElem?_cons_succ, List.getElem?_cons_zero]; rfl)
    · exact fun _ _ _ h => h
    · rfl
    · (intro w hSw; (try dsimp only at hSw); go_simp <;> with_reducible rfl)
    (try simp only [Act.put, List.setIfInBounds_toArray, List.set_cons_zero, List.set_cons_succ])
    clear hs1
    refine wpAnyH_ready (rs := [5]) (by kernel_rfl) (by simp) (AllReadyH.cons (o := ?o5_4) ?h5_4 (fun K hK => ?s5_4) AllReadyH.nil)
    case h5_4 => (simp only [List.getElem?_toArray, List.getElem?_cons_succ, List.getElem?_cons_zero]; rfl)
    case' s5_4 =>
      (go_simp; refine (list_k H2d.out (c : Int) (by omega)).mono ?_; rintro r w3 ⟨vk, lk, y3, b3, rfl, hl, hr, h3⟩; obtain ⟨ko, kc, rfl⟩ := rowg_shape h3; have HR3 := Lib.hid hr; have H3 := Lib.hid h3.swap; have HL3 := Lib.hid hl; clear hr h3 H2d H2 hl)
      refine hK.out _ _ ?_ (fun hHeld => ?_)
    · exact blk_cell H3.out.snd.snd.held 0 rfl
    clear hK K
    (try simp only [Act.put, List.setIfInBounds_toArray, List.set_cons_zero, List.set_cons_succ])
    refine wpAnyH_ready (rs := [12]) (by kernel_rfl) (by simp) (AllReadyH.cons (o := ?o12_5) ?h12_5 (fun K hK => ?s12_5) AllReadyH.nil)
    case h12_5 => (simp only [List.getElem?_toArray, List.getElem?_cons_succ, List.getElem?_cons_zero]; rfl)
    case' s12_5 =>
      (go_simp; refine (list_p H3.out ((c : Int) - 1) (by omega)).mono ?_; rintro r w4 ⟨vp, lp, y4, b4, rfl, hl, hr, h4⟩; obtain ⟨po, pc, rfl⟩ := rowg_shape h4; have HR4 := Lib.hid hr; have H4 := Lib.hid h4.swap; have HL4 := Lib.hid hl; clear hr h4 H3 hl)
      refine hK.out _ _ ?_ (fun hHeld => ?_)
    · exact blk_cell H4.out.snd.snd.snd.held 0 rfl
    clear hK K
    (try simp only [Act.put, List.setIfInBounds_toArray, List.set_cons_zero, List.set_cons_succ])
    refine wpAnyH_ready (rs := [17]) (by kernel_rfl) (by simp) (AllReadyH.cons (o := ?o17_6) ?h17_6 (fun K hK => ?s17_6) AllReadyH.nil)
    case h17_6 => (simp only [List.getElem?_toArray, List.getElem?_cons_succ, List.getElem?_cons_zero]; rfl)
    case' s17_6 =>
      (go_simp; refine (list_l H4.out (c : Int) (by omega)).mono ?_; rintro r w5 ⟨vb, hs, lb, y5, b5, rfl, hl, hr, h5⟩; have hh := (Own.fixed h5.swap).len; obtain ⟨bo, bc, rfl⟩ := rowg_shape h5; rw [hh] at h5 ⊢; clear hh; have HR5 := Lib.hid hr; have H5 := Lib.hid h5; have HL5 := Lib.hid hl; clear hr h5 H4 hl)
      refine hK.out _ _ ?_ (fun hHeld => ?_)
    · exact blk_cell H5.out.snd.snd.snd.snd.snd.held 0 rfl
    clear hK K
    (try simp only [Act.put, List.setIfInBounds_toArray, List.set_cons_zero, List.set_cons_succ])
    refine wpAnyH_take (i := 18) (oi := ?_) (v := ?_) ?_ (by kernel_rfl) (by kernel_rfl) (by kernel_rfl) ?_ (Or.inl ⟨?_, ?_⟩) (by assumption) ?_
    rotate_left 2
    · (simp only [List.getElem?_toArray, List.getElem?_cons_succ, List.getElem?_cons_zero]; rfl)
    · exact fun _ _ _ h => h
    · rfl
    · (intro w hSw; (try dsimp only at hSw); go_simp <;> with_reducible rfl)
    (try simp only [Act.put, List.setIfInBounds_toArray, List.set_cons_zero, List.set_cons_succ])
    have HS := Lib.hid (own_set5 (H5.out.ac (by ac_rfl) : Own w0 w5 (Sep (Blk rb (.cells #[.bool false, .slice none 0 0, .slice none 0 0, .slice none 0 0, .slice none 0 0] 30 (0, 0))) (Sep (Blk tb (.cells #[.pointer (some ⟨p, 0, none⟩)] 47 (0, 0))) (Sep (RowG 9 (.slice po lp.length pc) lp) (Sep (RowG 39 (.slice ko lk.length kc) lk) (Sep (RowG 55 (.slice bo lb.length bc) hs) (Sep (Fix (BufsP hs lb)) (Sep (InR p y5 b5) J)))))))) (.bool false) (.slice none 0 0) (.slice po lp.length pc) (.slice ko lk.length kc) (.slice bo lb.length bc))
    have HRB := Lib.hid H5.out.snd.snd.snd.snd.snd.snd.held
    obtain ⟨e0, e1, e2, e3, e4⟩ := blk5c HRB.out
    have q0 := blk_free HRB.out 0
    have q1 := blk_free HRB.out 1
    have q2 := blk_free HRB.out 2
    have q3 := blk_free HRB.out 3
    have q4 := blk_free HRB.out 4
    clear HRB
    refine wpAnyH_ready (rs := [19]) (by kernel_rfl) (by simp) (AllReadyH.cons (o := ?o19_7) ?h19_7 (fun K hK => ?s19_7) AllReadyH.nil)
    case h19_7 => (simp only [List.getElem?_toArray, List.getElem?_cons_succ, List.getElem?_cons_zero]; rfl)
    case' s19_7 =>
      go_simp
      refine hK.out _ _ ?_ (fun hHeld => ?_)
    · exact blk_cell HS.out.snd.held 0 rfl
    clear hK K
    (try simp only [Act.put, List.setIfInBounds_toArray, List.set_cons_zero, List.set_cons_succ])
    refine wpAnyH_done (by kernel_rfl) ?_ _
    clear e0 e1 e2 e3 e4 q0 q1 q2 q3 q4 H5
    generalize World.setCell (World.setCell (World.setCell (World.setCell (World.setCell w5 _ _) _ _) _ _) _ _) _ _ = w8 at *
    obtain ⟨e0, e1, e2, e3, e4⟩ := blk5c HS.out.held
    go_wp2_with fail
    refine bodyPost_ret (v := ndv ⟨none, 0, po, pc, ko, kc, bo, bc⟩ ⟨false, [], lp, lk, lb⟩) (by simp [results, Tryz.results15, go_sem, e0, e1, e2, e3, e4]) rfl ?_
    refine ⟨⟨none, 0, po, pc, ko, kc, bo, bc⟩, ⟨false, [], lp, lk, lb⟩, hs, y5, b5, rfl, ⟨by simp, HL4.out, HL3.out, HL5.out⟩, ?_, ?_⟩
    · have h3 := HR3.out
      have h4 := HR4.out
      have h5 := HR5.out
      rw [Int.toNat_natCast] at h3 h5
      rw [show ((c : Int) - 1).toNat = c - 1 by omega] at h4
      exact HR1.out.bind (q := fun leaf => if leaf = true then pLeaf else pInner) (HR2.out.bind (h3.bind (h4.bind (h5.bind (Rd.ret _ _ _)))))
    · have h1 := (HS.out.snd.snd.row_nil 41 (Cel.size En))
      exact (h1.ac (by ac_rfl) : Own w0 w8 (Sep (Sep (RowV 41 (Cel.size En) (.slice none 0 0) 0 []) (Sep (RowG 9 (.slice po lp.length pc) lp) (Sep (RowG 39 (.slice ko lk.length kc) lk) (Sep (RowG 55 (.slice bo lb.length bc) hs) (Fix (BufsP hs lb)))))) (Sep (InR p y5 b5) J)))

end Go.Proofs.YtookbmpaoljelaaGreat

namespace Go.Proofs.YtookbmpaoljelaaGreat
open Go Go.RowKit
set_option linter.unusedVariables false
set_option linter.unusedSimpArgs false
set_option maxRecDepth 100000
set_option linter.unusedSimpArgs false
set_option maxRecDepth 100000

abbrev nd0 : Value := .agg #[.bool false, .slice none 0 0, .slice none 0 0, .slice none 0 0, .slice none 0 0]
def DecPost (bs : List UInt8) (w : World) (e : Ending) (w' : World) : Prop :=
  (∃ (H : Nh) (n : Nd) (hs : List Hd), decN bs = some n ∧ e = .returned (.tuple #[ndv H n, .int .i64 0]) ∧ NdS n ∧ Own w w' (NodR H n hs)) ∨
    (decN bs = none ∧ e = .returned (.tuple #[nd0, .int .i64 2]) ∧ Only (fun _ => False) w w')
theorem decN_of {bs ys : List UInt8} {n : Nd} {b : Bool} (h : Rd pNode bs false n ys b) (hl : bs.length ≤ 32768) : decN bs = if (!b && ys.isEmpty) = true then (if rightB n = true then some n else none) else none := by
  unfold decN
  rw [if_neg (by omega), h.g rfl]
  cases b with
  | true => rfl
  | false => cases ys <;> rfl

set_option maxHeartbeats 4000000 in
theorem decode_any (v : Value) (bs : List UInt8) (w : World) (hv : SlC w v bs) (hl : bs.length ≤ 140737488351232) : Calls Tryz.prog 6 #[v] w (DecPost bs w) := by
  obtain ⟨ao, cap, rfl⟩ := hv.shape
  obtain ⟨m, hm⟩ : ∃ m, m = bs.length := ⟨_, rfl⟩
  have HM := Lib.hid hm
  rw [← hm] at hv hl ⊢
  have H0 := Lib.hid ((Own.start w).alloc (.cells #[.bool false, .slice none 0 0, .slice none 0 0, .slice none 0 0, .slice none 0 0] 30))
  obtain ⟨e0, e1, e2, e3, e4⟩ := blk5c H0.out.held
  have q0 := blk_free H0.out.held 0
  have q1 := blk_free H0.out.held 1
  have q2 := blk_free H0.out.held 2
  have q3 := blk_free H0.out.held 3
  have q4 := blk_free H0.out.held 4
  by_cases hlen : 32768 < m
  · have hI : (32768 : Int) < (m : Int) := by omega
    have HD : Hid (decN bs = none) := Lib.hid (by unfold decN; rw [if_pos (by omega)])
    have HS := Lib.hid (own_set5 H0.out (.bool false) (.slice none 0 0) (.slice none 0 0) (.slice none 0 0) (.slice none 0 0))
    clear hv hlen hm
    go_enter Tryz.func6, Tryz.ntmps6
    go_upto_region 2 with fail
    generalize w.heap.size = rb at *
    go_wp2_with fail
    generalize World.setCell (World.setCell (World.setCell (World.setCell (World.setCell (w.alloc _) _ _) _ _) _ _) _ _) _ _ = w8 at *
    clear e0 e1 e2 e3 e4 q0 q1 q2 q3 q4
    obtain ⟨e0, e1, e2, e3, e4⟩ := blk5c HS.out.held
    refine bodyPost_ret (v := .tuple #[nd0, .int .i64 2]) (by simp [results, Tryz.results6, go_sem, e0, e1, e2, e3, e4]) rfl ?_
    exact .inr ⟨HD.out, rfl, HS.out.only⟩
  have hI : ¬ (32768 : Int) < (m : Int) := by omega
  have HTO := Lib.hid (own_to H0.out (.slice ao m cap) bs (hv.keep H0.out.only) (by omega))
  clear e0 e1 e2 e3 e4 q0 q1 q2 q3 q4 hv hm
  go_enter Tryz.func6, Tryz.ntmps6
  go_wp2_with fail
  generalize w.heap.size = rb at *
  refine HTO.out.mono ?_
  rintro r w1 ⟨p, rfl, h1⟩
  have H1 := Lib.hid ((h1.alloc (.cells #[.pointer (some ⟨p, 0, none⟩)] 47)).ac (by ac_rfl) : Own w (w1.alloc (.cells #[.pointer (some ⟨p, 0, none⟩)] 47)) (Sep (InR p bs false) (Sep (Blk w1.heap.size (.cells #[.pointer (some ⟨p, 0, none⟩)] 47 (0, 0))) (Sep (Blk rb (.cells #[.bool false, .slice none 0 0, .slice none 0 0, .slice none 0 0, .slice none 0 0] 30 (0, 0))) Emp))))
  clear h1 HTO H0
  have ha := blk_cell H1.out.snd.held 0 rfl
  go_wp2_with fail
  generalize w1.heap.size = tb at *
  refine (tnode_any H1.out).mono ?_
  rintro r w2 ⟨H, n, hs, ys, b, rfl, hz, hr, h2⟩
  have HZ := Lib.hid hz
  have HD := Lib.hid (decN_of hr (by have := HM.out; omega))
  have H2 := Lib.hid ((h2.alloc (.cells (ndc H n) 30)).ac (by ac_rfl) : Own w (w2.alloc (.cells (ndc H n) 30)) (Sep (InR p ys b) (Sep (Blk tb (.cells #[.pointer (some ⟨p, 0, none⟩)] 47 (0, 0))) (Sep (Blk rb (.cells #[.bool false, .slice none 0 0, .slice none 0 0, .slice none 0 0, .slice none 0 0] 30 (0, 0))) (Sep (Blk w2.heap.size (.cells (ndc H n) 30 (0, 0))) (Sep (NodR H n hs) Emp))))))
  clear h2 hr hz H1 ha
  go_upto_region 5 with fail
  generalize w2.alloc (.cells (ndc H n) 30) = w3 at *
  generalize w2.heap.size = nb at *
  have ha := blk_cell H2.out.snd.held 0 rfl
  have HND := Lib.hid (nodr_at (H2.out.snd.snd.snd.snd) HZ.out)
  have HDN := Lib.hid (own_done H2.out)
  obtain ⟨d, hd⟩ : ∃ d, (!b && ys.isEmpty) = d := ⟨_, rfl⟩
  rw [hd] at HDN HD
  clear hd
  cases d with
  | false =>
    have HD0 : Hid (decN bs = none) := Lib.hid (by rw [HD.out]; rfl)
    obtain ⟨e0, e1, e2, e3, e4⟩ := blk5c H2.out.snd.snd.held
    have q0 := blk_free H2.out.snd.snd.held 0
    have q1 := blk_free H2.out.snd.snd.held 1
    have q2 := blk_free H2.out.snd.snd.held 2
    have q3 := blk_free H2.out.snd.snd.held 3
    have q4 := blk_free H2.out.snd.snd.held 4
    have HS := Lib.hid (own_set5 H2.out.snd.snd (.bool false) (.slice none 0 0) (.slice none 0 0) (.slice none 0 0) (.slice none 0 0))
    clear HD HND HZ
    go_wp2_with fail
    refine HDN.out.mono ?_
    rintro r w4 ⟨rfl, rfl⟩
    go_wp2_with fail
    generalize World.setCell (World.setCell (World.setCell (World.setCell (World.setCell w3 _ _) _ _) _ _) _ _) _ _ = w8 at *
    clear e0 e1 e2 e3 e4 q0 q1 q2 q3 q4
    obtain ⟨e0, e1, e2, e3, e4⟩ := blk5c HS.out.held
    refine bodyPost_ret (v := .tuple #[nd0, .int .i64 2]) (by simp [results, Tryz.results6, go_sem, e0, e1, e2, e3, e4]) rfl ?_
    exact .inr ⟨HD0.out, rfl, HS.out.only⟩
  | true =>
    have HR := Lib.hid (right_any H n w3 HND.out)
    obtain ⟨rg, hrg⟩ : ∃ rg, rightB n = rg := ⟨_, rfl⟩
    rw [hrg] at HR
    have HDR : Hid (decN bs = if rg = true then some n else none) := Lib.hid (by rw [HD.out, if_pos rfl, hrg])
    obtain ⟨c0, c1, c2, c3, c4⟩ := nod_cells H2.out.snd.snd.snd.held
    clear HD HND hrg
    go_wp2_with fail
    refine HDN.out.mono ?_
    rintro r w4 ⟨rfl, rfl⟩
    go_wp2_with fail
    refine HR.out.mono ?_
    rintro r w5 ⟨rfl, ho⟩
    have H3 := Lib.hid (H2.out.quiet ho)
    clear ho HR HDN H2 ha c0 c1 c2 c3 c4
    obtain ⟨e0, e1, e2, e3, e4⟩ := blk5c H3.out.snd.snd.held
    have q0 := blk_free H3.out.snd.snd.held 0
    have q1 := blk_free H3.out.snd.snd.held 1
    have q2 := blk_free H3.out.snd.snd.held 2
    have q3 := blk_free H3.out.snd.snd.held 3
    have q4 := blk_free H3.out.snd.snd.held 4
    cases rg with
    | false =>
      have HD0 : Hid (decN bs = none) := Lib.hid (by rw [HDR.out]; rfl)
      have HS := Lib.hid (own_set5 H3.out.snd.snd (.bool false) (.slice none 0 0) (.slice none 0 0) (.slice none 0 0) (.slice none 0 0))
      go_wp2_with fail
      generalize World.setCell (World.setCell (World.setCell (World.setCell (World.setCell w5 _ _) _ _) _ _) _ _) _ _ = w8 at *
      clear e0 e1 e2 e3 e4 q0 q1 q2 q3 q4
      obtain ⟨e0, e1, e2, e3, e4⟩ := blk5c HS.out.held
      refine bodyPost_ret (v := .tuple #[nd0, .int .i64 2]) (by simp [results, Tryz.results6, go_sem, e0, e1, e2, e3, e4]) rfl ?_
      exact .inr ⟨HD0.out, rfl, HS.out.only⟩
    | true =>
      have HD0 : Hid (decN bs = some n) := Lib.hid (by rw [HDR.out]; rfl)
      have HS := Lib.hid (own_set5 H3.out.snd.snd (.bool n.leaf) (.slice H.eo n.es.length H.ec) (.slice H.po n.ps.length H.pc) (.slice H.ko n.ks.length H.kc) (.slice H.bo n.bs.length H.bc))
      obtain ⟨c0, c1, c2, c3, c4⟩ := nod_cells H3.out.snd.snd.snd.held
      go_wp2_with fail
      generalize World.setCell (World.setCell (World.setCell (World.setCell (World.setCell w5 _ _) _ _) _ _) _ _) _ _ = w8 at *
      clear e0 e1 e2 e3 e4 q0 q1 q2 q3 q4 c0 c1 c2 c3 c4
      obtain ⟨e0, e1, e2, e3, e4⟩ := blk5c HS.out.held
      refine bodyPost_ret (v := .tuple #[ndv H n, .int .i64 0]) (by simp [results, Tryz.results6, go_sem, e0, e1, e2, e3, e4]) rfl ?_
      exact .inl ⟨H, n, hs, HD0.out, rfl, HZ.out, HS.out.snd.snd.fst⟩

end Go.Proofs.YtookbmpaoljelaaGreat

namespace Go.Proofs.YtookbmpaoljelaaGreat
open Go
set_option linter.unusedVariables false
set_option linter.unusedSimpArgs false
set_option maxRecDepth 100000

section
variable {P : Program} {ops : Array Oper} {Q : Exit → Act → World → Prop} {md : Region.Mode} {S : World → Prop} {T : List Nat}
/-- None of the operations T has come up. -/
def Late (T : List Nat) (L : Array Bool) : Prop := ∀ k ∈ T, L.getD k true = false
/-- Whatever comes up next; S holds behind it, as long as none of T has come up. -/
def anyG (P : Program) (md : Region.Mode) (ops : Array Oper) (Q : Exit → Act → World → Prop) (S : World → Prop) (T : List Nat) : Nat → Array Bool → Act → World → Prop
  | 0 => fun L a w => Region.ready md ops L = [] ∧ Q .normal a w
  | n + 1 => fun L a w => (Region.ready md ops L = [] → Q .normal a w) ∧ ∀ i, i ∈ Region.ready md ops L → wpOp P ops Q i (fun b v => (Late T (L.setIfInBounds i true) → S v) ∧ anyG P md ops Q S T n (L.setIfInBounds i true) b v) a w
theorem anyG.plain : ∀ {n : Nat} {L : Array Bool} {a : Act} {w : World}, anyG P md ops Q S T n L a w → wpAny P md ops Q n L a w
  | 0, _, _, _, h => h
  | n + 1, _, _, _, h => ⟨h.1, fun i hi => wpOp_mono (fun _ _ k => k.2.plain) (h.2 i hi)⟩
theorem listed_no {L : Array Bool} {i : Nat} (h1 : L.getD i false = true) (h2 : L.getD i true = false) : False := by
  by_cases hlt : i < L.size
  · simp [hlt] at h1 h2
    rw [h1] at h2
    cases h2
  · simp [Array.getElem?_eq_none (Nat.le_of_not_lt hlt)] at h1
/-- An operation that yields in every world with S, and for which each of T waits (by itself, or by one of M that waits for it), may be taken ahead of the others. -/
theorem anyG.ahead {M : List Nat} {i : Nat} {oi : Oper} {v : Value} (hi : ops[i]? = some oi) (hsel : ∀ (j : Nat) (o : Oper) cs b, ops[j]? = some o → o.op ≠ .select cs b)
    (hQ : ∀ c a w, Q (.panic c) (a.put oi.dst v) w → Q (.panic c) a w) (hiT : i ∉ T) (hM : ∀ k ∈ M, ∀ o, ops[k]? = some o → ∃ e ∈ o.after, Region.binds md e = true ∧ e.on = i) (hT : ∀ k ∈ T, ∀ o, ops[k]? = some o → ∃ e ∈ o.after, Region.binds md e = true ∧ (e.on = i ∨ e.on ∈ M)) (n : Nat) :
    ∀ (L : Array Bool) (a : Act) (w : World), (∀ j oj, ops[j]? = some oj → j ≠ i → L.getD j true = false → (∀ e ∈ oj.after, Region.binds md e = true → e.on ≠ i) → oi.apart ops oj = true) →
      Late T L → Late M L → i ∈ Region.ready md ops L → YieldsIf P ops S oi v a → S w → anyG P md ops Q S T n (L.setIfInBounds i true) (a.put oi.dst v) w → anyG P md ops Q S T (n + 1) L a w := by
  induction n with
  | zero =>
    intro L a w hfr hL hLM hr hy hS H
    constructor
    · intro h
      rw [h] at hr
      cases hr
    · intro j hj
      by_cases e : j = i
      · subst e
        exact hy.wpOp hi hS ⟨fun _ => hS, H⟩
      · have h := ready_mono hj e
        rw [H.1] at h
        cases h
  | succ n ih =>
    intro L a w hfr hL hLM hr hy hS H
    constructor
    · intro h
      rw [h] at hr
      cases hr
    · intro j hj
      by_cases e : j = i
      · subst e
        exact hy.wpOp hi hS ⟨fun _ => hS, H⟩
      · obtain ⟨hun, oj, hoj, hall⟩ := mem_ready.1 hj
        -- what is ready does not wait for i, which has not come up
        have hno : ∀ d ∈ oj.after, Region.binds md d = true → d.on ≠ i := by
          intro d hd hb hon
          have h1 := hall d hd hb
          rw [hon] at h1
          exact listed_no h1 (mem_ready.1 hr).1
        have hjM : j ∉ M := fun hm => by
          obtain ⟨d, hd, hb, hon⟩ := hM j hm oj hoj
          exact hno d hd hb hon
        have hMj : Late M (L.setIfInBounds j true) := fun k hk => by
          rw [getD_set_ne true (fun h => hjM (by rw [h]; exact hk))]
          exact hLM k hk
        have hjT : j ∉ T := fun hm => by
          obtain ⟨d, hd, hb, hon | hon⟩ := hT j hm oj hoj
          · exact hno d hd hb hon
          · exact listed_no (hall d hd hb) (hLM d.on hon)
        have hLj : Late T (L.setIfInBounds j true) := fun k hk => by
          rw [getD_set_ne true (fun h => hjT (by rw [h]; exact hk))]
          exact hL k hk
        have hLij : Late T ((L.setIfInBounds i true).setIfInBounds j true) := fun k hk => by
          rw [getD_set_ne true (fun h => hjT (by rw [h]; exact hk)), getD_set_ne true (fun h => hiT (by rw [h]; exact hk))]
          exact hL k hk
        refine wpOp_mono ?_ (wpOp_putIf hoj (hfr j oj hoj e hun hno) (fun cs b => hsel i oi cs b hi) (fun cs b => hsel j oj cs b hoj) hQ hy (H.2 j (ready_mono hj e)))
        rintro b v' ⟨hyb, hs, hg⟩
        refine ⟨fun _ => hs hLij, ih _ b v' ?_ hLj hMj (ready_mono hr (fun h => e h.symm)) hyb (hs hLij) ?_⟩
        · intro k ok hk hki hku hkn
          refine hfr k ok hk hki ?_ hkn
          by_cases h : j = k
          · subst h
            exact hun
          · rwa [getD_set_ne true h] at hku
        · rw [Array.setIfInBounds_comm _ _ e]
          exact hg
theorem anyG.take (M : List Nat) {i : Nat} {oi : Oper} {v : Value} {n : Nat} {L : Array Bool} {a : Act} {w : World} (hi : ops[i]? = some oi) (hs : Region.noSelect ops = true) (hf : Region.free md ops L i = true) (hr : (Region.ready md ops L).contains i = true)
    (hT : (!T.contains i && T.all fun k => (ops[k]?.map fun o => o.after.any fun e => Region.binds md e && (e.on == i || M.contains e.on)).getD true) = true) (hM : (M.all fun k => (ops[k]?.map fun o => o.after.any fun e => Region.binds md e && e.on == i).getD true) = true) (hL : ((T ++ M).all fun k => !L.getD k true) = true)
    (hQ : ∀ c a w, Q (.panic c) (a.put oi.dst v) w → Q (.panic c) a w) (hy : YieldsIf P ops S oi v a) (hS : S w) (h : anyG P md ops Q S T n (L.setIfInBounds i true) (a.put oi.dst v) w) : anyG P md ops Q S T (n + 1) L a w := by
  simp only [Bool.and_eq_true, Bool.not_eq_true', List.all_eq_true] at hT hL hM
  refine anyG.ahead (M := M) hi (Region.noSelect_spec hs) hQ (by simpa using hT.1) (fun k hk o ho => ?_) (fun k hk o ho => ?_) n L a w (Region.free_spec hi hf) (fun k hk => hL k (List.mem_append_left _ hk)) (fun k hk => hL k (List.mem_append_right _ hk)) (by simpa using hr) hy hS h
  · have h1 := hM k hk
    rw [ho] at h1
    obtain ⟨e, he, hb⟩ := Array.any_eq_true'.1 h1
    simp only [Bool.and_eq_true, beq_iff_eq] at hb
    exact ⟨e, he, hb.1, hb.2⟩
  · have h1 := hT.2 k hk
    rw [ho] at h1
    obtain ⟨e, he, hb⟩ := Array.any_eq_true'.1 h1
    simp only [Bool.and_eq_true, Bool.or_eq_true, beq_iff_eq, List.contains_iff_mem] at hb
    exact ⟨e, he, hb.1, hb.2⟩
/-- Each of the operations rs comes up next. -/
def AllG (P : Program) (md : Region.Mode) (ops : Array Oper) (Q : Exit → Act → World → Prop) (S : World → Prop) (T : List Nat) (n : Nat) (L : Array Bool) (a : Act) (w : World) (rs : List Nat) : Prop :=
  ∀ i, i ∈ rs → wpOp P ops Q i (fun b v => (Late T (L.setIfInBounds i true) → S v) ∧ anyG P md ops Q S T n (L.setIfInBounds i true) b v) a w
variable {n : Nat} {L : Array Bool} {a : Act} {w : World}
theorem AllG.nil : AllG P md ops Q S T n L a w [] := fun _ h => absurd h (by simp)
theorem AllG.early {i : Nat} {o : Oper} {rs : List Nat} (ho : ops[i]? = some o)
    (h : ∀ K : Act → World → Prop, Shut (∀ b v, S v → (S v → anyG P md ops Q S T n (L.setIfInBounds i true) b v) → K b v) → if Region.wanted o (yielded ops a.tmps) = true then Oper.wp P o a w K Q else K (a.put o.dst undef) w)
    (hs : AllG P md ops Q S T n L a w rs) : AllG P md ops Q S T n L a w (i :: rs) := by
  intro j hj
  rcases List.mem_cons.1 hj with rfl | hj
  · exact wpOp_step ho fun K hK => h K fun b v hv hg => hK b v ⟨fun _ => hv, hg hv⟩
  · exact hs j hj
theorem AllG.late {i : Nat} {o : Oper} {rs : List Nat} (ho : ops[i]? = some o) (hT : T.contains i = true) (hlt : i < L.size)
    (h : ∀ K : Act → World → Prop, Shut (∀ b v, anyG P md ops Q S T n (L.setIfInBounds i true) b v → K b v) → if Region.wanted o (yielded ops a.tmps) = true then Oper.wp P o a w K Q else K (a.put o.dst undef) w)
    (hs : AllG P md ops Q S T n L a w rs) : AllG P md ops Q S T n L a w (i :: rs) := by
  intro j hj
  rcases List.mem_cons.1 hj with rfl | hj
  · refine wpOp_step ho fun K hK => h K fun b v hg => hK b v ⟨fun hl => ?_, hg⟩
    have := hl j (by simpa using hT)
    simp [hlt] at this
  · exact hs j hj
theorem anyG.ready {rs : List Nat} (hr : Region.ready md ops L = rs) (hne : rs ≠ []) (h : AllG P md ops Q S T n L a w rs) : anyG P md ops Q S T (n + 1) L a w :=
  ⟨fun e => absurd (hr.symm.trans e) hne, fun i hi => h i (hr ▸ hi)⟩
theorem anyG.done (hr : Region.ready md ops L = []) (h : Q .normal a w) : anyG P md ops Q S T n L a w := by
  cases n with
  | zero => exact ⟨hr, h⟩
  | succ n => exact ⟨fun _ => h, fun i hi => absurd hi (by rw [hr]; simp)⟩
theorem anyG.start {id : Nat} (S : World → Prop) (T : List Nat) (hm : P.follows .mixedOrders = true) (hS : S w.drew) (h : S w.drew → anyG P .any ops Q S T ops.size (Array.replicate ops.size false) a w.drew) : (Code.region id ops true).wp P Q a w :=
  wp_region_any hm (h hS).plain
end

end Go.Proofs.YtookbmpaoljelaaGreat

namespace Go.Proofs.YtookbmpaoljelaaGreat
open Go Go.RowKit
set_option linter.unusedVariables false
set_option linter.unusedSimpArgs false
set_option maxRecDepth 100000
set_option linter.unusedSimpArgs false
set_option maxRecDepth 100000

/-- What is read in the end: a node that can be written, whose bytes these are. -/
theorem rd_end {bs ys : List UInt8} {n : Nd} {b : Bool} (h : Rd pNode bs false n ys b) (hd : (!b && ys.isEmpty) = true) : NdW n ∧ encN n = bs := by
  cases b with
  | true => cases hd
  | false =>
    cases ys with
    | cons c r => cases hd
    | nil =>
      obtain ⟨f1, f2⟩ := fit_node.b _ _ _ (h.g rfl)
      exact ⟨fit_wide f2, by rw [List.append_nil] at f1; exact f1.symm⟩
theorem Own.joinZ {w0 w w' : World} {I J : Res} [Stab I] (h : Own w0 w I) (k : Own w w' J) : Own w0 w' (Sep J I) := by
  obtain ⟨F, h1, h2, h3⟩ := k
  exact h.fresh h3 h1 h2
theorem ndw_of {n : Nd} {H : Nh} {w0 w : World} {hs : List Hd} {A B J : Res} (h : Own w0 w (Sep A (Sep B (Sep (NodR H n hs) J)))) (hz : NdS n) : NdAt w H n := nodr_at h.snd.snd hz

set_option maxHeartbeats 16000000 in
theorem qdecode_any (v : Value) (bs : List UInt8) (w : World) (hv : RI.SlF w v bs) (hl : bs.length ≤ 140737488351232) : Calls Tryz.prog 7 #[v] w (DecPost bs w) := by
  obtain ⟨ao, cap, rfl, hcap, _⟩ := hv.shape
  have HC := Lib.hid hcap
  obtain ⟨m, hm⟩ : ∃ m, m = bs.length := ⟨_, rfl⟩
  have HM := Lib.hid hm
  have HS : Hid (Src w (.slice ao m cap) bs) := Lib.hid ⟨by rw [hm]; exact hv, by omega⟩
  rw [← hm] at hv hl ⊢
  have H0 := Lib.hid ((Own.start w).alloc (.cells #[.bool false, .slice none 0 0, .slice none 0 0, .slice none 0 0, .slice none 0 0] 30))
  by_cases hlen : 32768 < m
  · obtain ⟨e0, e1, e2, e3, e4⟩ := blk5c H0.out.held
    have q0 := blk_free H0.out.held 0
    have q1 := blk_free H0.out.held 1
    have q2 := blk_free H0.out.held 2
    have q3 := blk_free H0.out.held 3
    have q4 := blk_free H0.out.held 4
    have hI : (32768 : Int) < (m : Int) := by omega
    have HD : Hid (decN bs = none) := Lib.hid (by unfold decN; rw [if_pos (by omega)])
    have HS8 := Lib.hid (own_set5 H0.out (.bool false) (.slice none 0 0) (.slice none 0 0) (.slice none 0 0) (.slice none 0 0))
    clear hv hlen hm hcap HS
    go_enter Tryz.func7, Tryz.ntmps7
    go_upto_region 2 with fail
    generalize w.heap.size = rb at *
    go_wp2_with fail
    generalize World.setCell (World.setCell (World.setCell (World.setCell (World.setCell (w.alloc _) _ _) _ _) _ _) _ _) _ _ = w8 at *
    clear e0 e1 e2 e3 e4 q0 q1 q2 q3 q4
    obtain ⟨e0, e1, e2, e3, e4⟩ := blk5c HS8.out.held
    refine bodyPost_ret (v := .tuple #[nd0, .int .i64 2]) (by simp [results, Tryz.results7, go_sem, e0, e1, e2, e3, e4]) rfl ?_
    exact .inr ⟨HD.out, rfl, HS8.out.only⟩
  have hI : ¬ (32768 : Int) < (m : Int) := by omega
  have H1 := Lib.hid (rin_new H0.out (.slice ao m cap) bs)
  rw [World.size_alloc] at H1
  clear hv hm hcap H0
  go_enter Tryz.func7, Tryz.ntmps7
  go_upto_region 4 with fail
  generalize World.alloc (World.alloc w _) _ = w9 at *
  generalize w.heap.size + 1 = pi at *
  generalize w.heap.size = rb at *
  go_wp2_with fail
  refine (rr_flag HS.out H1.out).mono ?_
  rintro r w1 ⟨lf, y1, b1, rfl, hr, h1⟩
  have HR1 := Lib.hid hr
  have H2 := Lib.hid ((h1.alloc (.cells #[.bool lf, .slice none 0 0, .slice none 0 0, .slice none 0 0, .slice none 0 0] 30)).swap)
  clear hr h1 H1
  go_upto_region 5 with fail
  generalize w1.alloc (.cells #[.bool lf, .slice none 0 0, .slice none 0 0, .slice none 0 0, .slice none 0 0] 30) = w2 at *
  generalize w1.heap.size = nb at *
  have f0 := blk_cell H2.out.snd.held 0 rfl
  cases lf with
  | true =>
    go_upto_region 6 with fail
    clear f0
    go_wp2_with fail
    refine (qentries_any HS.out H2.out).mono ?_
    rintro r w3 ⟨u, l, ys, b, rfl, hl, hr, h3⟩
    obtain ⟨eo, ec, rfl⟩ := rowg_shape h3
    have HRD0 := Lib.hid hr
    have HL := Lib.hid hl
    have HO0 := Lib.hid ((h3.ac (by ac_rfl : _ = Sep (Blk nb (.cells #[.bool true, .slice none 0 0, .slice none 0 0, .slice none 0 0, .slice none 0 0] 30 (0, 0))) (Sep (RowG 41 (.slice eo l.length ec) l) (Sep (RIn (.slice ao m cap) bs pi ys b) (Sep (Blk rb (.cells #[.bool false, .slice none 0 0, .slice none 0 0, .slice none 0 0, .slice none 0 0] 30 (0, 0))) Emp))))).store 1 (.slice eo l.length ec))
    have e1 := blk_cell h3.snd.snd.held 1 rfl
    have q1 := blk_free h3.snd.snd.held 1
    clear hr h3 hl H2
    go_upto_region 20 with fail
    generalize w3.setCell _ _ = w4 at *
    clear e1 q1
    obtain ⟨H, n, hs, HZ, HRD, HO⟩ : ∃ (H : Nh) (n : Nd) (hs : List Hd), Hid (NdS n) ∧ Hid (Rd pNode bs false n ys b) ∧ Hid (Own w w4 (Sep (RIn (.slice ao m cap) bs pi ys b) (Sep (Blk nb (.cells (ndc H n) 30 (0, 0))) (Sep (NodR H n hs) (Sep (Blk rb (.cells #[.bool false, .slice none 0 0, .slice none 0 0, .slice none 0 0, .slice none 0 0] 30 (0, 0))) Emp))))) := by
      refine ⟨⟨eo, ec, none, 0, none, 0, none, 0⟩, ⟨true, l, [], [], []⟩, [], Lib.hid ⟨HL.out, by simp, by simp, by simp⟩, Lib.hid ?_, Lib.hid ?_⟩
      · have e : pNode = pBind pFlag fun leaf => if leaf = true then pLeaf else pInner := rfl
        rw [e]
        refine HR1.out.bind (q := fun leaf => if leaf = true then pLeaf else pInner) ?_
        have h1 := HRD0.out
        refine ⟨h1.b, fun e => ?_⟩
        have h2 := h1.g e
        simp only [if_true]
        unfold pLeaf
        unfold pBind at h2 ⊢
        cases hp : pNum 2 y1 with
        | none =>
          rw [hp] at h2
          cases b with
          | true => rfl
          | false => cases h2
        | some q =>
          obtain ⟨c, z⟩ := q
          rw [hp] at h2
          simp only at h2 ⊢
          rw [h2]
          cases b <;> rfl
      · have h1 := ((((HO0.out.row_nil 9 (Cel.size ByteArray)).row_nil 39 (Cel.size Int)).row_nil 55 (Cel.size Hd)).fix0 (P := BufsP [] []) BufsP.nil)
        exact (h1.ac (by ac_rfl) : Own w w4 (Sep (RIn (.slice ao m cap) bs pi ys b) (Sep (Blk nb (.cells (ndc ⟨eo, ec, none, 0, none, 0, none, 0⟩ ⟨true, l, [], [], []⟩) 30 (0, 0))) (Sep (Sep (RowG 41 (.slice eo l.length ec) l) (Sep (RowV 9 (Cel.size ByteArray) (.slice none 0 0) 0 []) (Sep (RowV 39 (Cel.size Int) (.slice none 0 0) 0 []) (Sep (RowV 55 (Cel.size Hd) (.slice none 0 0) 0 []) (Fix (BufsP [] [])))))) (Sep (Blk rb (.cells #[.bool false, .slice none 0 0, .slice none 0 0, .slice none 0 0, .slice none 0 0] 30 (0, 0))) Emp)))))
    clear HRD0 HO0
    obtain ⟨c0, c1, c2, c3, c4⟩ := nod_cells HO.out.snd.held
    have HND := Lib.hid (ndw_of HO.out HZ.out)
    have HDN := Lib.hid (rr_done HS.out HO.out)
    have HD := Lib.hid (decN_of HRD.out (by have := HM.out; omega))
    have HEN := Lib.hid (fun e => rd_end HRD.out e)
    obtain ⟨d, hd⟩ : ∃ d, (!b && ys.isEmpty) = d := ⟨_, rfl⟩
    rw [hd] at HDN HD HEN
    clear hd
    cases d with
    | false =>
      have HD0 : Hid (decN bs = none) := Lib.hid (by rw [HD.out]; rfl)
      clear HD HND HZ HRD HEN
      go_wp2_with fail
      refine HDN.out.mono ?_
      rintro r wa ⟨rfl, ho⟩
      have HO1 := Lib.hid ho
      clear ho HDN HO c0 c1 c2 c3 c4
      have HOX := Lib.hid (HO1.out.ac (by ac_rfl : _ = Sep (Blk rb (.cells #[.bool false, .slice none 0 0, .slice none 0 0, .slice none 0 0, .slice none 0 0] 30 (0, 0))) (Sep (RIn (.slice ao m cap) bs pi ys b) (Sep (Blk nb (.cells (ndc H n) 30 (0, 0))) (Sep (NodR H n hs) Emp)))))
      clear HO1
      obtain ⟨e0, e1, e2, e3, e4⟩ := blk5c HOX.out.held
      have q0 := blk_free HOX.out.held 0
      have q1 := blk_free HOX.out.held 1
      have q2 := blk_free HOX.out.held 2
      have q3 := blk_free HOX.out.held 3
      have q4 := blk_free HOX.out.held 4
      have HS8 := Lib.hid (own_set5 HOX.out (.bool false) (.slice none 0 0) (.slice none 0 0) (.slice none 0 0) (.slice none 0 0))
      go_wp2_with fail
      generalize World.setCell (World.setCell (World.setCell (World.setCell (World.setCell _ _ _) _ _) _ _) _ _) _ _ = w8 at *
      clear e0 e1 e2 e3 e4 q0 q1 q2 q3 q4
      obtain ⟨e0, e1, e2, e3, e4⟩ := blk5c HS8.out.held
      refine bodyPost_ret (v := .tuple #[nd0, .int .i64 2]) (by simp [results, Tryz.results7, go_sem, e0, e1, e2, e3, e4]) rfl ?_
      exact .inr ⟨HD0.out, rfl, HS8.out.only⟩
    | true =>
      have HR := Lib.hid (fun W (ho : NdAt W H n) => qright_any H n W ho)
      obtain ⟨rg, hrg⟩ : ∃ rg, rightB n = rg := ⟨_, rfl⟩
      have HRG := Lib.hid hrg
      rw [hrg] at HR
      have HDR : Hid (decN bs = if rg = true then some n else none) := Lib.hid (by rw [HD.out, if_pos rfl, hrg])
      have HNW := Lib.hid (HEN.out rfl).1
      have HEE := Lib.hid (HEN.out rfl).2
      clear HD HND hrg HEN HRD
      go_wp2_with fail
      refine HDN.out.mono ?_
      rintro r wa ⟨rfl, ho⟩
      have HO1 := Lib.hid ho
      clear ho HDN HO c0 c1 c2 c3 c4
      obtain ⟨c0, c1, c2, c3, c4⟩ := nod_cells HO1.out.snd.held
      have HND := Lib.hid (ndw_of HO1.out HZ.out)
      cases rg with
      | false =>
        have HD0 : Hid (decN bs = none) := Lib.hid (by rw [HDR.out]; rfl)
        go_wp2_with fail
        refine (HR.out _ HND.out).mono ?_
        rintro r wb ⟨rfl, ho⟩
        have HO1 := Lib.hid (HO1.out.quiet ho)
        clear ho HR HND c0 c1 c2 c3 c4 HDR HRG HNW HEE HZ
        have HOX := Lib.hid (HO1.out.ac (by ac_rfl : _ = Sep (Blk rb (.cells #[.bool false, .slice none 0 0, .slice none 0 0, .slice none 0 0, .slice none 0 0] 30 (0, 0))) (Sep (RIn (.slice ao m cap) bs pi ys b) (Sep (Blk nb (.cells (ndc H n) 30 (0, 0))) (Sep (NodR H n hs) Emp)))))
        clear HO1
        obtain ⟨e0, e1, e2, e3, e4⟩ := blk5c HOX.out.held
        have q0 := blk_free HOX.out.held 0
        have q1 := blk_free HOX.out.held 1
        have q2 := blk_free HOX.out.held 2
        have q3 := blk_free HOX.out.held 3
        have q4 := blk_free HOX.out.held 4
        have HS8 := Lib.hid (own_set5 HOX.out (.bool false) (.slice none 0 0) (.slice none 0 0) (.slice none 0 0) (.slice none 0 0))
        go_wp2_with fail
        generalize World.setCell (World.setCell (World.setCell (World.setCell (World.setCell _ _ _) _ _) _ _) _ _) _ _ = w8 at *
        clear e0 e1 e2 e3 e4 q0 q1 q2 q3 q4
        obtain ⟨e0, e1, e2, e3, e4⟩ := blk5c HS8.out.held
        refine bodyPost_ret (v := .tuple #[nd0, .int .i64 2]) (by simp [results, Tryz.results7, go_sem, e0, e1, e2, e3, e4]) rfl ?_
        exact .inr ⟨HD0.out, rfl, HS8.out.only⟩
      | true =>
        have HD0 : Hid (decN bs = some n) := Lib.hid (by rw [HDR.out]; rfl)
        have HQB := Lib.hid (fun W (ho : NdAt W H n) => qbytes_any H n W ho HRG.out HNW.out)
        go_wp2_with fail
        refine (HR.out _ HND.out).mono ?_
        rintro r wb ⟨rfl, ho⟩
        have HO2 := Lib.hid (HO1.out.quiet ho)
        clear ho HR HND c0 c1 c2 c3 c4 HDR HRG HNW HO1
        obtain ⟨c0, c1, c2, c3, c4⟩ := nod_cells HO2.out.snd.held
        have HND := Lib.hid (ndw_of HO2.out HZ.out)
        go_wp2_with fail
        refine (HQB.out _ HND.out).mono ?_
        rintro r wc ⟨vv, rfl, ho⟩
        have HO3 := Lib.hid (HO2.out.joinZ ho)
        have HSV : Hid (SlC wc vv (encN n)) := Lib.hid (by obtain ⟨F, hF, _⟩ := ho; exact (own_toB hF.1).toC)
        have HSB : Hid (SlC wc (.slice ao m cap) bs) := Lib.hid (HS.out.sl.keep HO3.out.only (fun _ _ _ h => h)).1
        rw [HEE.out] at HSV
        have hbb : (bs == bs) = true := by simp
        clear ho HQB HND HO2 c0 c1 c2 c3 c4
        have HBY := Lib.hid (bytes_any vv (.slice ao m cap) bs bs wc HSV.out HSB.out)
        rw [hbb] at HBY
        clear hbb
        obtain ⟨c0, c1, c2, c3, c4⟩ := nod_cells HO3.out.snd.snd.held
        go_wp2_with fail
        refine HBY.out.mono ?_
        rintro r wd ⟨rfl, rfl⟩
        have HOX := Lib.hid (HO3.out.snd.snd.ac (by ac_rfl : _ = Sep (Blk rb (.cells #[.bool false, .slice none 0 0, .slice none 0 0, .slice none 0 0, .slice none 0 0] 30 (0, 0))) (Sep (Blk nb (.cells (ndc H n) 30 (0, 0))) (Sep (NodR H n hs) Emp))))
        clear HO3 HBY HSV HSB
        obtain ⟨e0, e1, e2, e3, e4⟩ := blk5c HOX.out.held
        have q0 := blk_free HOX.out.held 0
        have q1 := blk_free HOX.out.held 1
        have q2 := blk_free HOX.out.held 2
        have q3 := blk_free HOX.out.held 3
        have q4 := blk_free HOX.out.held 4
        have HS8 := Lib.hid (own_set5 HOX.out (.bool n.leaf) (.slice H.eo n.es.length H.ec) (.slice H.po n.ps.length H.pc) (.slice H.ko n.ks.length H.kc) (.slice H.bo n.bs.length H.bc))
        go_wp2_with fail
        generalize World.setCell (World.setCell (World.setCell (World.setCell (World.setCell _ _ _) _ _) _ _) _ _) _ _ = w8 at *
        clear e0 e1 e2 e3 e4 q0 q1 q2 q3 q4 c0 c1 c2 c3 c4
        obtain ⟨e0, e1, e2, e3, e4⟩ := blk5c HS8.out.held
        refine bodyPost_ret (v := .tuple #[ndv H n, .int .i64 0]) (by simp [results, Tryz.results7, go_sem, e0, e1, e2, e3, e4]) rfl ?_
        exact .inl ⟨H, n, hs, HD0.out, rfl, HZ.out, HS8.out.snd.snd.fst⟩
  | false =>
    go_upto_region 7 with fail
    clear f0
    go_wp2_with fail
    refine (rr_num HS.out H2.out 2 (by decide)).mono ?_
    rintro r w3 ⟨c, y2, b2, rfl, hc, hr, h3⟩
    have HR2 := Lib.hid hr
    have hc2 : c < 65536 := by have := hc; simpa using this
    have hw : IntKind.i64.wrap (c : Int) = (c : Int) := IntWalk.i64_in _ (by omega)
    have H3 := Lib.hid ((h3.row_nil 39 (Cel.size Int)).ac (by ac_rfl) : Own w w3 (Sep (RIn (.slice ao m cap) bs pi y2 b2) (Sep (RowV 39 (Cel.size Int) (.slice none 0 0) 0 []) (Sep (Blk nb (.cells #[.bool false, .slice none 0 0, .slice none 0 0, .slice none 0 0, .slice none 0 0] 30 (0, 0))) (Sep (Blk rb (.cells #[.bool false, .slice none 0 0, .slice none 0 0, .slice none 0 0, .slice none 0 0] 30 (0, 0))) Emp)))))
    clear hr h3 H2 hc
    go_upto_region 8 with fail
    try rw [hw]
    clear hw
    go_upto_block 0 with fail
    go_cut [7] (fun _ wx => ∃ (u : Value) (l : List Int) (ys : List UInt8) (b : Bool), (l.length ≤ 65535) ∧ Hid (Rd (pMany pKid c) y2 b2 l ys b) ∧ Hid (Own w wx (Sep (RIn (.slice ao m cap) bs pi ys b) (Sep (RowG 39 u l) (Sep (Blk nb (.cells #[.bool false, .slice none 0 0, .slice none 0 0, u, .slice none 0 0] 30 (0, 0))) (Sep (Blk rb (.cells #[.bool false, .slice none 0 0, .slice none 0 0, .slice none 0 0, .slice none 0 0] 30 (0, 0))) Emp))))))
    case first =>
      go_wp2_with fail
      go_loopw [7] (fun i wr => ∃ (u : Value) (l : List Int) (ys : List UInt8) (b : Bool), (l.length ≤ 65535) ∧ i = .int .i64 (l.length : Int) ∧ Hid (Many pKid c y2 b2 l ys b) ∧ Hid (Own w wr (Sep (RIn (.slice ao m cap) bs pi ys b) (Sep (RowG 39 u l) (Sep (Blk nb (.cells #[.bool false, .slice none 0 0, .slice none 0 0, u, .slice none 0 0] 30 (0, 0))) (Sep (Blk rb (.cells #[.bool false, .slice none 0 0, .slice none 0 0, .slice none 0 0, .slice none 0 0] 30 (0, 0))) Emp)))))) (fun i _ => 65536 - (intOf i).toNat)
      case atStart => exact ⟨.slice none 0 0, [], y2, b2, by simp, rfl, Lib.hid (Many.start _ _ _ _), H3⟩
      case round =>
        clear H3
        obtain ⟨u, l, ys, b, hl, rfl, HMN, HO⟩ := hrel
        obtain ⟨ko, kcc, rfl⟩ := rowg_shape HO.out.snd
        have hb := rr_bad HO.out
        obtain ⟨k, hk⟩ : ∃ k, k = l.length := ⟨_, rfl⟩
        have HML := Lib.hid hk
        have HLL : Hid (l.length ≤ 65535) := Lib.hid hl
        have hk5 : k ≤ 65535 := by rw [hk]; exact hl
        rw [← hk]
        clear hk hl
        by_cases hlt : k < c
        · have hltI : (k : Int) < (c : Int) := by omega
          skip
          cases b with
          | true =>
            go_wp2_with fail
            go_meet
            exact ⟨_, l, ys, true, HLL.out, HMN.out.done (.inl rfl), HO⟩
          | false =>
            go_upto_region 11 with fail
            clear hb hltI
            have HOd := Lib.hid HO.out.drew
            refine anyG.start (fun w' => w'.cell? ⟨nb, 3, none⟩ = some (.slice ko k kcc)) [7] (by kernel_rfl) ?_ (fun hHeld => ?_)
            · exact by rw [HML.out]; exact blk_cell HOd.out.snd.snd.held 3 rfl
            refine anyG.take [] (i := 0) (oi := ?_) (v := ?_) ?_ (by kernel_rfl) (by kernel_rfl) (by kernel_rfl) (by kernel_rfl) (by kernel_rfl) (by kernel_rfl) ?_ (Or.inl ⟨?_, ?_⟩) (by assumption) ?_
            rotate_left 2
            · (simp only [List.getElem?_toArray, List.getElem?_cons_zero]; rfl)
            · exact fun _ _ _ h => h
            · rfl
            · (intro w hSw; (try dsimp only at hSw); go_simp <;> with_reducible rfl)
            (try simp only [Act.put, List.setIfInBounds_toArray, List.set_cons_zero, List.set_cons_succ])
            refine anyG.take [] (i := 1) (oi := ?_) (v := ?_) ?_ (by kernel_rfl) (by kernel_rfl) (by kernel_rfl) (by kernel_rfl) (by kernel_rfl) (by kernel_rfl) ?_ (Or.inl ⟨?_, ?_⟩) (by assumption) ?_
            rotate_left 2
            · (simp only [List.getElem?_toArray, List.getElem?_cons_succ, List.getElem?_cons_zero]; rfl)
            · exact fun _ _ _ h => h
            · rfl
            · (intro w hSw; (try dsimp only at hSw); go_simp <;> with_reducible rfl)
            (try simp only [Act.put, List.setIfInBounds_toArray, List.set_cons_zero, List.set_cons_succ])
            refine anyG.take [] (i := 2) (oi := ?_) (v := ?_) ?_ (by kernel_rfl) (by kernel_rfl) (by kernel_rfl) (by kernel_rfl) (by kernel_rfl) (by kernel_rfl) ?_ (Or.inl ⟨?_, ?_⟩) (by assumption) ?_
            rotate_left 2
            · (simp only [List.getElem?_toArray, List.getElem?_cons_succ, List.getElem?_cons_zero]; rfl)
            · exact fun _ _ _ h => h
            · rfl
            · (intro w hSw; (try dsimp only at hSw); go_simp <;> with_reducible rfl)
            (try simp only [Act.put, List.setIfInBounds_toArray, List.set_cons_zero, List.set_cons_succ])
            refine anyG.ready (rs := [3]) (by kernel_rfl) (by simp) (AllG.early (o := ?o3_8) ?h3_8 (fun K hK => ?s3_8) AllG.nil)
            case h3_8 => (simp only [List.getElem?_toArray, List.getElem?_cons_succ, List.getElem?_cons_zero]; rfl)
            case' s3_8 =>
              (go_simp; refine (rr_num HS.out HOd.out 8 (by decide)).mono ?_; rintro r wb ⟨x, zs, bb, rfl, hx, hr, h4⟩; have HMS := Lib.hid (HMN.out.step (by have := HML.out; omega) (hr.bind (Rd.ret _ _ _) : Rd pKid ys false (x : Int) zs bb)); have H4 := Lib.hid (h4.ac (by ac_rfl : _ = Sep (RowG 39 (.slice ko l.length kcc) l) (Sep (RIn (.slice ao m cap) bs pi zs bb) (Sep (Blk nb (.cells #[.bool false, .slice none 0 0, .slice none 0 0, (.slice ko l.length kcc), .slice none 0 0] 30 (0, 0))) (Sep (Blk rb (.cells #[.bool false, .slice none 0 0, .slice none 0 0, .slice none 0 0, .slice none 0 0] 30 (0, 0))) Emp))))); clear h4 HOd HO)
              refine hK.out _ _ ?_ (fun hHeld => ?_)
              · exact by rw [HML.out]; exact blk_cell H4.out.snd.snd.held 3 rfl
              clear hK K
              (try simp only [Act.put, List.setIfInBounds_toArray, List.set_cons_zero, List.set_cons_succ])
              refine anyG.ready (rs := [4]) (by kernel_rfl) (by simp) (AllG.early (o := ?o4_9) ?h4_9 (fun K hK => ?s4_9) AllG.nil)
              case h4_9 => (simp only [List.getElem?_toArray, List.getElem?_cons_succ, List.getElem?_cons_zero]; rfl)
              case' s4_9 =>
                go_simp
                refine hK.out _ _ ?_ (fun hHeld => ?_)
                · exact by rw [HML.out]; exact blk_cell (H4.out.alloc _).snd.snd.snd.held 3 rfl
                clear hK K
                (try simp only [Act.put, List.setIfInBounds_toArray, List.set_cons_zero, List.set_cons_succ])
                refine anyG.ready (rs := [5]) (by kernel_rfl) (by simp) (AllG.early (o := ?o5_10) ?h5_10 (fun K hK => ?s5_10) AllG.nil)
                case h5_10 => (simp only [List.getElem?_toArray, List.getElem?_cons_succ, List.getElem?_cons_zero]; rfl)
                case' s5_10 =>
                  (refine step_appendG elNu H4.out (x : Int) 1 (by have := HML.out; omega) (by have := HML.out; omega) rfl (.tmp 41) (.tmp 44) rfl (by rw [← HML.out]; first | rfl | simp [Act.eval]) #[.int .u64 (x : Int)] rfl (by first | rfl | simp [Act.eval]) ?_; intro g2 cap2 n2 w5 hn2 hown; have HN2 := Lib.hid hn2.out; have H5 := Lib.hid hown.out; have hn25 : n2 = k + 1 := (by have h1 := HN2.out; (try simp only [List.length_append, List.length_cons, List.length_nil] at h1); have := HML.out; omega); subst hn25; clear hown hn2 H4)
                  refine hK.out _ _ ?_ (fun hHeld => ?_)
                  · exact by rw [HML.out]; exact blk_cell H5.out.snd.snd.held 3 rfl
                  clear hK K
                  (try simp only [Act.put, List.setIfInBounds_toArray, List.set_cons_zero, List.set_cons_succ])
                  refine anyG.take [] (i := 6) (oi := ?_) (v := ?_) ?_ (by kernel_rfl) (by kernel_rfl) (by kernel_rfl) (by kernel_rfl) (by kernel_rfl) (by kernel_rfl) ?_ (Or.inl ⟨?_, ?_⟩) (by assumption) ?_
                  rotate_left 2
                  · (simp only [List.getElem?_toArray, List.getElem?_cons_succ, List.getElem?_cons_zero]; rfl)
                  · exact fun _ _ _ h => h
                  · rfl
                  · (intro w hSw; (try dsimp only at hSw); go_simp <;> with_reducible rfl)
                  (try simp only [Act.put, List.setIfInBounds_toArray, List.set_cons_zero, List.set_cons_succ])
                  have e3 := blk_cell H5.out.snd.snd.held 3 rfl
                  have q3 := blk_free H5.out.snd.snd.held 3
                  have H6 := Lib.hid ((H5.out.ac (by ac_rfl : _ = Sep (Blk nb (.cells #[.bool false, .slice none 0 0, .slice none 0 0, (.slice ko l.length kcc), .slice none 0 0] 30 (0, 0))) (Sep (RowG 39 (.slice (some ⟨g2, 0, none⟩) (k + 1) cap2) (l ++ [(x : Int)])) (Sep (RIn (.slice ao m cap) bs pi zs bb) (Sep (Blk rb (.cells #[.bool false, .slice none 0 0, .slice none 0 0, .slice none 0 0, .slice none 0 0] 30 (0, 0))) Emp))))).store 3 (.slice (some ⟨g2, 0, none⟩) (k + 1) cap2))
                  refine anyG.ready (rs := [7]) (by kernel_rfl) (by simp) (AllG.late (o := ?o7_11) ?h7_11 (by kernel_rfl) (of_decide_eq_true (by kernel_rfl)) (fun K hK => ?s7_11) AllG.nil)
                  case h7_11 => (simp only [List.getElem?_toArray, List.getElem?_cons_succ, List.getElem?_cons_zero]; rfl)
                  case' s7_11 =>
                    go_simp
                    refine hK.out _ _ ?_
                    clear hK K
                    (try simp only [Act.put, List.setIfInBounds_toArray, List.set_cons_zero, List.set_cons_succ])
                    refine anyG.done (by kernel_rfl) ?_
                    clear e3 q3 H5
                    generalize w5.setCell _ _ = w6 at *
                    have H7 := Lib.hid (H6.out.ac (by simp only [List.setIfInBounds_toArray, List.set_cons_zero, List.set_cons_succ]; ac_rfl : _ = Sep (RIn (.slice ao m cap) bs pi zs bb) (Sep (RowG 39 (.slice (some ⟨g2, 0, none⟩) (k + 1) cap2) (l ++ [(x : Int)])) (Sep (Blk nb (.cells #[.bool false, .slice none 0 0, .slice none 0 0, (.slice (some ⟨g2, 0, none⟩) (k + 1) cap2), .slice none 0 0] 30 (0, 0))) (Sep (Blk rb (.cells #[.bool false, .slice none 0 0, .slice none 0 0, .slice none 0 0, .slice none 0 0] 30 (0, 0))) Emp)))))
                    clear H6
                    go_wp2_with fail
                    go_roundw
                    case rel => exact ⟨_, l ++ [(x : Int)], zs, bb, by simp only [List.length_append, List.length_cons, List.length_nil]; have := HML.out; omega, by rw [List.length_append, ← HML.out]; go_num, HMS, H7⟩
                    case measure => simp [intOf]; omega
        · have hltI : ¬ (k : Int) < (c : Int) := by omega
          go_wp2_with fail
          go_meet
          exact ⟨_, l, ys, b, HLL.out, HMN.out.done (.inr (by have := HML.out; omega)), HO⟩
    case rest =>
      obtain ⟨u, lk, y3, b3, hlk, HR3, HO⟩ := hcut
      obtain ⟨w4, hw4⟩ : ∃ W, W = wc := ⟨wc, rfl⟩
      subst hw4
      obtain ⟨KO, KC, rfl⟩ := rowg_shape HO.out.snd
      have HLK := Lib.hid hlk
      have H4 := Lib.hid ((HO.out.row_nil 9 (Cel.size ByteArray)).ac (by ac_rfl : _ = Sep (RIn (.slice ao m cap) bs pi y3 b3) (Sep (RowV 9 (Cel.size ByteArray) (.slice none 0 0) 0 []) (Sep (Blk nb (.cells #[.bool false, .slice none 0 0, .slice none 0 0, (.slice KO lk.length KC), .slice none 0 0] 30 (0, 0))) (Sep (RowG 39 (.slice KO lk.length KC) lk) (Sep (Blk rb (.cells #[.bool false, .slice none 0 0, .slice none 0 0, .slice none 0 0, .slice none 0 0] 30 (0, 0))) Emp))))))
      clear hlk HO H3
      go_upto_region 12 with fail
      go_upto_block 2 with fail
      go_cut [8] (fun _ wx => ∃ (u : Value) (l : List ByteArray) (ys : List UInt8) (b : Bool), (l.length ≤ 65535) ∧ Hid (Rd (pMany pText (c - 1)) y3 b3 l ys b) ∧ Hid (Own w wx (Sep (RIn (.slice ao m cap) bs pi ys b) (Sep (RowG 9 u l) (Sep (Blk nb (.cells #[.bool false, .slice none 0 0, u, (.slice KO lk.length KC), .slice none 0 0] 30 (0, 0))) (Sep (RowG 39 (.slice KO lk.length KC) lk) (Sep (Blk rb (.cells #[.bool false, .slice none 0 0, .slice none 0 0, .slice none 0 0, .slice none 0 0] 30 (0, 0))) Emp)))))))
      case first =>
        go_wp2_with fail
        go_loopw [8] (fun i wr => ∃ (u : Value) (l : List ByteArray) (ys : List UInt8) (b : Bool), (l.length ≤ 65535) ∧ i = .int .i64 (l.length : Int) ∧ Hid (Many pText (c - 1) y3 b3 l ys b) ∧ Hid (Own w wr (Sep (RIn (.slice ao m cap) bs pi ys b) (Sep (RowG 9 u l) (Sep (Blk nb (.cells #[.bool false, .slice none 0 0, u, (.slice KO lk.length KC), .slice none 0 0] 30 (0, 0))) (Sep (RowG 39 (.slice KO lk.length KC) lk) (Sep (Blk rb (.cells #[.bool false, .slice none 0 0, .slice none 0 0, .slice none 0 0, .slice none 0 0] 30 (0, 0))) Emp))))))) (fun i _ => 65536 - (intOf i).toNat)
        case atStart => exact ⟨.slice none 0 0, [], y3, b3, by simp, rfl, Lib.hid (Many.start _ _ _ _), H4⟩
        case round =>
          clear H4
          obtain ⟨u, l, ys, b, hl, rfl, HMN, HO⟩ := hrel
          obtain ⟨ko, kcc, rfl⟩ := rowg_shape HO.out.snd
          have hb := rr_bad HO.out
          obtain ⟨k, hk⟩ : ∃ k, k = l.length := ⟨_, rfl⟩
          have HML := Lib.hid hk
          have HLL : Hid (l.length ≤ 65535) := Lib.hid hl
          have hk5 : k ≤ 65535 := by rw [hk]; exact hl
          rw [← hk]
          clear hk hl
          by_cases hlt : k < (c - 1)
          · have hltI : (k : Int) + 1 < (c : Int) := by omega
            skip
            cases b with
            | true =>
              go_wp2_with fail
              go_meet
              exact ⟨_, l, ys, true, HLL.out, HMN.out.done (.inl rfl), HO⟩
            | false =>
              go_upto_region 15 with fail
              clear hb hltI
              have HOd := Lib.hid HO.out.drew
              refine anyG.start (fun w' => w'.cell? ⟨nb, 2, none⟩ = some (.slice ko k kcc)) [7] (by kernel_rfl) ?_ (fun hHeld => ?_)
              · exact by rw [HML.out]; exact blk_cell HOd.out.snd.snd.held 2 rfl
              refine anyG.take [] (i := 0) (oi := ?_) (v := ?_) ?_ (by kernel_rfl) (by kernel_rfl) (by kernel_rfl) (by kernel_rfl) (by kernel_rfl) (by kernel_rfl) ?_ (Or.inl ⟨?_, ?_⟩) (by assumption) ?_
              rotate_left 2
              · (simp only [List.getElem?_toArray, List.getElem?_cons_zero]; rfl)
              · exact fun _ _ _ h => h
              · rfl
              · (intro w hSw; (try dsimp only at hSw); go_simp <;> with_reducible rfl)
              (try simp only [Act.put, List.setIfInBounds_toArray, List.set_cons_zero, List.set_cons_succ])
              refine anyG.take [] (i := 1) (oi := ?_) (v := ?_) ?_ (by kernel_rfl) (by kernel_rfl) (by kernel_rfl) (by kernel_rfl) (by kernel_rfl) (by kernel_rfl) ?_ (Or.inl ⟨?_, ?_⟩) (by assumption) ?_
              rotate_left 2
              · (simp only [List.getElem?_toArray, List.getElem?_cons_succ, List.getElem?_cons_zero]; rfl)
              · exact fun _ _ _ h => h
              · rfl
              · (intro w hSw; (try dsimp only at hSw); go_simp <;> with_reducible rfl)
              (try simp only [Act.put, List.setIfInBounds_toArray, List.set_cons_zero, List.set_cons_succ])
              refine anyG.take [] (i := 2) (oi := ?_) (v := ?_) ?_ (by kernel_rfl) (by kernel_rfl) (by kernel_rfl) (by kernel_rfl) (by kernel_rfl) (by kernel_rfl) ?_ (Or.inl ⟨?_, ?_⟩) (by assumption) ?_
              rotate_left 2
              · (simp only [List.getElem?_toArray, List.getElem?_cons_succ, List.getElem?_cons_zero]; rfl)
              · exact fun _ _ _ h => h
              · rfl
              · (intro w hSw; (try dsimp only at hSw); go_simp <;> with_reducible rfl)
              (try simp only [Act.put, List.setIfInBounds_toArray, List.set_cons_zero, List.set_cons_succ])
              refine anyG.ready (rs := [3]) (by kernel_rfl) (by simp) (AllG.early (o := ?o3_12) ?h3_12 (fun K hK => ?s3_12) AllG.nil)
              case h3_12 => (simp only [List.getElem?_toArray, List.getElem?_cons_succ, List.getElem?_cons_zero]; rfl)
              case' s3_12 =>
                (go_simp; refine (rr_text HS.out HOd.out).mono ?_; rintro r wb ⟨x, zs, bb, rfl, hr, h4⟩; have HMS := Lib.hid (HMN.out.step (by have := HML.out; omega) (hr : Rd pText ys false x zs bb)); have H4 := Lib.hid (h4.ac (by ac_rfl : _ = Sep (RowG 9 (.slice ko l.length kcc) l) (Sep (RIn (.slice ao m cap) bs pi zs bb) (Sep (Blk nb (.cells #[.bool false, .slice none 0 0, (.slice ko l.length kcc), (.slice KO lk.length KC), .slice none 0 0] 30 (0, 0))) (Sep (RowG 39 (.slice KO lk.length KC) lk) (Sep (Blk rb (.cells #[.bool false, .slice none 0 0, .slice none 0 0, .slice none 0 0, .slice none 0 0] 30 (0, 0))) Emp)))))); clear h4 HOd HO)
                refine hK.out _ _ ?_ (fun hHeld => ?_)
                · exact by rw [HML.out]; exact blk_cell H4.out.snd.snd.held 2 rfl
                clear hK K
                (try simp only [Act.put, List.setIfInBounds_toArray, List.set_cons_zero, List.set_cons_succ])
                refine anyG.ready (rs := [4]) (by kernel_rfl) (by simp) (AllG.early (o := ?o4_13) ?h4_13 (fun K hK => ?s4_13) AllG.nil)
                case h4_13 => (simp only [List.getElem?_toArray, List.getElem?_cons_succ, List.getElem?_cons_zero]; rfl)
                case' s4_13 =>
                  go_simp
                  refine hK.out _ _ ?_ (fun hHeld => ?_)
                  · exact by rw [HML.out]; exact blk_cell (H4.out.alloc _).snd.snd.snd.held 2 rfl
                  clear hK K
                  (try simp only [Act.put, List.setIfInBounds_toArray, List.set_cons_zero, List.set_cons_succ])
                  refine anyG.ready (rs := [5]) (by kernel_rfl) (by simp) (AllG.early (o := ?o5_14) ?h5_14 (fun K hK => ?s5_14) AllG.nil)
                  case h5_14 => (simp only [List.getElem?_toArray, List.getElem?_cons_succ, List.getElem?_cons_zero]; rfl)
                  case' s5_14 =>
                    (refine step_appendG elSt H4.out x 1 (by have := HML.out; omega) (by have := HML.out; omega) rfl (.tmp 61) (.tmp 64) rfl (by rw [← HML.out]; first | rfl | simp [Act.eval]) #[.string x] rfl (by first | rfl | simp [Act.eval]) ?_; intro g2 cap2 n2 w5 hn2 hown; have HN2 := Lib.hid hn2.out; have H5 := Lib.hid hown.out; have hn25 : n2 = k + 1 := (by have h1 := HN2.out; (try simp only [List.length_append, List.length_cons, List.length_nil] at h1); have := HML.out; omega); subst hn25; clear hown hn2 H4)
                    refine hK.out _ _ ?_ (fun hHeld => ?_)
                    · exact by rw [HML.out]; exact blk_cell H5.out.snd.snd.held 2 rfl
                    clear hK K
                    (try simp only [Act.put, List.setIfInBounds_toArray, List.set_cons_zero, List.set_cons_succ])
                    refine anyG.take [] (i := 6) (oi := ?_) (v := ?_) ?_ (by kernel_rfl) (by kernel_rfl) (by kernel_rfl) (by kernel_rfl) (by kernel_rfl) (by kernel_rfl) ?_ (Or.inl ⟨?_, ?_⟩) (by assumption) ?_
                    rotate_left 2
                    · (simp only [List.getElem?_toArray, List.getElem?_cons_succ, List.getElem?_cons_zero]; rfl)
                    · exact fun _ _ _ h => h
                    · rfl
                    · (intro w hSw; (try dsimp only at hSw); go_simp <;> with_reducible rfl)
                    (try simp only [Act.put, List.setIfInBounds_toArray, List.set_cons_zero, List.set_cons_succ])
                    have e3 := blk_cell H5.out.snd.snd.held 2 rfl
                    have q3 := blk_free H5.out.snd.snd.held 2
                    have H6 := Lib.hid ((H5.out.ac (by ac_rfl : _ = Sep (Blk nb (.cells #[.bool false, .slice none 0 0, (.slice ko l.length kcc), (.slice KO lk.length KC), .slice none 0 0] 30 (0, 0))) (Sep (RowG 9 (.slice (some ⟨g2, 0, none⟩) (k + 1) cap2) (l ++ [x])) (Sep (RIn (.slice ao m cap) bs pi zs bb) (Sep (RowG 39 (.slice KO lk.length KC) lk) (Sep (Blk rb (.cells #[.bool false, .slice none 0 0, .slice none 0 0, .slice none 0 0, .slice none 0 0] 30 (0, 0))) Emp)))))).store 2 (.slice (some ⟨g2, 0, none⟩) (k + 1) cap2))
                    refine anyG.ready (rs := [7]) (by kernel_rfl) (by simp) (AllG.late (o := ?o7_15) ?h7_15 (by kernel_rfl) (of_decide_eq_true (by kernel_rfl)) (fun K hK => ?s7_15) AllG.nil)
                    case h7_15 => (simp only [List.getElem?_toArray, List.getElem?_cons_succ, List.getElem?_cons_zero]; rfl)
                    case' s7_15 =>
                      go_simp
                      refine hK.out _ _ ?_
                      clear hK K
                      (try simp only [Act.put, List.setIfInBounds_toArray, List.set_cons_zero, List.set_cons_succ])
                      refine anyG.done (by kernel_rfl) ?_
                      clear e3 q3 H5
                      generalize w5.setCell _ _ = w6 at *
                      have H7 := Lib.hid (H6.out.ac (by simp only [List.setIfInBounds_toArray, List.set_cons_zero, List.set_cons_succ]; ac_rfl : _ = Sep (RIn (.slice ao m cap) bs pi zs bb) (Sep (RowG 9 (.slice (some ⟨g2, 0, none⟩) (k + 1) cap2) (l ++ [x])) (Sep (Blk nb (.cells #[.bool false, .slice none 0 0, (.slice (some ⟨g2, 0, none⟩) (k + 1) cap2), (.slice KO lk.length KC), .slice none 0 0] 30 (0, 0))) (Sep (RowG 39 (.slice KO lk.length KC) lk) (Sep (Blk rb (.cells #[.bool false, .slice none 0 0, .slice none 0 0, .slice none 0 0, .slice none 0 0] 30 (0, 0))) Emp))))))
                      clear H6
                      go_wp2_with fail
                      go_roundw
                      case rel => exact ⟨_, l ++ [x], zs, bb, by simp only [List.length_append, List.length_cons, List.length_nil]; have := HML.out; omega, by rw [List.length_append, ← HML.out]; go_num, HMS, H7⟩
                      case measure => simp [intOf]; omega
          · have hltI : ¬ (k : Int) + 1 < (c : Int) := by omega
            go_wp2_with fail
            go_meet
            exact ⟨_, l, ys, b, HLL.out, HMN.out.done (.inr (by have := HML.out; omega)), HO⟩
      case rest =>
        obtain ⟨u, lp, y4, b4, hlp, HR4, HO⟩ := hcut
        obtain ⟨w5, hw5⟩ : ∃ W, W = wc := ⟨wc, rfl⟩
        subst hw5
        obtain ⟨PO, PC, rfl⟩ := rowg_shape HO.out.snd
        have HLP := Lib.hid hlp
        have H5 := Lib.hid (((HO.out.row_nil 55 (Cel.size Hd)).fix0 (P := BufsP [] []) BufsP.nil).ac (by ac_rfl : _ = Sep (RIn (.slice ao m cap) bs pi y4 b4) (Sep (RowV 55 (Cel.size Hd) (.slice none 0 0) 0 []) (Sep (Fix (BufsP [] [])) (Sep (Blk nb (.cells #[.bool false, .slice none 0 0, (.slice PO lp.length PC), (.slice KO lk.length KC), .slice none 0 0] 30 (0, 0))) (Sep (RowG 9 (.slice PO lp.length PC) lp) (Sep (RowG 39 (.slice KO lk.length KC) lk) (Sep (Blk rb (.cells #[.bool false, .slice none 0 0, .slice none 0 0, .slice none 0 0, .slice none 0 0] 30 (0, 0))) Emp))))))))
        clear hlp HO H4
        go_upto_region 16 with fail
        go_upto_block 4 with fail
        go_cut [9] (fun _ wx => ∃ (u : Value) (hs : List Hd) (lb : List (List Ms)) (ys : List UInt8) (b : Bool), (lb.length ≤ 65535 ∧ hs.length = lb.length) ∧ Hid (Rd (pMany pBuf c) y4 b4 lb ys b) ∧ Hid (Own w wx (Sep (RIn (.slice ao m cap) bs pi ys b) (Sep (RowG 55 u hs) (Sep (Fix (BufsP hs lb)) (Sep (Blk nb (.cells #[.bool false, .slice none 0 0, (.slice PO lp.length PC), (.slice KO lk.length KC), u] 30 (0, 0))) (Sep (RowG 9 (.slice PO lp.length PC) lp) (Sep (RowG 39 (.slice KO lk.length KC) lk) (Sep (Blk rb (.cells #[.bool false, .slice none 0 0, .slice none 0 0, .slice none 0 0, .slice none 0 0] 30 (0, 0))) Emp)))))))))
        case first =>
          go_wp2_with fail
          go_loopw [9] (fun i wr => ∃ (u : Value) (hs : List Hd) (lb : List (List Ms)) (ys : List UInt8) (b : Bool), (lb.length ≤ 65535 ∧ hs.length = lb.length) ∧ i = .int .i64 (lb.length : Int) ∧ Hid (Many pBuf c y4 b4 lb ys b) ∧ Hid (Own w wr (Sep (RIn (.slice ao m cap) bs pi ys b) (Sep (RowG 55 u hs) (Sep (Fix (BufsP hs lb)) (Sep (Blk nb (.cells #[.bool false, .slice none 0 0, (.slice PO lp.length PC), (.slice KO lk.length KC), u] 30 (0, 0))) (Sep (RowG 9 (.slice PO lp.length PC) lp) (Sep (RowG 39 (.slice KO lk.length KC) lk) (Sep (Blk rb (.cells #[.bool false, .slice none 0 0, .slice none 0 0, .slice none 0 0, .slice none 0 0] 30 (0, 0))) Emp))))))))) (fun i _ => 65536 - (intOf i).toNat)
          case atStart => exact ⟨.slice none 0 0, [], [], y4, b4, ⟨by simp, rfl⟩, rfl, Lib.hid (Many.start _ _ _ _), H5⟩
          case round =>
            clear H5
            obtain ⟨u, hs, lb, ys, b, ⟨hl, hhl⟩, rfl, HMN, HO⟩ := hrel
            obtain ⟨ko, kcc, rfl⟩ := rowg_shape HO.out.snd
            rw [hhl] at HO
            have hb := rr_bad HO.out
            obtain ⟨k, hk⟩ : ∃ k, k = lb.length := ⟨_, rfl⟩
            have HML := Lib.hid hk
            have HLL : Hid (lb.length ≤ 65535) := Lib.hid hl
            have HHL := Lib.hid hhl
            have hk5 : k ≤ 65535 := by rw [hk]; exact hl
            rw [← hk]
            clear hk hl
            by_cases hlt : k < c
            · have hltI : (k : Int) < (c : Int) := by omega
              skip
              cases b with
              | true =>
                go_wp2_with fail
                go_meet
                exact ⟨_, hs, lb, ys, true, ⟨HLL.out, HHL.out⟩, HMN.out.done (.inl rfl), HO⟩
              | false =>
                go_upto_region 19 with fail
                clear hb hltI
                have HOd := Lib.hid HO.out.drew
                refine anyG.start (fun w' => w'.cell? ⟨nb, 4, none⟩ = some (.slice ko k kcc)) [7] (by kernel_rfl) ?_ (fun hHeld => ?_)
                · exact by rw [HML.out]; exact blk_cell HOd.out.snd.snd.snd.held 4 rfl
                refine anyG.take [] (i := 0) (oi := ?_) (v := ?_) ?_ (by kernel_rfl) (by kernel_rfl) (by kernel_rfl) (by kernel_rfl) (by kernel_rfl) (by kernel_rfl) ?_ (Or.inl ⟨?_, ?_⟩) (by assumption) ?_
                rotate_left 2
                · (simp only [List.getElem?_toArray, List.getElem?_cons_zero]; rfl)
                · exact fun _ _ _ h => h
                · rfl
                · (intro w hSw; (try dsimp only at hSw); go_simp <;> with_reducible rfl)
                (try simp only [Act.put, List.setIfInBounds_toArray, List.set_cons_zero, List.set_cons_succ])
                refine anyG.take [] (i := 1) (oi := ?_) (v := ?_) ?_ (by kernel_rfl) (by kernel_rfl) (by kernel_rfl) (by kernel_rfl) (by kernel_rfl) (by kernel_rfl) ?_ (Or.inl ⟨?_, ?_⟩) (by assumption) ?_
                rotate_left 2
                · (simp only [List.getElem?_toArray, List.getElem?_cons_succ, List.getElem?_cons_zero]; rfl)
                · exact fun _ _ _ h => h
                · rfl
                · (intro w hSw; (try dsimp only at hSw); go_simp <;> with_reducible rfl)
                (try simp only [Act.put, List.setIfInBounds_toArray, List.set_cons_zero, List.set_cons_succ])
                refine anyG.take [] (i := 2) (oi := ?_) (v := ?_) ?_ (by kernel_rfl) (by kernel_rfl) (by kernel_rfl) (by kernel_rfl) (by kernel_rfl) (by kernel_rfl) ?_ (Or.inl ⟨?_, ?_⟩) (by assumption) ?_
                rotate_left 2
                · (simp only [List.getElem?_toArray, List.getElem?_cons_succ, List.getElem?_cons_zero]; rfl)
                · exact fun _ _ _ h => h
                · rfl
                · (intro w hSw; (try dsimp only at hSw); go_simp <;> with_reducible rfl)
                (try simp only [Act.put, List.setIfInBounds_toArray, List.set_cons_zero, List.set_cons_succ])
                refine anyG.ready (rs := [3]) (by kernel_rfl) (by simp) (AllG.early (o := ?o3_16) ?h3_16 (fun K hK => ?s3_16) AllG.nil)
                case h3_16 => (simp only [List.getElem?_toArray, List.getElem?_cons_succ, List.getElem?_cons_zero]; rfl)
                case' s3_16 =>
                  (go_simp; refine (qmsgs_any HS.out HOd.out).mono ?_; rintro r wb ⟨va, a, zs, bb, rfl, hla, hr, h4⟩; have HMS := Lib.hid (HMN.out.step (by have := HML.out; omega) hr); obtain ⟨ao2, cap2x, rfl, _, _, h5⟩ := h4.rowFix; obtain ⟨q, hq⟩ : ∃ q, a.length = q := ⟨_, rfl⟩; rw [hq]; have H4 := Lib.hid (((h5.ac (by ac_rfl : _ = Sep (Fix (BufsP hs lb)) (Sep (Fix fun w => SlG w ao2 a) (Sep (RowG 55 (.slice ko lb.length kcc) hs) (Sep (RIn (.slice ao m cap) bs pi zs bb) (Sep (Blk nb (.cells #[.bool false, .slice none 0 0, (.slice PO lp.length PC), (.slice KO lk.length KC), (.slice ko lb.length kcc)] 30 (0, 0))) (Sep (RowG 9 (.slice PO lp.length PC) lp) (Sep (RowG 39 (.slice KO lk.length KC) lk) (Sep (Blk rb (.cells #[.bool false, .slice none 0 0, .slice none 0 0, .slice none 0 0, .slice none 0 0] 30 (0, 0))) Emp))))))))).fix2.fixI (Q := BufsP (hs ++ [⟨ao2, q, cap2x⟩]) (lb ++ [a])) (fun w hw => by rw [← hq]; exact hw.1.snoc hw.2 hla)).ac (by ac_rfl : _ = Sep (RowG 55 (.slice ko lb.length kcc) hs) (Sep (RIn (.slice ao m cap) bs pi zs bb) (Sep (Fix (BufsP (hs ++ [⟨ao2, q, cap2x⟩]) (lb ++ [a]))) (Sep (Blk nb (.cells #[.bool false, .slice none 0 0, (.slice PO lp.length PC), (.slice KO lk.length KC), (.slice ko lb.length kcc)] 30 (0, 0))) (Sep (RowG 9 (.slice PO lp.length PC) lp) (Sep (RowG 39 (.slice KO lk.length KC) lk) (Sep (Blk rb (.cells #[.bool false, .slice none 0 0, .slice none 0 0, .slice none 0 0, .slice none 0 0] 30 (0, 0))) Emp)))))))); clear h5 hq hla; clear h4 HOd HO)
                  refine hK.out _ _ ?_ (fun hHeld => ?_)
                  · exact by rw [HML.out]; exact blk_cell H4.out.snd.snd.snd.held 4 rfl
                  clear hK K
                  (try simp only [Act.put, List.setIfInBounds_toArray, List.set_cons_zero, List.set_cons_succ])
                  refine anyG.ready (rs := [4]) (by kernel_rfl) (by simp) (AllG.early (o := ?o4_17) ?h4_17 (fun K hK => ?s4_17) AllG.nil)
                  case h4_17 => (simp only [List.getElem?_toArray, List.getElem?_cons_succ, List.getElem?_cons_zero]; rfl)
                  case' s4_17 =>
                    go_simp
                    refine hK.out _ _ ?_ (fun hHeld => ?_)
                    · exact by rw [HML.out]; exact blk_cell (H4.out.alloc _).snd.snd.snd.snd.held 4 rfl
                    clear hK K
                    (try simp only [Act.put, List.setIfInBounds_toArray, List.set_cons_zero, List.set_cons_succ])
                    refine anyG.ready (rs := [5]) (by kernel_rfl) (by simp) (AllG.early (o := ?o5_18) ?h5_18 (fun K hK => ?s5_18) AllG.nil)
                    case h5_18 => (simp only [List.getElem?_toArray, List.getElem?_cons_succ, List.getElem?_cons_zero]; rfl)
                    case' s5_18 =>
                      (refine step_appendG elHd H4.out ⟨ao2, q, cap2x⟩ 1 (by have := HML.out; have := HHL.out; omega) (by have := HML.out; have := HHL.out; omega) rfl (.tmp 80) (.tmp 83) rfl (by rw [← HML.out]; first | rfl | simp [Act.eval]) #[.slice ao2 q cap2x] rfl (by first | rfl | simp [Act.eval]) ?_; intro g2 cap2 n2 w5 hn2 hown; have HN2 := Lib.hid hn2.out; have H5 := Lib.hid hown.out; have hn25 : n2 = k + 1 := (by have h1 := HN2.out; (try simp only [List.length_append, List.length_cons, List.length_nil] at h1); have := HML.out; have := HHL.out; omega); subst hn25; clear hown hn2 H4)
                      refine hK.out _ _ ?_ (fun hHeld => ?_)
                      · exact by rw [HML.out]; exact blk_cell H5.out.snd.snd.snd.held 4 rfl
                      clear hK K
                      (try simp only [Act.put, List.setIfInBounds_toArray, List.set_cons_zero, List.set_cons_succ])
                      refine anyG.take [] (i := 6) (oi := ?_) (v := ?_) ?_ (by kernel_rfl) (by kernel_rfl) (by kernel_rfl) (by kernel_rfl) (by kernel_rfl) (by kernel_rfl) ?_ (Or.inl ⟨?_, ?_⟩) (by assumption) ?_
                      rotate_left 2
                      · (simp only [List.getElem?_toArray, List.getElem?_cons_succ, List.getElem?_cons_zero]; rfl)
                      · exact fun _ _ _ h => h
                      · rfl
                      · (intro w hSw; (try dsimp only at hSw); go_simp <;> with_reducible rfl)
                      (try simp only [Act.put, List.setIfInBounds_toArray, List.set_cons_zero, List.set_cons_succ])
                      have e3 := blk_cell H5.out.snd.snd.snd.held 4 rfl
                      have q3 := blk_free H5.out.snd.snd.snd.held 4
                      have H6 := Lib.hid ((H5.out.ac (by ac_rfl : _ = Sep (Blk nb (.cells #[.bool false, .slice none 0 0, (.slice PO lp.length PC), (.slice KO lk.length KC), (.slice ko lb.length kcc)] 30 (0, 0))) (Sep (RowG 55 (.slice (some ⟨g2, 0, none⟩) (k + 1) cap2) (hs ++ [⟨ao2, q, cap2x⟩])) (Sep (RIn (.slice ao m cap) bs pi zs bb) (Sep (Fix (BufsP (hs ++ [⟨ao2, q, cap2x⟩]) (lb ++ [a]))) (Sep (RowG 9 (.slice PO lp.length PC) lp) (Sep (RowG 39 (.slice KO lk.length KC) lk) (Sep (Blk rb (.cells #[.bool false, .slice none 0 0, .slice none 0 0, .slice none 0 0, .slice none 0 0] 30 (0, 0))) Emp)))))))).store 4 (.slice (some ⟨g2, 0, none⟩) (k + 1) cap2))
                      refine anyG.ready (rs := [7]) (by kernel_rfl) (by simp) (AllG.late (o := ?o7_19) ?h7_19 (by kernel_rfl) (of_decide_eq_true (by kernel_rfl)) (fun K hK => ?s7_19) AllG.nil)
                      case h7_19 => (simp only [List.getElem?_toArray, List.getElem?_cons_succ, List.getElem?_cons_zero]; rfl)
                      case' s7_19 =>
                        go_simp
                        refine hK.out _ _ ?_
                        clear hK K
                        (try simp only [Act.put, List.setIfInBounds_toArray, List.set_cons_zero, List.set_cons_succ])
                        refine anyG.done (by kernel_rfl) ?_
                        clear e3 q3 H5
                        generalize w5.setCell _ _ = w6 at *
                        have H7 := Lib.hid (H6.out.ac (by simp only [List.setIfInBounds_toArray, List.set_cons_zero, List.set_cons_succ]; ac_rfl : _ = Sep (RIn (.slice ao m cap) bs pi zs bb) (Sep (RowG 55 (.slice (some ⟨g2, 0, none⟩) (k + 1) cap2) (hs ++ [⟨ao2, q, cap2x⟩])) (Sep (Fix (BufsP (hs ++ [⟨ao2, q, cap2x⟩]) (lb ++ [a]))) (Sep (Blk nb (.cells #[.bool false, .slice none 0 0, (.slice PO lp.length PC), (.slice KO lk.length KC), (.slice (some ⟨g2, 0, none⟩) (k + 1) cap2)] 30 (0, 0))) (Sep (RowG 9 (.slice PO lp.length PC) lp) (Sep (RowG 39 (.slice KO lk.length KC) lk) (Sep (Blk rb (.cells #[.bool false, .slice none 0 0, .slice none 0 0, .slice none 0 0, .slice none 0 0] 30 (0, 0))) Emp))))))))
                        clear H6
                        go_wp2_with fail
                        go_roundw
                        case rel => exact ⟨_, hs ++ [⟨ao2, q, cap2x⟩], lb ++ [a], zs, bb, ⟨by simp only [List.length_append, List.length_cons, List.length_nil]; have := HML.out; omega, by simp only [List.length_append, List.length_cons, List.length_nil, HHL.out]⟩, by rw [List.length_append, ← HML.out]; go_num, HMS, H7⟩
                        case measure => simp [intOf]; omega
            · have hltI : ¬ (k : Int) < (c : Int) := by omega
              go_wp2_with fail
              go_meet
              exact ⟨_, hs, lb, ys, b, ⟨HLL.out, HHL.out⟩, HMN.out.done (.inr (by have := HML.out; omega)), HO⟩
        case rest =>
          obtain ⟨u, hs, lb, ys, b, ⟨hlb, hhl⟩, HR5, HO0⟩ := hcut
          obtain ⟨w4, hw4⟩ : ∃ W, W = wc := ⟨wc, rfl⟩
          subst hw4
          obtain ⟨BO, BC, rfl⟩ := rowg_shape HO0.out.snd
          rw [hhl] at HO0
          have HLB := Lib.hid hlb
          clear hlb hhl H5
          have HRD0 := HR5
          obtain ⟨H, n, hs, HZ, HRD, HO⟩ : ∃ (H : Nh) (n : Nd) (hs : List Hd), Hid (NdS n) ∧ Hid (Rd pNode bs false n ys b) ∧ Hid (Own w w4 (Sep (RIn (.slice ao m cap) bs pi ys b) (Sep (Blk nb (.cells (ndc H n) 30 (0, 0))) (Sep (NodR H n hs) (Sep (Blk rb (.cells #[.bool false, .slice none 0 0, .slice none 0 0, .slice none 0 0, .slice none 0 0] 30 (0, 0))) Emp))))) := by
            refine ⟨⟨none, 0, PO, PC, KO, KC, BO, BC⟩, ⟨false, [], lp, lk, lb⟩, hs, Lib.hid ⟨by simp, HLP.out, HLK.out, HLB.out⟩, Lib.hid ?_, Lib.hid ?_⟩
            · have e : pNode = pBind pFlag fun leaf => if leaf = true then pLeaf else pInner := rfl
              rw [e]
              exact HR1.out.bind (q := fun leaf => if leaf = true then pLeaf else pInner) (HR2.out.bind (HR3.out.bind (HR4.out.bind (HR5.out.bind (Rd.ret _ _ _)))))
            · have h1 := HO0.out.row_nil 41 (Cel.size En)
              exact (h1.ac (by ac_rfl) : Own w w4 (Sep (RIn (.slice ao m cap) bs pi ys b) (Sep (Blk nb (.cells (ndc ⟨none, 0, PO, PC, KO, KC, BO, BC⟩ ⟨false, [], lp, lk, lb⟩) 30 (0, 0))) (Sep (Sep (RowV 41 (Cel.size En) (.slice none 0 0) 0 []) (Sep (RowG 9 (.slice PO lp.length PC) lp) (Sep (RowG 39 (.slice KO lk.length KC) lk) (Sep (RowG 55 (.slice BO lb.length BC) hs) (Fix (BufsP hs lb)))))) (Sep (Blk rb (.cells #[.bool false, .slice none 0 0, .slice none 0 0, .slice none 0 0, .slice none 0 0] 30 (0, 0))) Emp)))))
          clear HRD0 HO0
          obtain ⟨c0, c1, c2, c3, c4⟩ := nod_cells HO.out.snd.held
          have HND := Lib.hid (ndw_of HO.out HZ.out)
          have HDN := Lib.hid (rr_done HS.out HO.out)
          have HD := Lib.hid (decN_of HRD.out (by have := HM.out; omega))
          have HEN := Lib.hid (fun e => rd_end HRD.out e)
          obtain ⟨d, hd⟩ : ∃ d, (!b && ys.isEmpty) = d := ⟨_, rfl⟩
          rw [hd] at HDN HD HEN
          clear hd
          cases d with
          | false =>
            have HD0 : Hid (decN bs = none) := Lib.hid (by rw [HD.out]; rfl)
            clear HD HND HZ HRD HEN
            go_wp2_with fail
            refine HDN.out.mono ?_
            rintro r wa ⟨rfl, ho⟩
            have HO1 := Lib.hid ho
            clear ho HDN HO c0 c1 c2 c3 c4
            have HOX := Lib.hid (HO1.out.ac (by ac_rfl : _ = Sep (Blk rb (.cells #[.bool false, .slice none 0 0, .slice none 0 0, .slice none 0 0, .slice none 0 0] 30 (0, 0))) (Sep (RIn (.slice ao m cap) bs pi ys b) (Sep (Blk nb (.cells (ndc H n) 30 (0, 0))) (Sep (NodR H n hs) Emp)))))
            clear HO1
            obtain ⟨e0, e1, e2, e3, e4⟩ := blk5c HOX.out.held
            have q0 := blk_free HOX.out.held 0
            have q1 := blk_free HOX.out.held 1
            have q2 := blk_free HOX.out.held 2
            have q3 := blk_free HOX.out.held 3
            have q4 := blk_free HOX.out.held 4
            have HS8 := Lib.hid (own_set5 HOX.out (.bool false) (.slice none 0 0) (.slice none 0 0) (.slice none 0 0) (.slice none 0 0))
            go_wp2_with fail
            generalize World.setCell (World.setCell (World.setCell (World.setCell (World.setCell _ _ _) _ _) _ _) _ _) _ _ = w8 at *
            clear e0 e1 e2 e3 e4 q0 q1 q2 q3 q4
            obtain ⟨e0, e1, e2, e3, e4⟩ := blk5c HS8.out.held
            refine bodyPost_ret (v := .tuple #[nd0, .int .i64 2]) (by simp [results, Tryz.results7, go_sem, e0, e1, e2, e3, e4]) rfl ?_
            exact .inr ⟨HD0.out, rfl, HS8.out.only⟩
          | true =>
            have HR := Lib.hid (fun W (ho : NdAt W H n) => qright_any H n W ho)
            obtain ⟨rg, hrg⟩ : ∃ rg, rightB n = rg := ⟨_, rfl⟩
            have HRG := Lib.hid hrg
            rw [hrg] at HR
            have HDR : Hid (decN bs = if rg = true then some n else none) := Lib.hid (by rw [HD.out, if_pos rfl, hrg])
            have HNW := Lib.hid (HEN.out rfl).1
            have HEE := Lib.hid (HEN.out rfl).2
            clear HD HND hrg HEN HRD
            go_wp2_with fail
            refine HDN.out.mono ?_
            rintro r wa ⟨rfl, ho⟩
            have HO1 := Lib.hid ho
            clear ho HDN HO c0 c1 c2 c3 c4
            obtain ⟨c0, c1, c2, c3, c4⟩ := nod_cells HO1.out.snd.held
            have HND := Lib.hid (ndw_of HO1.out HZ.out)
            cases rg with
            | false =>
              have HD0 : Hid (decN bs = none) := Lib.hid (by rw [HDR.out]; rfl)
              go_wp2_with fail
              refine (HR.out _ HND.out).mono ?_
              rintro r wb ⟨rfl, ho⟩
              have HO1 := Lib.hid (HO1.out.quiet ho)
              clear ho HR HND c0 c1 c2 c3 c4 HDR HRG HNW HEE HZ
              have HOX := Lib.hid (HO1.out.ac (by ac_rfl : _ = Sep (Blk rb (.cells #[.bool false, .slice none 0 0, .slice none 0 0, .slice none 0 0, .slice none 0 0] 30 (0, 0))) (Sep (RIn (.slice ao m cap) bs pi ys b) (Sep (Blk nb (.cells (ndc H n) 30 (0, 0))) (Sep (NodR H n hs) Emp)))))
              clear HO1
              obtain ⟨e0, e1, e2, e3, e4⟩ := blk5c HOX.out.held
              have q0 := blk_free HOX.out.held 0
              have q1 := blk_free HOX.out.held 1
              have q2 := blk_free HOX.out.held 2
              have q3 := blk_free HOX.out.held 3
              have q4 := blk_free HOX.out.held 4
              have HS8 := Lib.hid (own_set5 HOX.out (.bool false) (.slice none 0 0) (.slice none 0 0) (.slice none 0 0) (.slice none 0 0))
              go_wp2_with fail
              generalize World.setCell (World.setCell (World.setCell (World.setCell (World.setCell _ _ _) _ _) _ _) _ _) _ _ = w8 at *
              clear e0 e1 e2 e3 e4 q0 q1 q2 q3 q4
              obtain ⟨e0, e1, e2, e3, e4⟩ := blk5c HS8.out.held
              refine bodyPost_ret (v := .tuple #[nd0, .int .i64 2]) (by simp [results, Tryz.results7, go_sem, e0, e1, e2, e3, e4]) rfl ?_
              exact .inr ⟨HD0.out, rfl, HS8.out.only⟩
            | true =>
              have HD0 : Hid (decN bs = some n) := Lib.hid (by rw [HDR.out]; rfl)
              have HQB := Lib.hid (fun W (ho : NdAt W H n) => qbytes_any H n W ho HRG.out HNW.out)
              go_wp2_with fail
              refine (HR.out _ HND.out).mono ?_
              rintro r wb ⟨rfl, ho⟩
              have HO2 := Lib.hid (HO1.out.quiet ho)
              clear ho HR HND c0 c1 c2 c3 c4 HDR HRG HNW HO1
              obtain ⟨c0, c1, c2, c3, c4⟩ := nod_cells HO2.out.snd.held
              have HND := Lib.hid (ndw_of HO2.out HZ.out)
              go_wp2_with fail
              refine (HQB.out _ HND.out).mono ?_
              rintro r wc ⟨vv, rfl, ho⟩
              have HO3 := Lib.hid (HO2.out.joinZ ho)
              have HSV : Hid (SlC wc vv (encN n)) := Lib.hid (by obtain ⟨F, hF, _⟩ := ho; exact (own_toB hF.1).toC)
              have HSB : Hid (SlC wc (.slice ao m cap) bs) := Lib.hid (HS.out.sl.keep HO3.out.only (fun _ _ _ h => h)).1
              rw [HEE.out] at HSV
              have hbb : (bs == bs) = true := by simp
              clear ho HQB HND HO2 c0 c1 c2 c3 c4
              have HBY := Lib.hid (bytes_any vv (.slice ao m cap) bs bs wc HSV.out HSB.out)
              rw [hbb] at HBY
              clear hbb
              obtain ⟨c0, c1, c2, c3, c4⟩ := nod_cells HO3.out.snd.snd.held
              go_wp2_with fail
              refine HBY.out.mono ?_
              rintro r wd ⟨rfl, rfl⟩
              have HOX := Lib.hid (HO3.out.snd.snd.ac (by ac_rfl : _ = Sep (Blk rb (.cells #[.bool false, .slice none 0 0, .slice none 0 0, .slice none 0 0, .slice none 0 0] 30 (0, 0))) (Sep (Blk nb (.cells (ndc H n) 30 (0, 0))) (Sep (NodR H n hs) Emp))))
              clear HO3 HBY HSV HSB
              obtain ⟨e0, e1, e2, e3, e4⟩ := blk5c HOX.out.held
              have q0 := blk_free HOX.out.held 0
              have q1 := blk_free HOX.out.held 1
              have q2 := blk_free HOX.out.held 2
              have q3 := blk_free HOX.out.held 3
              have q4 := blk_free HOX.out.held 4
              have HS8 := Lib.hid (own_set5 HOX.out (.bool n.leaf) (.slice H.eo n.es.length H.ec) (.slice H.po n.ps.length H.pc) (.slice H.ko n.ks.length H.kc) (.slice H.bo n.bs.length H.bc))
              go_wp2_with fail
              generalize World.setCell (World.setCell (World.setCell (World.setCell (World.setCell _ _ _) _ _) _ _) _ _) _ _ = w8 at *
              clear e0 e1 e2 e3 e4 q0 q1 q2 q3 q4 c0 c1 c2 c3 c4
              obtain ⟨e0, e1, e2, e3, e4⟩ := blk5c HS8.out.held
              refine bodyPost_ret (v := .tuple #[ndv H n, .int .i64 0]) (by simp [results, Tryz.results7, go_sem, e0, e1, e2, e3, e4]) rfl ?_
              exact .inl ⟨H, n, hs, HD0.out, rfl, HZ.out, HS8.out.snd.snd.fst⟩

end Go.Proofs.YtookbmpaoljelaaGreat

namespace Go.Proofs.YtookbmpaoljelaaGreat
open Go Go.RowKit
set_option linter.unusedVariables false
set_option linter.unusedSimpArgs false
set_option maxRecDepth 100000
set_option linter.unusedSimpArgs false
set_option maxRecDepth 100000

theorem alloc_at (w : World) (o : Obj) : (w.alloc o).heap[w.heap.size]? = some o := heap_alloc_new w o
theorem awk_nd (w : World) : NdAt (((w.alloc (.cells #[.int .u64 5, .int .u64 6] 39)).alloc (.cells #[.string ⟨#[109]⟩] 9)).alloc (.cells #[.slice none 0 0, .slice none 0 0] 55)) ⟨none, 0, some ⟨w.heap.size + 1, 0, none⟩, 1, some ⟨w.heap.size, 0, none⟩, 2, some ⟨w.heap.size + 1 + 1, 0, none⟩, 2⟩ ndA := by
  have a1 := alloc_at w (.cells #[.int .u64 5, .int .u64 6] 39)
  have a2 := alloc_at (w.alloc (.cells #[.int .u64 5, .int .u64 6] 39)) (.cells #[.string ⟨#[109]⟩] 9)
  have a3 := alloc_at ((w.alloc (.cells #[.int .u64 5, .int .u64 6] 39)).alloc (.cells #[.string ⟨#[109]⟩] 9)) (.cells #[.slice none 0 0, .slice none 0 0] 55)
  have k2 := Only.refl (fun _ => False) (w.alloc (.cells #[.int .u64 5, .int .u64 6] 39))
  have k3 := Only.refl (fun _ => False) ((w.alloc (.cells #[.int .u64 5, .int .u64 6] 39)).alloc (.cells #[.string ⟨#[109]⟩] 9))
  have a1 := qkeep (k3.alloc (.cells #[.slice none 0 0, .slice none 0 0] 55)) (qkeep (k2.alloc (.cells #[.string ⟨#[109]⟩] 9)) a1)
  have a2 := qkeep (k3.alloc (.cells #[.slice none 0 0, .slice none 0 0] 55)) a2
  simp only [World.size_alloc] at a2 a3
  generalize ((w.alloc (.cells #[.int .u64 5, .int .u64 6] 39)).alloc (.cells #[.string ⟨#[109]⟩] 9)).alloc (.cells #[.slice none 0 0, .slice none 0 0] 55) = W at *
  refine ⟨SlG.nil _ _, ?_, ?_, ?_, by decide, by decide, by decide, by decide⟩
  · intro j hj
    have : j = 0 := by simp [ndA] at hj; omega
    subst this
    refine ⟨_, _, rfl, fun i hi => ?_⟩
    have : i = 0 := by have : i < 1 := hi; omega
    subst this
    exact blk_cell a2 0 rfl
  · intro j hj
    have : j = 0 ∨ j = 1 := by simp [ndA] at hj; omega
    rcases this with rfl | rfl
    · refine ⟨_, _, rfl, fun i hi => ?_⟩
      have : i = 0 := by have : i < 1 := hi; omega
      subst this
      exact blk_cell a1 0 rfl
    · refine ⟨_, _, rfl, fun i hi => ?_⟩
      have : i = 0 := by have : i < 1 := hi; omega
      subst this
      exact blk_cell a1 1 rfl
  · intro j hj
    have : j = 0 ∨ j = 1 := by simp [ndA] at hj; omega
    rcases this with rfl | rfl
    · exact ⟨_, _, none, 0, rfl, blk_cell a3 0 rfl, SlG.nil _ _, by simp [ndA]⟩
    · exact ⟨_, _, none, 0, rfl, blk_cell a3 1 rfl, SlG.nil _ _, by simp [ndA]⟩

abbrev nhA (s : Nat) : Nh := ⟨none, 0, some ⟨s + 1, 0, none⟩, 1, some ⟨s, 0, none⟩, 2, some ⟨s + 1 + 1, 0, none⟩, 2⟩
/-- Where the first line stands: the fixed node in its block. -/
structure AwAt (w W : World) (b s : Nat) : Prop where
  b : W.heap[b]? = some (.cells #[.bool false, .slice none 0 0, .slice (some ⟨s + 1, 0, none⟩) 1 1, .slice (some ⟨s, 0, none⟩) 2 2, .slice (some ⟨s + 1 + 1, 0, none⟩) 2 2] 30 (0, 0))
  n : NdAt W (nhA s) ndA
  o : Only (fun _ => False) w W
theorem AwAt.keep {w W W' : World} {b s : Nat} (h : AwAt w W b s) (ho : Only (fun _ => False) W W') : AwAt w W' b s := ⟨qkeep ho h.b, h.n.keep ho, h.o.trans ho (fun _ _ h => h)⟩
theorem AwAt.start (w : World) : AwAt w ((((w.alloc (.cells #[.int .u64 5, .int .u64 6] 39)).alloc (.cells #[.string ⟨#[109]⟩] 9)).alloc (.cells #[.slice none 0 0, .slice none 0 0] 55)).alloc (.cells #[.bool false, .slice none 0 0, .slice (some ⟨w.heap.size + 1, 0, none⟩) 1 1, .slice (some ⟨w.heap.size, 0, none⟩) 2 2, .slice (some ⟨w.heap.size + 1 + 1, 0, none⟩) 2 2] 30)) (w.heap.size + 1 + 1 + 1) w.heap.size := by
  have hb := heap_alloc_new (((w.alloc (.cells #[.int .u64 5, .int .u64 6] 39)).alloc (.cells #[.string ⟨#[109]⟩] 9)).alloc (.cells #[.slice none 0 0, .slice none 0 0] 55)) (.cells #[.bool false, .slice none 0 0, .slice (some ⟨w.heap.size + 1, 0, none⟩) 1 1, .slice (some ⟨w.heap.size, 0, none⟩) 2 2, .slice (some ⟨w.heap.size + 1 + 1, 0, none⟩) 2 2] 30)
  simp only [World.size_alloc] at hb
  exact ⟨hb, (awk_nd w).keep ((Only.refl _ _).alloc _), ((((Only.refl _ w).alloc _).alloc _).alloc _).alloc _⟩
theorem Own.owns1 {w0 w : World} {e : TypeId} {size : Nat} {v : Value} {n : Nat} {xs : List Value} (h : Own w0 w (RowV e size v n xs)) : w.ownsRow 0 e size v n xs := by
  obtain ⟨F, ⟨h1, _⟩, _⟩ := h
  exact h1
theorem enc_get {w w' : World} {n : Nd} {e : Ending} (h : EncPost w n e w') : ∃ ao cap, e = .returned (.tuple #[.slice ao (encOut n).length cap, .int .i64 (encErr n)]) ∧ SlC w' (.slice ao (encOut n).length cap) (encOut n) ∧ Own w w' (RowV 5 1 (.slice ao (encOut n).length cap) (encOut n).length (u8s (encOut n))) := by
  obtain ⟨v, rfl, ho⟩ := h
  have h1 := ho.owns1
  obtain ⟨ao, cap, rfl⟩ := own_shapeN h1
  exact ⟨ao, cap, rfl, (own_toB h1).toC, ho⟩
set_option maxHeartbeats 4000000 in
theorem awake_any (w : World) : Calls Tryz.prog 4 #[] w fun r w' => r = .returned (.bool true) ∧ Only (fun _ => False) w w' := by
  have H0 := Lib.hid (AwAt.start w)
  have kc := fun (w : World) (C : Array Value) (n c : Nat) => Lib.run_convert_bytes_const (P := Tryz.prog) w 22 5 C n c Tryz.underlying22 Tryz.underlying5
  go_enter Tryz.func4, Tryz.ntmps4
  go_upto_region 2 with fail
  generalize (((w.alloc (.cells #[.int .u64 5, .int .u64 6] 39)).alloc (.cells #[.string ⟨#[109]⟩] 9)).alloc (.cells #[.slice none 0 0, .slice none 0 0] 55)).alloc (.cells #[.bool false, .slice none 0 0, .slice (some ⟨w.heap.size + 1, 0, none⟩) 1 1, .slice (some ⟨w.heap.size, 0, none⟩) 2 2, .slice (some ⟨w.heap.size + 1 + 1, 0, none⟩) 2 2] 30) = w1 at *
  generalize w.heap.size = s at *
  generalize s + 1 + 1 + 1 = nb at *
  obtain ⟨c0, c1, c2, c3, c4⟩ := blk5c H0.out.b
  go_wp2_with fail
  refine (encode_any (nhA s) ndA w1 H0.out.n ndA_w).mono ?_
  rintro r w2 hp
  obtain ⟨ao, cap, rfl, _, h2⟩ := enc_get hp
  have hl : (encOut ndA).length = 26 := by unfold encOut; rw [if_pos encA, ndA_len]
  rw [encA, hl]
  have H2 := Lib.hid (H0.out.keep h2.only)
  clear hp hl h2 H0 c0 c1 c2 c3 c4
  go_wp2_with fail
  clear kc
  have hsl : SlC (w2.alloc (.cells (u8s bytesA).toArray 5 (21, 22))) (.slice (some ⟨w2.heap.size, 0, none⟩) 21 21) bytesA := row_bytes' (heap_alloc_new w2 _) (by decide)
  have H3 := Lib.hid (H2.out.keep ((Only.refl _ w2).alloc (.cells (u8s bytesA).toArray 5 (21, 22))))
  refine (decode_any _ bytesA _ hsl (by decide)).mono ?_
  rintro r w3 hp
  rcases hp with ⟨H, n, hs, hd, rfl, hz, ho⟩ | ⟨hd, _, _⟩
  rotate_left
  · rw [decA] at hd; cases hd
  rw [decA] at hd
  simp only [Option.some.injEq] at hd
  subst hd
  have hnd := nodr_at (ho.imp (fun F hF => (⟨F, fun _ => False, hF, fun _ h => h, fun _ _ h => h, fun k => by simp⟩ : Sep (NodR H ndB hs) Emp _ F))) hz
  obtain ⟨g, off, he, y0, y1, y2, y3, y4, y5⟩ := hnd.e.en (j := 0) (by decide)
  obtain ⟨eo, ec, po, pc, ko, kcc, bo, bc⟩ := H
  simp only at he
  subst he
  have H4 := Lib.hid ((H3.out.keep ho.only).keep ((Only.refl _ w3).alloc (.cells (ndc ⟨some ⟨g, off, none⟩, ec, po, pc, ko, kcc, bo, bc⟩ ndB) 30)))
  have z2 := ((Only.refl (fun _ => False) w3).alloc (.cells (ndc ⟨some ⟨g, off, none⟩, ec, po, pc, ko, kcc, bo, bc⟩ ndB) 30)).cellq y2
  have hb := heap_alloc_new w3 (.cells (ndc ⟨some ⟨g, off, none⟩, ec, po, pc, ko, kcc, bo, bc⟩ ndB) 30)
  have hv : (ndB.es.getD 0 default).v = ⟨#[118]⟩ := rfl
  rw [hv, Nat.zero_mul, Nat.add_zero] at z2
  clear hnd ho hz y0 y1 y2 y3 y4 y5 H3 H2 hsl hv
  go_upto_region 4 with fail
  generalize w3.alloc (.cells (ndc ⟨some ⟨g, off, none⟩, ec, po, pc, ko, kcc, bo, bc⟩ ndB) 30) = w4 at *
  have hb2 : w4.heap[w3.heap.size]? = some (.cells #[.bool true, .slice (some ⟨g, off, none⟩) 1 ec, .slice po 0 pc, .slice ko 0 kcc, .slice bo 0 bc] 30 (0, 0)) := hb
  clear hb
  generalize w3.heap.size = mb at *
  obtain ⟨e0, e1, e2, e3, e4⟩ := blk5c hb2
  obtain ⟨c0, c1, c2, c3, c4⟩ := blk5c H4.out.b
  have HRT := Lib.hid (fun W (hn : NdAt W (nhA s) ndA) => route_any (nhA s) ndA ⟨#[109]⟩ W hn)
  rw [ndA_route] at HRT
  have HRG := Lib.hid (fun W (hn : NdAt W (nhA s) ndA) => right_any (nhA s) ndA W hn)
  rw [ndA_right] at HRG
  clear hb2
  go_wp2_with fail
  refine (HRT.out _ H4.out.n).mono ?_
  rintro r w5 ⟨rfl, ho⟩
  have H5 := Lib.hid (H4.out.keep ho)
  clear ho H4 HRT z2 e0 e1 e2 e3 e4 c0 c1 c2 c3 c4
  obtain ⟨c0, c1, c2, c3, c4⟩ := blk5c H5.out.b
  go_wp2_with fail
  refine (HRG.out _ H5.out.n).mono ?_
  rintro r w6 ⟨rfl, ho⟩
  have H6 := Lib.hid (H5.out.keep ho)
  clear ho H5 HRG c0 c1 c2 c3 c4
  go_wp2_with fail
  go_ret
  exact ⟨rfl, H6.out.o⟩

end Go.Proofs.YtookbmpaoljelaaGreat

namespace Go.Proofs.YtookbmpaoljelaaGreat
open Go Go.RowKit
set_option linter.unusedVariables false
set_option linter.unusedSimpArgs false
set_option maxRecDepth 100000
set_option linter.unusedSimpArgs false
set_option maxRecDepth 100000

/-- Where a comparison of two nodes stands. -/
structure N2At (w W : World) (pa pb : Nat) (h k : Nh) (n m : Nd) : Prop where
  a : W.heap[pa]? = some (.cells (ndc h n) 30 (0, 0))
  b : W.heap[pb]? = some (.cells (ndc k m) 30 (0, 0))
  na : NdAt W h n
  nb : NdAt W k m
  only : Only (fun _ => False) w W
theorem N2At.keep {w W W' : World} {pa pb : Nat} {h k : Nh} {n m : Nd} (H : N2At w W pa pb h k n m) (ho : Only (fun _ => False) W W') : N2At w W' pa pb h k n m :=
  ⟨qkeep ho H.a, qkeep ho H.b, H.na.keep ho, H.nb.keep ho, H.only.trans ho (fun _ _ h => h)⟩
theorem N2At.start {w : World} {h k : Nh} {n m : Nd} (hn : NdAt w h n) (hm : NdAt w k m) : N2At w ((w.alloc (.cells (ndc h n) 30)).alloc (.cells (ndc k m) 30)) w.heap.size (w.heap.size + 1) h k n m := by
  have ho := ((Only.refl (fun _ => False) w).alloc (.cells (ndc h n) 30)).alloc (.cells (ndc k m) 30)
  have hb := heap_alloc_new (w.alloc (.cells (ndc h n) 30)) (.cells (ndc k m) 30)
  rw [World.size_alloc] at hb
  exact ⟨qkeep ((Only.refl (fun _ => False) (w.alloc (.cells (ndc h n) 30))).alloc _) (heap_alloc_new w _), hb, hn.keep ho, hm.keep ho, ho⟩
def NqPost (n m : Nd) (w : World) (e : Ending) (w' : World) : Prop := ∃ r : Bool, e = .returned (.bool r) ∧ (r = true ↔ n = m) ∧ Only (fun _ => False) w w'
theorem nq_no {n m : Nd} {w w' : World} (h : n ≠ m) (ho : Only (fun _ => False) w w') : NqPost n m w (.returned (.bool false)) w' := ⟨false, rfl, ⟨(fun h => by cases h), fun e => absurd e h⟩, ho⟩
theorem nq_yes {n m : Nd} {w w' : World} (h : n = m) (ho : Only (fun _ => False) w w') : NqPost n m w (.returned (.bool true)) w' := ⟨true, rfl, ⟨fun _ => h, fun _ => rfl⟩, ho⟩

set_option maxHeartbeats 8000000 in
theorem nodes_any (h k : Nh) (n m : Nd) (w : World) (hn : NdAt w h n) (hm : NdAt w k m) : Calls Tryz.prog 8 #[ndv h n, ndv k m] w (NqPost n m w) := by
  have HS := Lib.hid (N2At.start hn hm)
  have le := hn.le
  have lp := hn.lp
  have lk := hn.lk
  have lb := hn.lb
  have le' := hm.le
  have lp' := hm.lp
  have lk' := hm.lk
  have lb' := hm.lb
  obtain ⟨c0, c1, c2, c3, c4⟩ := nod_cells HS.out.a
  obtain ⟨d0, d1, d2, d3, d4⟩ := nod_cells HS.out.b
  clear hn hm
  by_cases hlf : n.leaf = m.leaf
  rotate_left
  · have hne : Hid (n ≠ m) := Lib.hid (fun e => hlf (by rw [e]))
    have hb : (n.leaf != m.leaf) = true := by rw [bne_iff_ne]; exact hlf
    have hb2 : (n.leaf == m.leaf) = false := by rw [beq_eq_false_iff_ne]; exact hlf
    clear hlf
    go_enter Tryz.func8, Tryz.ntmps8
    go_wp2_with fail
    go_ret
    exact nq_no hne.out HS.out.only
  have hb : (n.leaf != m.leaf) = false := by rw [hlf]; simp
  have hb2 : (n.leaf == m.leaf) = true := by rw [hlf]; simp
  have HLF := Lib.hid hlf
  clear hlf
  have HE := Lib.hid (fun W (hs : N2At w W w.heap.size (w.heap.size + 1) h k n m) => eql_e h.eo k.eo n.es.length h.ec m.es.length k.ec n.es m.es W hs.na.e hs.nb.e rfl rfl le le')
  have HT := Lib.hid (fun W (hs : N2At w W w.heap.size (w.heap.size + 1) h k n m) => eql_s h.po k.po n.ps.length h.pc m.ps.length k.pc n.ps m.ps W hs.na.p hs.nb.p rfl rfl lp lp')
  go_enter Tryz.func8, Tryz.ntmps8
  go_wp2_with fail
  refine (HE.out _ HS.out).mono ?_
  rintro e w1 ⟨r1, rfl, hr, ho⟩
  have HR1 := Lib.hid hr
  have HS1 := Lib.hid (HS.out.keep ho)
  clear hr ho HS HE c0 c1 c2 c3 c4 d0 d1 d2 d3 d4
  obtain ⟨c0, c1, c2, c3, c4⟩ := nod_cells HS1.out.a
  obtain ⟨d0, d1, d2, d3, d4⟩ := nod_cells HS1.out.b
  cases r1 with
  | false =>
    have hne : Hid (n ≠ m) := Lib.hid (fun e => by have := HR1.out.2 (by rw [e]); cases this)
    clear HR1
    go_wp2_with fail
    go_ret
    exact nq_no hne.out HS1.out.only
  | true =>
  have HEE : Hid (n.es = m.es) := Lib.hid (HR1.out.1 rfl)
  clear HR1
  go_wp2_with fail
  refine (HT.out _ HS1.out).mono ?_
  rintro e w2 ⟨r2, rfl, hr, ho⟩
  have HR2 := Lib.hid hr
  have HS2 := Lib.hid (HS1.out.keep ho)
  clear hr ho HS1 HT c0 c1 c2 c3 c4 d0 d1 d2 d3 d4
  obtain ⟨c0, c1, c2, c3, c4⟩ := nod_cells HS2.out.a
  obtain ⟨d0, d1, d2, d3, d4⟩ := nod_cells HS2.out.b
  cases r2 with
  | false =>
    have hne : Hid (n ≠ m) := Lib.hid (fun e => by have := HR2.out.2 (by rw [e]); cases this)
    clear HR2
    go_wp2_with fail
    go_ret
    exact nq_no hne.out HS2.out.only
  | true =>
  have HPE : Hid (n.ps = m.ps) := Lib.hid (HR2.out.1 rfl)
  clear HR2
  obtain ⟨K, hK⟩ : ∃ K, n.ks.length = K := ⟨_, rfl⟩
  obtain ⟨K2, hK2⟩ : ∃ K, m.ks.length = K := ⟨_, rfl⟩
  obtain ⟨B, hB⟩ : ∃ B, n.bs.length = B := ⟨_, rfl⟩
  obtain ⟨B2, hB2⟩ : ∃ B, m.bs.length = B := ⟨_, rfl⟩
  rw [hK] at c3 lk
  rw [hK2] at d3 lk'
  rw [hB] at c4 lb
  rw [hB2] at d4 lb'
  have HK := Lib.hid hK
  have HK2 := Lib.hid hK2
  have HB := Lib.hid hB
  have HB2 := Lib.hid hB2
  clear hK hK2 hB hB2
  by_cases hkk : K = K2
  rotate_left
  · have hne : Hid (n ≠ m) := Lib.hid (fun e => hkk (by rw [← HK.out, ← HK2.out, e]))
    have q1 : ((K : Int) != (K2 : Int)) = true := by rw [bne_iff_ne]; omega
    clear hkk
    go_wp2_with fail
    go_ret
    exact nq_no hne.out HS2.out.only
  subst hkk
  by_cases hbb : B = B2
  rotate_left
  · have hne : Hid (n ≠ m) := Lib.hid (fun e => hbb (by rw [← HB.out, ← HB2.out, e]))
    have q1 : ((B : Int) != (B2 : Int)) = true := by rw [bne_iff_ne]; omega
    clear hbb
    go_wp2_with fail
    go_ret
    exact nq_no hne.out HS2.out.only
  subst hbb
  go_wp2_with fail
  clear c0 c1 c2 c3 c4 d0 d1 d2 d3 d4
  go_loopw [5] (fun i wr => ∃ (q : Nat), q ≤ K ∧ i = .int .i64 (q : Int) ∧ Hid (n.ks.take q = m.ks.take q) ∧ Hid (N2At w wr w.heap.size (w.heap.size + 1) h k n m)) (fun i _ => K - (intOf i).toNat)
  case atStart => exact ⟨0, Nat.zero_le _, rfl, Lib.hid rfl, HS2⟩
  case round =>
    clear HS2
    obtain ⟨q, hq, rfl, HT, HO⟩ := hrel
    obtain ⟨_, _, _, c3, c4⟩ := nod_cells HO.out.a
    obtain ⟨_, _, _, d3, d4⟩ := nod_cells HO.out.b
    rw [HK.out] at c3
    rw [HK2.out] at d3
    rw [HB.out] at c4
    rw [HB2.out] at d4
    by_cases hlt : q < K
    · have HKA : Hid (q < n.ks.length) := Lib.hid (by rw [HK.out]; exact hlt)
      have HKB : Hid (q < m.ks.length) := Lib.hid (by rw [HK2.out]; exact hlt)
      obtain ⟨g, off, ha, y0⟩ := HO.out.na.k.nu HKA.out
      obtain ⟨g2, off2, hb0, x0⟩ := HO.out.nb.k.nu HKB.out
      rw [ha] at c3
      rw [hb0] at d3
      have HTA := Lib.hid (take_of HKA.out)
      have HTB := Lib.hid (take_of HKB.out)
      generalize n.ks.getD q default = v at *
      generalize m.ks.getD q default = u at *
      have hltI : (q : Int) < (K : Int) := by omega
      have h0 : (0 : Int) ≤ (q : Int) := by omega
      have HNE : Hid (v ≠ u → n ≠ m) := Lib.hid (fun hx e => hx (by
        have e1 : n.ks.take (q + 1) = m.ks.take (q + 1) := by rw [e]
        rw [HTA.out, HTB.out, HT.out] at e1
        simpa using List.append_cancel_left e1))
      clear ha hb0
      by_cases hvu : v = u
      · subst hvu
        go_wp2_with fail
        go_quiet (fail)
        clear y0 x0 c3 c4 d3 d4
        have H2 := Lib.hid (HO.out.keep ((Only.refl _ wr).drewN nq))
        go_wp2_with fail
        go_roundw
        case rel => exact ⟨q + 1, by omega, by go_num, Lib.hid (by rw [HTA.out, HTB.out, HT.out]), H2⟩
        case measure => simp [intOf]; omega
      · have HF := Lib.hid (HNE.out hvu)
        have f0 : (v == u) = false := by simpa using hvu
        clear hvu HNE
        go_wp2_with fail
        go_quiet (fail)
        clear y0 x0 c3 c4 d3 d4
        have H2 := Lib.hid (HO.out.keep ((Only.refl _ wr).drewN nq))
        go_wp2_with fail
        go_ret
        exact nq_no HF.out H2.out.only
    · obtain rfl : q = K := by omega
      have HKE : Hid (n.ks = m.ks) := Lib.hid (by
        have := HT.out
        rwa [List.take_of_length_le (by rw [HK.out]; exact Nat.le_refl _), List.take_of_length_le (by rw [HK2.out]; exact Nat.le_refl _)] at this)
      have hltI : ¬ (q : Int) < (q : Int) := by omega
      clear HT
      go_wp2_with fail
      clear c3 c4 d3 d4
      go_loopw [6] (fun i wx => ∃ (z : Nat), z ≤ B ∧ i = .int .i64 (z : Int) ∧ Hid (n.bs.take z = m.bs.take z) ∧ Hid (N2At w wx w.heap.size (w.heap.size + 1) h k n m)) (fun i _ => B - (intOf i).toNat)
      case atStart => exact ⟨0, Nat.zero_le _, rfl, Lib.hid rfl, HO⟩
      case round =>
        clear HO
        obtain ⟨z, hz, rfl, HT, HO⟩ := hrel
        obtain ⟨_, _, _, c3, c4⟩ := nod_cells HO.out.a
        obtain ⟨_, _, _, d3, d4⟩ := nod_cells HO.out.b
        rw [HB.out] at c4
        rw [HB2.out] at d4
        clear c3 d3
        by_cases hlt : z < B
        · have HKA : Hid (z < n.bs.length) := Lib.hid (by rw [HB.out]; exact hlt)
          have HKB : Hid (z < m.bs.length) := Lib.hid (by rw [HB2.out]; exact hlt)
          obtain ⟨g, off, ao, ac, ha, y0, hsa, hla⟩ := HO.out.na.b z HKA.out
          obtain ⟨g2, off2, bo, bc, hb0, x0, hsb, hlb⟩ := HO.out.nb.b z HKB.out
          rw [ha] at c4
          rw [hb0] at d4
          have HTA := Lib.hid (take_of HKA.out)
          have HTB := Lib.hid (take_of HKB.out)
          have HSA := Lib.hid hsa
          have HSB := Lib.hid hsb
          generalize n.bs.getD z default = v at *
          generalize m.bs.getD z default = u at *
          obtain ⟨vn, hvn⟩ : ∃ vn, vn = v.length := ⟨_, rfl⟩
          obtain ⟨un, hun⟩ : ∃ un, un = u.length := ⟨_, rfl⟩
          rw [← hvn] at y0 hla
          rw [← hun] at x0 hlb
          have HC := Lib.hid (fun W (s1 : SlG W ao v) (s2 : SlG W bo u) => eql_m ao bo vn ac un bc v u W s1 s2 hvn hun (by omega) (by omega))
          have hltI : (z : Int) < (B : Int) := by omega
          have h0 : (0 : Int) ≤ (z : Int) := by omega
          have HNE : Hid (v ≠ u → n ≠ m) := Lib.hid (fun hx e => hx (by
            have e1 : n.bs.take (z + 1) = m.bs.take (z + 1) := by rw [e]
            rw [HTA.out, HTB.out, HT.out] at e1
            simpa using List.append_cancel_left e1))
          clear ha hb0 hsa hsb hvn hun hla hlb
          go_upto_region 11 with fail
          have hs2 : ((z : Int)).toNat = z := by omega
          go_still_tail 10, (by kernel_rfl)
          change wpList _ _ _ _ _ wr.drew
          have HO1 := Lib.hid (HO.out.keep ((Only.refl _ wr).drew))
          have HC1 := Lib.hid (HC.out _ (HSA.out.keep ((Only.refl _ wr).drew)) (HSB.out.keep ((Only.refl _ wr).drew)))
          clear y0 x0 c4 d4 hs2 HC HO
          go_wp2_with fail
          refine HC1.out.mono ?_
          rintro e w5 ⟨r3, rfl, hr, ho⟩
          have HR3 := Lib.hid hr
          have H2 := Lib.hid (HO1.out.keep ho)
          clear hr ho HC1 HO1
          cases r3 with
          | false =>
            have HF := Lib.hid (HNE.out (fun e => by have := HR3.out.2 e; cases this))
            clear HR3 HNE
            go_wp2_with fail
            go_ret
            exact nq_no HF.out H2.out.only
          | true =>
            have HVU : Hid (v = u) := Lib.hid (HR3.out.1 rfl)
            clear HR3 HNE
            go_wp2_with fail
            go_roundw
            case rel => exact ⟨z + 1, by omega, by go_num, Lib.hid (by rw [HTA.out, HTB.out, HT.out, HVU.out]), H2⟩
            case measure => simp [intOf]; omega
        · obtain rfl : z = B := by omega
          have HBE : Hid (n.bs = m.bs) := Lib.hid (by
            have := HT.out
            rwa [List.take_of_length_le (by rw [HB.out]; exact Nat.le_refl _), List.take_of_length_le (by rw [HB2.out]; exact Nat.le_refl _)] at this)
          have hltI : ¬ (z : Int) < (z : Int) := by omega
          have HNM : Hid (n = m) := Lib.hid (by
            have e0 := HLF.out
            have e1 := HEE.out
            have e2 := HPE.out
            have e3 := HKE.out
            have e4 := HBE.out
            obtain ⟨a0, a1, a2, a3, a4⟩ := n
            obtain ⟨b0, b1, b2, b3, b4⟩ := m
            simp only at e0 e1 e2 e3 e4
            rw [e0, e1, e2, e3, e4])
          go_wp2_with fail
          go_ret
          exact nq_yes HNM.out HO.out.only

end Go.Proofs.YtookbmpaoljelaaGreat
