/-
  Package node's taker: a whole node.
-/
import Derived.Test.YtookbmpaoljelaaNode12
import Derived.Test.YtookbmpaoljelaaNode9
namespace Go.Proofs.Ytookbmpaoljelaa
open Go Go.RowKit
set_option linter.unusedVariables false
set_option linter.unusedSimpArgs false
set_option maxRecDepth 100000

theorem blk5c {w : World} {k : Nat} {t : TypeId} {a0 a1 a2 a3 a4 : Value} (h : w.heap[k]? = some (.cells #[a0, a1, a2, a3, a4] t (0, 0))) :
    w.cell? ⟨k, 0, none⟩ = some a0 ∧ w.cell? ⟨k, 1, none⟩ = some a1 ∧ w.cell? ⟨k, 2, none⟩ = some a2 ∧ w.cell? ⟨k, 3, none⟩ = some a3 ∧ w.cell? ⟨k, 4, none⟩ = some a4 := by
  simp [World.cell?, h]
theorem own_set5 {w0 w : World} {k : Nat} {t : TypeId} {a0 a1 a2 a3 a4 : Value} {J : Res} [Stab J] (h : Own w0 w (Sep (Blk k (.cells #[a0, a1, a2, a3, a4] t (0, 0))) J)) (u0 u1 u2 u3 u4 : Value) :
    Own w0 (((((w.setCell ⟨k, 0, none⟩ u0).setCell ⟨k, 1, none⟩ u1).setCell ⟨k, 2, none⟩ u2).setCell ⟨k, 3, none⟩ u3).setCell ⟨k, 4, none⟩ u4) (Sep (Blk k (.cells #[u0, u1, u2, u3, u4] t (0, 0))) J) := by
  have := ((((h.store 0 u0).store 1 u1).store 2 u2).store 3 u3).store 4 u4
  simpa using this

/-- A node in slices of one's own. -/
abbrev NodR (H : Nh) (n : Nd) (hs : List Hd) : Res := Sep (RowG 45 (.slice H.eo n.es.length H.ec) n.es) (Sep (RowG 9 (.slice H.po n.ps.length H.pc) n.ps) (Sep (RowG 43 (.slice H.ko n.ks.length H.kc) n.ks) (Sep (RowG 46 (.slice H.bo n.bs.length H.bc) hs) (Fix (BufsP hs n.bs)))))
structure NdS (n : Nd) : Prop where
  e : n.es.length ≤ 65535
  p : n.ps.length ≤ 65535
  k : n.ks.length ≤ 65535
  b : n.bs.length ≤ 65535
theorem rowg_at {α : Type} [Cel α] [Inhabited α] {w0 w : World} {e : TypeId} {ao : Option Addr} {n c : Nat} {l : List α} {J : Res} (h : Own w0 w (Sep (RowG e (.slice ao n c) l) J)) : SlG w ao l ∧ n = l.length := by
  obtain ⟨ao', cap, e1, h1, _⟩ := rowg_slg h.owns
  simp only [Value.slice.injEq] at e1
  rw [e1.1]
  exact ⟨h1, e1.2.1⟩
theorem nodr_at {w0 w : World} {H : Nh} {n : Nd} {hs : List Hd} {J : Res} (h : Own w0 w (Sep (NodR H n hs) J)) (hz : NdS n) : NdAt w H n := by
  have h1 := h.fst
  have he := rowg_at h1
  have hp := rowg_at h1.snd
  have hk := rowg_at h1.snd.snd
  have hb := rowg_at h1.snd.snd.snd
  have hf := Own.fixed h1.snd.snd.snd.comm
  exact ⟨he.1, hp.1, hk.1, hf.sll hb.1, by have := hz.e; omega, by have := hz.p; omega, by have := hz.k; omega, by have := hz.b; omega⟩
def NodePost (xs : List UInt8) (bad : Bool) (p : Nat) (J : Res) (w0 : World) (r : Ending) (w' : World) : Prop :=
  ∃ (H : Nh) (n : Nd) (hs : List Hd) (ys : List UInt8) (b : Bool), r = .returned (ndv H n) ∧ NdS n ∧ Rd pNode xs bad n ys b ∧ Own w0 w' (Sep (NodR H n hs) (Sep (InR p ys b) J))

abbrev TakB (a p : Nat) : Res := Blk a (.cells #[.pointer (some ⟨p, 0, none⟩)] 62 (0, 0))
abbrev NodZ (b : Nat) : Res := Blk b (.cells #[.bool false, .slice none 0 0, .slice none 0 0, .slice none 0 0, .slice none 0 0] 27 (0, 0))
set_option maxHeartbeats 8000000 in
theorem tnode_any {w0 w : World} {p : Nat} {xs : List UInt8} {bad : Bool} {J : Res} [Stab J] (h : Own w0 w (Sep (InR p xs bad) J)) :
    Calls Try.prog 29 #[putv p] w (NodePost xs bad p J w0) := by
  have H0 := Lib.hid (((h.alloc (.cells #[.pointer (some ⟨p, 0, none⟩)] 62)).alloc (.cells #[.bool false, .slice none 0 0, .slice none 0 0, .slice none 0 0, .slice none 0 0] 27)).ac (by ac_rfl) : Own w0 ((w.alloc (.cells #[.pointer (some ⟨p, 0, none⟩)] 62)).alloc (.cells #[.bool false, .slice none 0 0, .slice none 0 0, .slice none 0 0, .slice none 0 0] 27)) (Sep (InR p xs bad) (Sep (Blk w.heap.size (.cells #[.pointer (some ⟨p, 0, none⟩)] 62 (0, 0))) (Sep (Blk (w.alloc (.cells #[.pointer (some ⟨p, 0, none⟩)] 62)).heap.size (.cells #[.bool false, .slice none 0 0, .slice none 0 0, .slice none 0 0, .slice none 0 0] 27 (0, 0))) J))))
  rw [World.size_alloc] at H0
  clear h
  have ha := blk_cell H0.out.snd.held 0 rfl
  go_enter Try.func29, Try.ntmps29
  go_wp2_with fail
  generalize w.heap.size + 1 = rb at *
  generalize w.heap.size = tb at *
  refine (rd_flag H0.out).mono ?_
  rintro r w1 ⟨lf, y1, b1, rfl, hr, h1⟩
  have HR1 := Lib.hid hr
  have H1 := Lib.hid h1
  have ha := blk_cell H1.out.snd.held 0 rfl
  clear hr h1 H0
  cases lf with
  | true =>
    go_upto_region 2 with fail
    clear ha
    have H1d := Lib.hid H1.out.drew
    refine wp_region_held_drew (S := (fun w' => w'.cell? ⟨tb, 0, none⟩ = some (.pointer (some ⟨p, 0, none⟩)))) (by kernel_rfl) ?_ (fun hHeld => ?_)
    · exact blk_cell H1d.out.snd.held 0 rfl
    refine wpAnyH_take (i := 0) (oi := ?_) (v := ?_) ?_ (by kernel_rfl) (by kernel_rfl) (by kernel_rfl) ?_ (Or.inl ⟨?_, ?_⟩) (by assumption) ?_
    rotate_left 2
    · (simp only [List.getElem?_toArray, List.getElem?_cons_zero]; rfl)
    · exact fun _ _ _ h => h
    · rfl
    · (intro w hSw; (try dsimp only at hSw); go_simp <;> with_reducible rfl)
    (try simp only [Act.put, List.setIfInBounds_toArray, List.set_cons_zero, List.set_cons_succ])
    refine wpAnyH_take (i := 1) (oi := ?_) (v := ?_) ?_ (by kernel_rfl) (by kernel_rfl) (by kernel_rfl) ?_ (Or.inl ⟨?_, ?_⟩) (by assumption) ?_
    rotate_left 2
    · (simp only [List.getElem?_toArray, List.getElem?_cons_succ, List.getElem?_cons_zero]; rfl)
    · exact fun _ _ _ h => h
    · rfl
    · (intro w hSw; (try dsimp only at hSw); go_simp <;> with_reducible rfl)
    (try simp only [Act.put, List.setIfInBounds_toArray, List.set_cons_zero, List.set_cons_succ])
    refine wpAnyH_take (i := 3) (oi := ?_) (v := ?_) ?_ (by kernel_rfl) (by kernel_rfl) (by kernel_rfl) ?_ (Or.inl ⟨?_, ?_⟩) (by assumption) ?_
    rotate_left 2
    · (simp only [List.getElem?_toArray, List.getElem?_cons_succ, List.getElem?_cons_zero]; rfl)
    · exact fun _ _ _ h => h
    · rfl
    · (intro w hSw; (try dsimp only at hSw); go_simp <;> with_reducible rfl)
    (try simp only [Act.put, List.setIfInBounds_toArray, List.set_cons_zero, List.set_cons_succ])
    refine wpAnyH_take (i := 4) (oi := ?_) (v := ?_) ?_ (by kernel_rfl) (by kernel_rfl) (by kernel_rfl) ?_ (Or.inl ⟨?_, ?_⟩) (by assumption) ?_
    rotate_left 2
    · (simp only [List.getElem?_toArray, List.getElem?_cons_succ, List.getElem?_cons_zero]; rfl)
    · exact fun _ _ _ h => h
    · rfl
    · (intro w hSw; (try dsimp only at hSw); go_simp <;> with_reducible rfl)
    (try simp only [Act.put, List.setIfInBounds_toArray, List.set_cons_zero, List.set_cons_succ])
    refine wpAnyH_ready (rs := [2]) (by kernel_rfl) (by simp) (AllReadyH.cons (o := ?o2_1) ?h2_1 (fun K hK => ?s2_1) AllReadyH.nil)
    case h2_1 => (simp only [List.getElem?_toArray, List.getElem?_cons_succ, List.getElem?_cons_zero]; rfl)
    case' s2_1 =>
      (go_simp; refine (tcount_any H1d.out).mono ?_; rintro r w2 ⟨c, y2, b2, rfl, hc, hr, h2⟩; have HR2 := Lib.hid hr; have H2 := Lib.hid h2; clear hr h2 H1d H1)
      refine hK.out _ _ ?_ (fun hHeld => ?_)
    · exact blk_cell H2.out.snd.held 0 rfl
    clear hK K
    (try simp only [Act.put, List.setIfInBounds_toArray, List.set_cons_zero, List.set_cons_succ])
    refine wpAnyH_ready (rs := [5]) (by kernel_rfl) (by simp) (AllReadyH.cons (o := ?o5_2) ?h5_2 (fun K hK => ?s5_2) AllReadyH.nil)
    case h5_2 => (simp only [List.getElem?_toArray, List.getElem?_cons_succ, List.getElem?_cons_zero]; rfl)
    case' s5_2 =>
      (go_simp; refine (list_e H2.out (c : Int) (by omega)).mono ?_; rintro r w3 ⟨v, l, y3, b3, rfl, hl, hr, h3⟩; obtain ⟨ao, cap, rfl⟩ := rowg_shape h3; have HR3 := Lib.hid hr; have H3 := Lib.hid h3; have HL := Lib.hid hl; clear hr h3 H2 hl)
      refine hK.out _ _ ?_ (fun hHeld => ?_)
    · exact blk_cell H3.out.snd.snd.held 0 rfl
    clear hK K
    (try simp only [Act.put, List.setIfInBounds_toArray, List.set_cons_zero, List.set_cons_succ])
    refine wpAnyH_take (i := 6) (oi := ?_) (v := ?_) ?_ (by kernel_rfl) (by kernel_rfl) (by kernel_rfl) ?_ (Or.inl ⟨?_, ?_⟩) (by assumption) ?_
    rotate_left 2
    · (simp only [List.getElem?_toArray, List.getElem?_cons_succ, List.getElem?_cons_zero]; rfl)
    · exact fun _ _ _ h => h
    · rfl
    · (intro w hSw; (try dsimp only at hSw); go_simp <;> with_reducible rfl)
    (try simp only [Act.put, List.setIfInBounds_toArray, List.set_cons_zero, List.set_cons_succ])
    have HS := Lib.hid (own_set5 (H3.out.ac (by ac_rfl) : Own w0 w3 (Sep (Blk rb (.cells #[.bool false, .slice none 0 0, .slice none 0 0, .slice none 0 0, .slice none 0 0] 27 (0, 0))) (Sep (Blk tb (.cells #[.pointer (some ⟨p, 0, none⟩)] 62 (0, 0))) (Sep (RowG 45 (.slice ao l.length cap) l) (Sep (InR p y3 b3) J))))) (.bool true) (.slice ao l.length cap) (.slice none 0 0) (.slice none 0 0) (.slice none 0 0))
    obtain ⟨e0, e1, e2, e3, e4⟩ := blk5c H3.out.snd.snd.snd.held
    have q0 := blk_free H3.out.snd.snd.snd.held 0
    have q1 := blk_free H3.out.snd.snd.snd.held 1
    have q2 := blk_free H3.out.snd.snd.snd.held 2
    have q3 := blk_free H3.out.snd.snd.snd.held 3
    have q4 := blk_free H3.out.snd.snd.snd.held 4
    refine wpAnyH_ready (rs := [7]) (by kernel_rfl) (by simp) (AllReadyH.cons (o := ?o7_3) ?h7_3 (fun K hK => ?s7_3) AllReadyH.nil)
    case h7_3 => (simp only [List.getElem?_toArray, List.getElem?_cons_succ, List.getElem?_cons_zero]; rfl)
    case' s7_3 =>
      go_simp
      refine hK.out _ _ ?_ (fun hHeld => ?_)
    · exact blk_cell HS.out.snd.held 0 rfl
    clear hK K
    (try simp only [Act.put, List.setIfInBounds_toArray, List.set_cons_zero, List.set_cons_succ])
    refine wpAnyH_done (by kernel_rfl) ?_ _
    clear e0 e1 e2 e3 e4 q0 q1 q2 q3 q4 H3
    generalize World.setCell (World.setCell (World.setCell (World.setCell (World.setCell w3 _ _) _ _) _ _) _ _) _ _ = w8 at *
    obtain ⟨e0, e1, e2, e3, e4⟩ := blk5c HS.out.held
    go_wp2_with fail
    refine bodyPost_ret (v := ndv ⟨ao, cap, none, 0, none, 0, none, 0⟩ ⟨true, l, [], [], []⟩) (by simp [results, Try.results29, go_sem, e0, e1, e2, e3, e4]) rfl ?_
    refine ⟨⟨ao, cap, none, 0, none, 0, none, 0⟩, ⟨true, l, [], [], []⟩, [], y3, b3, rfl, ⟨HL.out, by simp, by simp, by simp⟩, ?_, ?_⟩
    · have h3 := HR3.out
      rw [Int.toNat_natCast] at h3
      exact HR1.out.bind (q := fun leaf => if leaf = true then pLeaf else pInner) (HR2.out.bind (h3.bind (Rd.ret _ _ _)))
    · have h1 := ((((HS.out.snd.snd.row_nil 9 (Cel.size ByteArray)).row_nil 43 (Cel.size Int)).row_nil 46 (Cel.size Hd)).fix0 (P := BufsP [] []) BufsP.nil)
      exact (h1.ac (by ac_rfl) : Own w0 w8 (Sep (Sep (RowG 45 (.slice ao l.length cap) l) (Sep (RowV 9 (Cel.size ByteArray) (.slice none 0 0) 0 []) (Sep (RowV 43 (Cel.size Int) (.slice none 0 0) 0 []) (Sep (RowV 46 (Cel.size Hd) (.slice none 0 0) 0 []) (Fix (BufsP [] [])))))) (Sep (InR p y3 b3) J)))
  | false =>
    go_wp2_with fail
    refine (tcount_any H1.out).mono ?_
    rintro r w2 ⟨c, y2, b2, rfl, hc, hr, h2⟩
    have HR2 := Lib.hid hr
    have H2 := Lib.hid h2
    clear hr h2 H1 ha
    go_upto_region 4 with fail
    have H2d := Lib.hid H2.out.drew
    have hs1 : IntKind.i64.wrap ((c : Int) - 1) = (c : Int) - 1 := IntWalk.i64_in _ (by omega)
    refine wp_region_held_drew (S := (fun w' => w'.cell? ⟨tb, 0, none⟩ = some (.pointer (some ⟨p, 0, none⟩)))) (by kernel_rfl) ?_ (fun hHeld => ?_)
    · exact blk_cell H2d.out.snd.held 0 rfl
    refine wpAnyH_take (i := 0) (oi := ?_) (v := ?_) ?_ (by kernel_rfl) (by kernel_rfl) (by kernel_rfl) ?_ (Or.inl ⟨?_, ?_⟩) (by assumption) ?_
    rotate_left 2
    · (simp only [List.getElem?_toArray, List.getElem?_cons_zero]; rfl)
    · exact fun _ _ _ h => h
    · rfl
    · (intro w hSw; (try dsimp only at hSw); go_simp <;> with_reducible rfl)
    (try simp only [Act.put, List.setIfInBounds_toArray, List.set_cons_zero, List.set_cons_succ])
    refine wpAnyH_take (i := 1) (oi := ?_) (v := ?_) ?_ (by kernel_rfl) (by kernel_rfl) (by kernel_rfl) ?_ (Or.inl ⟨?_, ?_⟩) (by assumption) ?_
    rotate_left 2
    · (simp only [List.getElem?_toArray, List.getElem?_cons_succ, List.getElem?_cons_zero]; rfl)
    · exact fun _ _ _ h => h
    · rfl
    · (intro w hSw; (try dsimp only at hSw); go_simp <;> with_reducible rfl)
    (try simp only [Act.put, List.setIfInBounds_toArray, List.set_cons_zero, List.set_cons_succ])
    refine wpAnyH_take (i := 2) (oi := ?_) (v := ?_) ?_ (by kernel_rfl) (by kernel_rfl) (by kernel_rfl) ?_ (Or.inl ⟨?_, ?_⟩) (by assumption) ?_
    rotate_left 2
    · (simp only [List.getElem?_toArray, List.getElem?_cons_succ, List.getElem?_cons_zero]; rfl)
    · exact fun _ _ _ h => h
    · rfl
    · (intro w hSw; (try dsimp only at hSw); go_simp <;> with_reducible rfl)
    (try simp only [Act.put, List.setIfInBounds_toArray, List.set_cons_zero, List.set_cons_succ])
    refine wpAnyH_take (i := 3) (oi := ?_) (v := ?_) ?_ (by kernel_rfl) (by kernel_rfl) (by kernel_rfl) ?_ (Or.inl ⟨?_, ?_⟩) (by assumption) ?_
    rotate_left 2
    · (simp only [List.getElem?_toArray, List.getElem?_cons_succ, List.getElem?_cons_zero]; rfl)
    · exact fun _ _ _ h => h
    · rfl
    · (intro w hSw; (try dsimp only at hSw); go_simp <;> with_reducible rfl)
    (try simp only [Act.put, List.setIfInBounds_toArray, List.set_cons_zero, List.set_cons_succ])
    refine wpAnyH_take (i := 4) (oi := ?_) (v := ?_) ?_ (by kernel_rfl) (by kernel_rfl) (by kernel_rfl) ?_ (Or.inl ⟨?_, ?_⟩) (by assumption) ?_
    rotate_left 2
    · (simp only [List.getElem?_toArray, List.getElem?_cons_succ, List.getElem?_cons_zero]; rfl)
    · exact fun _ _ _ h => h
    · rfl
    · (intro w hSw; (try dsimp only at hSw); go_simp <;> with_reducible rfl)
    (try simp only [Act.put, List.setIfInBounds_toArray, List.set_cons_zero, List.set_cons_succ])
    refine wpAnyH_take (i := 6) (oi := ?_) (v := ?_) ?_ (by kernel_rfl) (by kernel_rfl) (by kernel_rfl) ?_ (Or.inl ⟨?_, ?_⟩) (by assumption) ?_
    rotate_left 2
    · (simp only [List.getElem?_toArray, List.getElem?_cons_succ, List.getElem?_cons_zero]; rfl)
    · exact fun _ _ _ h => h
    · rfl
    · (intro w hSw; (try dsimp only at hSw); go_simp <;> with_reducible rfl)
    (try simp only [Act.put, List.setIfInBounds_toArray, List.set_cons_zero, List.set_cons_succ])
    refine wpAnyH_take (i := 7) (oi := ?_) (v := ?_) ?_ (by kernel_rfl) (by kernel_rfl) (by kernel_rfl) ?_ (Or.inl ⟨?_, ?_⟩) (by assumption) ?_
    rotate_left 2
    · (simp only [List.getElem?_toArray, List.getElem?_cons_succ, List.getElem?_cons_zero]; rfl)
    · exact fun _ _ _ h => h
    · rfl
    · (intro w hSw; (try dsimp only at hSw); go_simp <;> with_reducible rfl)
    (try simp only [Act.put, List.setIfInBounds_toArray, List.set_cons_zero, List.set_cons_succ])
    refine wpAnyH_take (i := 8) (oi := ?_) (v := ?_) ?_ (by kernel_rfl) (by kernel_rfl) (by kernel_rfl) ?_ (Or.inl ⟨?_, ?_⟩) (by assumption) ?_
    rotate_left 2
    · (simp only [List.getElem?_toArray, List.getElem?_cons_succ, List.getElem?_cons_zero]; rfl)
    · exact fun _ _ _ h => h
    · rfl
    · (intro w hSw; (try dsimp only at hSw); go_simp <;> with_reducible rfl)
    (try simp only [Act.put, List.setIfInBounds_toArray, List.set_cons_zero, List.set_cons_succ])
    refine wpAnyH_take (i := 9) (oi := ?_) (v := ?_) ?_ (by kernel_rfl) (by kernel_rfl) (by kernel_rfl) ?_ (Or.inl ⟨?_, ?_⟩) (by assumption) ?_
    rotate_left 2
    · (simp only [List.getElem?_toArray, List.getElem?_cons_succ, List.getElem?_cons_zero]; rfl)
    · exact fun _ _ _ h => h
    · rfl
    · (intro w hSw; (try dsimp only at hSw); go_simp <;> with_reducible rfl)
    (try simp only [Act.put, List.setIfInBounds_toArray, List.set_cons_zero, List.set_cons_succ])
    refine wpAnyH_take (i := 10) (oi := ?_) (v := ?_) ?_ (by kernel_rfl) (by kernel_rfl) (by kernel_rfl) ?_ (Or.inl ⟨?_, ?_⟩) (by assumption) ?_
    rotate_left 2
    · (simp only [List.getElem?_toArray, List.getElem?_cons_succ, List.getElem?_cons_zero]; rfl)
    · exact fun _ _ _ h => h
    · rfl
    · (intro w hSw; (try dsimp only at hSw); go_simp <;> with_reducible rfl)
    (try simp only [Act.put, List.setIfInBounds_toArray, List.set_cons_zero, List.set_cons_succ])
    refine wpAnyH_take (i := 11) (oi := ?_) (v := ?_) ?_ (by kernel_rfl) (by kernel_rfl) (by kernel_rfl) ?_ (Or.inl ⟨?_, ?_⟩) (by assumption) ?_
    rotate_left 2
    · (simp only [List.getElem?_toArray, List.getElem?_cons_succ, List.getElem?_cons_zero]; rfl)
    · exact fun _ _ _ h => h
    · rfl
    · (intro w hSw; (try dsimp only at hSw); go_simp <;> with_reducible rfl)
    (try simp only [Act.put, List.setIfInBounds_toArray, List.set_cons_zero, List.set_cons_succ])
    refine wpAnyH_take (i := 13) (oi := ?_) (v := ?_) ?_ (by kernel_rfl) (by kernel_rfl) (by kernel_rfl) ?_ (Or.inl ⟨?_, ?_⟩) (by assumption) ?_
    rotate_left 2
    · (simp only [List.getElem?_toArray, List.getElem?_cons_succ, List.getElem?_cons_zero]; rfl)
    · exact fun _ _ _ h => h
    · rfl
    · (intro w hSw; (try dsimp only at hSw); go_simp <;> with_reducible rfl)
    (try simp only [Act.put, List.setIfInBounds_toArray, List.set_cons_zero, List.set_cons_succ])
    refine wpAnyH_take (i := 14) (oi := ?_) (v := ?_) ?_ (by kernel_rfl) (by kernel_rfl) (by kernel_rfl) ?_ (Or.inl ⟨?_, ?_⟩) (by assumption) ?_
    rotate_left 2
    · (simp only [List.getElem?_toArray, List.getElem?_cons_succ, List.getElem?_cons_zero]; rfl)
    · exact fun _ _ _ h => h
    · rfl
    · (intro w hSw; (try dsimp only at hSw); go_simp <;> with_reducible rfl)
    (try simp only [Act.put, List.setIfInBounds_toArray, List.set_cons_zero, List.set_cons_succ])
    refine wpAnyH_take (i := 15) (oi := ?_) (v := ?_) ?_ (by kernel_rfl) (by kernel_rfl) (by kernel_rfl) ?_ (Or.inl ⟨?_, ?_⟩) (by assumption) ?_
    rotate_left 2
    · (simp only [List.getElem?_toArray, List.getElem?_cons_succ, List.getElem?_cons_zero]; rfl)
    · exact fun _ _ _ h => h
    · rfl
    · (intro w hSw; (try dsimp only at hSw); go_simp <;> with_reducible rfl)
    (try simp only [Act.put, List.setIfInBounds_toArray, List.set_cons_zero, List.set_cons_succ])
    refine wpAnyH_take (i := 16) (oi := ?_) (v := ?_) ?_ (by kernel_rfl) (by kernel_rfl) (by kernel_rfl) ?_ (Or.inl ⟨?_, ?_⟩) (by assumption) ?_
    rotate_left 2
    · (simp only [List.getElem?_toArray, List.getElem?_cons_succ, List.getElem?_cons_zero]; rfl)
    · exact fun _ _ _ h => h
    · rfl
    · (intro w hSw; (try dsimp only at hSw); go_simp <;> with_reducible rfl)
    (try simp only [Act.put, List.setIfInBounds_toArray, List.set_cons_zero, List.set_cons_succ])
    clear hs1
    refine wpAnyH_ready (rs := [5]) (by kernel_rfl) (by simp) (AllReadyH.cons (o := ?o5_4) ?h5_4 (fun K hK => ?s5_4) AllReadyH.nil)
    case h5_4 => (simp only [List.getElem?_toArray, List.getElem?_cons_succ, List.getElem?_cons_zero]; rfl)
    case' s5_4 =>
      (go_simp; refine (list_k H2d.out (c : Int) (by omega)).mono ?_; rintro r w3 ⟨vk, lk, y3, b3, rfl, hl, hr, h3⟩; obtain ⟨ko, kc, rfl⟩ := rowg_shape h3; have HR3 := Lib.hid hr; have H3 := Lib.hid h3.swap; have HL3 := Lib.hid hl; clear hr h3 H2d H2 hl)
      refine hK.out _ _ ?_ (fun hHeld => ?_)
    · exact blk_cell H3.out.snd.snd.held 0 rfl
    clear hK K
    (try simp only [Act.put, List.setIfInBounds_toArray, List.set_cons_zero, List.set_cons_succ])
    refine wpAnyH_ready (rs := [12]) (by kernel_rfl) (by simp) (AllReadyH.cons (o := ?o12_5) ?h12_5 (fun K hK => ?s12_5) AllReadyH.nil)
    case h12_5 => (simp only [List.getElem?_toArray, List.getElem?_cons_succ, List.getElem?_cons_zero]; rfl)
    case' s12_5 =>
      (go_simp; refine (list_p H3.out ((c : Int) - 1) (by omega)).mono ?_; rintro r w4 ⟨vp, lp, y4, b4, rfl, hl, hr, h4⟩; obtain ⟨po, pc, rfl⟩ := rowg_shape h4; have HR4 := Lib.hid hr; have H4 := Lib.hid h4.swap; have HL4 := Lib.hid hl; clear hr h4 H3 hl)
      refine hK.out _ _ ?_ (fun hHeld => ?_)
    · exact blk_cell H4.out.snd.snd.snd.held 0 rfl
    clear hK K
    (try simp only [Act.put, List.setIfInBounds_toArray, List.set_cons_zero, List.set_cons_succ])
    refine wpAnyH_ready (rs := [17]) (by kernel_rfl) (by simp) (AllReadyH.cons (o := ?o17_6) ?h17_6 (fun K hK => ?s17_6) AllReadyH.nil)
    case h17_6 => (simp only [List.getElem?_toArray, List.getElem?_cons_succ, List.getElem?_cons_zero]; rfl)
    case' s17_6 =>
      (go_simp; refine (list_l H4.out (c : Int) (by omega)).mono ?_; rintro r w5 ⟨vb, hs, lb, y5, b5, rfl, hl, hr, h5⟩; have hh := (Own.fixed h5.swap).len; obtain ⟨bo, bc, rfl⟩ := rowg_shape h5; rw [hh] at h5 ⊢; clear hh; have HR5 := Lib.hid hr; have H5 := Lib.hid h5; have HL5 := Lib.hid hl; clear hr h5 H4 hl)
      refine hK.out _ _ ?_ (fun hHeld => ?_)
    · exact blk_cell H5.out.snd.snd.snd.snd.snd.held 0 rfl
    clear hK K
    (try simp only [Act.put, List.setIfInBounds_toArray, List.set_cons_zero, List.set_cons_succ])
    refine wpAnyH_take (i := 18) (oi := ?_) (v := ?_) ?_ (by kernel_rfl) (by kernel_rfl) (by kernel_rfl) ?_ (Or.inl ⟨?_, ?_⟩) (by assumption) ?_
    rotate_left 2
    · (simp only [List.getElem?_toArray, List.getElem?_cons_succ, List.getElem?_cons_zero]; rfl)
    · exact fun _ _ _ h => h
    · rfl
    · (intro w hSw; (try dsimp only at hSw); go_simp <;> with_reducible rfl)
    (try simp only [Act.put, List.setIfInBounds_toArray, List.set_cons_zero, List.set_cons_succ])
    have HS := Lib.hid (own_set5 (H5.out.ac (by ac_rfl) : Own w0 w5 (Sep (Blk rb (.cells #[.bool false, .slice none 0 0, .slice none 0 0, .slice none 0 0, .slice none 0 0] 27 (0, 0))) (Sep (Blk tb (.cells #[.pointer (some ⟨p, 0, none⟩)] 62 (0, 0))) (Sep (RowG 9 (.slice po lp.length pc) lp) (Sep (RowG 43 (.slice ko lk.length kc) lk) (Sep (RowG 46 (.slice bo lb.length bc) hs) (Sep (Fix (BufsP hs lb)) (Sep (InR p y5 b5) J)))))))) (.bool false) (.slice none 0 0) (.slice po lp.length pc) (.slice ko lk.length kc) (.slice bo lb.length bc))
    have HRB := Lib.hid H5.out.snd.snd.snd.snd.snd.snd.held
    obtain ⟨e0, e1, e2, e3, e4⟩ := blk5c HRB.out
    have q0 := blk_free HRB.out 0
    have q1 := blk_free HRB.out 1
    have q2 := blk_free HRB.out 2
    have q3 := blk_free HRB.out 3
    have q4 := blk_free HRB.out 4
    clear HRB
    refine wpAnyH_ready (rs := [19]) (by kernel_rfl) (by simp) (AllReadyH.cons (o := ?o19_7) ?h19_7 (fun K hK => ?s19_7) AllReadyH.nil)
    case h19_7 => (simp only [List.getElem?_toArray, List.getElem?_cons_succ, List.getElem?_cons_zero]; rfl)
    case' s19_7 =>
      go_simp
      refine hK.out _ _ ?_ (fun hHeld => ?_)
    · exact blk_cell HS.out.snd.held 0 rfl
    clear hK K
    (try simp only [Act.put, List.setIfInBounds_toArray, List.set_cons_zero, List.set_cons_succ])
    refine wpAnyH_done (by kernel_rfl) ?_ _
    clear e0 e1 e2 e3 e4 q0 q1 q2 q3 q4 H5
    generalize World.setCell (World.setCell (World.setCell (World.setCell (World.setCell w5 _ _) _ _) _ _) _ _) _ _ = w8 at *
    obtain ⟨e0, e1, e2, e3, e4⟩ := blk5c HS.out.held
    go_wp2_with fail
    refine bodyPost_ret (v := ndv ⟨none, 0, po, pc, ko, kc, bo, bc⟩ ⟨false, [], lp, lk, lb⟩) (by simp [results, Try.results29, go_sem, e0, e1, e2, e3, e4]) rfl ?_
    refine ⟨⟨none, 0, po, pc, ko, kc, bo, bc⟩, ⟨false, [], lp, lk, lb⟩, hs, y5, b5, rfl, ⟨by simp, HL4.out, HL3.out, HL5.out⟩, ?_, ?_⟩
    · have h3 := HR3.out
      have h4 := HR4.out
      have h5 := HR5.out
      rw [Int.toNat_natCast] at h3 h5
      rw [show ((c : Int) - 1).toNat = c - 1 by omega] at h4
      exact HR1.out.bind (q := fun leaf => if leaf = true then pLeaf else pInner) (HR2.out.bind (h3.bind (h4.bind (h5.bind (Rd.ret _ _ _)))))
    · have h1 := (HS.out.snd.snd.row_nil 45 (Cel.size En))
      exact (h1.ac (by ac_rfl) : Own w0 w8 (Sep (Sep (RowV 45 (Cel.size En) (.slice none 0 0) 0 []) (Sep (RowG 9 (.slice po lp.length pc) lp) (Sep (RowG 43 (.slice ko lk.length kc) lk) (Sep (RowG 46 (.slice bo lb.length bc) hs) (Fix (BufsP hs lb)))))) (Sep (InR p y5 b5) J)))

end Go.Proofs.Ytookbmpaoljelaa
