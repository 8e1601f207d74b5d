/-
  Joined: Node10 Node11 Node12 NodeZ1 NodeZ2 PackROut PackROut2 NodeQ4.
-/
import Derived.Test.YtookbmpaoljelaaGreatNodeJ3

namespace Go.Proofs.YtookbmpaoljelaaGreat
open Go Go.RowKit
set_option linter.unusedVariables false
set_option linter.unusedSimpArgs false
set_option maxRecDepth 100000
set_option linter.unusedSimpArgs false
set_option maxRecDepth 100000

section
variable {w0 w : World} {p : Nat} {xs : List UInt8} {bad : Bool} {J : Res} [Stab J]
theorem own_inU16 (h : Own w0 w (Sep (InR p xs bad) J)) :
    Calls Tryz.prog 75 #[.pointer (some ⟨p, 0, none⟩)] w fun e w' => e = .returned (.int .u16 (numB (nextR 2 xs bad))) ∧ Own w0 w' (Sep (InR p (nextL 2 xs bad) (!can 2 xs bad)) J) := by
  refine (Own.call (val := fun _ : Unit => .int .u16 (numB (nextR 2 xs bad))) (Q := fun _ => InR p (nextL 2 xs bad) (!can 2 xs bad)) h ?_).mono ?_
  · rintro F B ⟨v, hI, hF⟩ hJ hd h0
    refine (inU16_blk p v xs bad w hI).mono ?_
    rintro e w' ⟨v', rfl, hI', ho, hs⟩
    refine ⟨(), fun k => k = p ∨ blkV v' = some k, rfl, ⟨v', hI', fun k => Iff.rfl⟩, fun k hk => .inl ((hF k).2 (hk.imp id (hs k))), ho.mono fun k _ e => (hF k).2 (.inl e)⟩
  · rintro e w' ⟨_, rfl, hq⟩
    exact ⟨rfl, hq⟩
theorem rd_u64 (h : Own w0 w (Sep (InR p xs bad) J)) : Calls Tryz.prog 38 #[.pointer (some ⟨p, 0, none⟩)] w fun e w' => ∃ (x : Nat) (ys : List UInt8) (b : Bool), e = .returned (.int .u64 (x : Int)) ∧ x < 18446744073709551616 ∧ Rd (pNum 8) xs bad x ys b ∧ Own w0 w' (Sep (InR p ys b) J) :=
  (own_inU64 h).mono fun e w' ⟨he, ho⟩ => ⟨_, _, _, he, by have := numN_lt 8 xs bad; simpa using this, Rd.num 8 xs bad, ho⟩
theorem rd_u16 (h : Own w0 w (Sep (InR p xs bad) J)) : Calls Tryz.prog 75 #[.pointer (some ⟨p, 0, none⟩)] w fun e w' => ∃ (x : Nat) (ys : List UInt8) (b : Bool), e = .returned (.int .u16 (x : Int)) ∧ x < 65536 ∧ Rd (pNum 2) xs bad x ys b ∧ Own w0 w' (Sep (InR p ys b) J) :=
  (own_inU16 h).mono fun e w' ⟨he, ho⟩ => ⟨_, _, _, he, numN_lt 2 xs bad, Rd.num 2 xs bad, ho⟩
theorem rd_u8 (h : Own w0 w (Sep (InR p xs bad) J)) : Calls Tryz.prog 74 #[.pointer (some ⟨p, 0, none⟩)] w fun e w' => ∃ (x : Nat) (ys : List UInt8) (b : Bool), e = .returned (.int .u8 (x : Int)) ∧ x < 256 ∧ Rd (pNum 1) xs bad x ys b ∧ Own w0 w' (Sep (InR p ys b) J) :=
  (own_inU8 h).mono fun e w' ⟨he, ho⟩ => ⟨_, _, _, he, numN_lt 1 xs bad, Rd.num 1 xs bad, ho⟩
theorem rd_flag (h : Own w0 w (Sep (InR p xs bad) J)) : Calls Tryz.prog 33 #[.pointer (some ⟨p, 0, none⟩)] w fun e w' => ∃ (x : Bool) (ys : List UInt8) (b : Bool), e = .returned (.bool x) ∧ Rd pFlag xs bad x ys b ∧ Own w0 w' (Sep (InR p ys b) J) :=
  (own_inFlag h).mono fun e w' ⟨he, ho⟩ => ⟨_, _, _, he, Rd.flag xs bad, ho⟩
theorem rd_text (h : Own w0 w (Sep (InR p xs bad) J)) : Calls Tryz.prog 40 #[.pointer (some ⟨p, 0, none⟩)] w fun e w' => ∃ (x : ByteArray) (ys : List UInt8) (b : Bool), e = .returned (.string x) ∧ Rd pText xs bad x ys b ∧ Own w0 w' (Sep (InR p ys b) J) :=
  (own_inText h).mono fun e w' ⟨he, ho⟩ => ⟨_, _, _, he, Rd.text xs bad, ho⟩
end
theorem blk6c {w : World} {k : Nat} {t : TypeId} {a0 a1 a2 a3 a4 a5 : Value} (h : w.heap[k]? = some (.cells #[a0, a1, a2, a3, a4, a5] t (0, 0))) :
    w.cell? ⟨k, 0, none⟩ = some a0 ∧ w.cell? ⟨k, 1, none⟩ = some a1 ∧ w.cell? ⟨k, 2, none⟩ = some a2 ∧ w.cell? ⟨k, 3, none⟩ = some a3 ∧ w.cell? ⟨k, 4, none⟩ = some a4 ∧ w.cell? ⟨k, 5, none⟩ = some a5 := by
  simp [World.cell?, h]
theorem blk7c {w : World} {k : Nat} {t : TypeId} {a0 a1 a2 a3 a4 a5 a6 : Value} (h : w.heap[k]? = some (.cells #[a0, a1, a2, a3, a4, a5, a6] t (0, 0))) :
    w.cell? ⟨k, 0, none⟩ = some a0 ∧ w.cell? ⟨k, 1, none⟩ = some a1 ∧ w.cell? ⟨k, 2, none⟩ = some a2 ∧ w.cell? ⟨k, 3, none⟩ = some a3 ∧ w.cell? ⟨k, 4, none⟩ = some a4 ∧ w.cell? ⟨k, 5, none⟩ = some a5 ∧ w.cell? ⟨k, 6, none⟩ = some a6 := by
  simp [World.cell?, h]
theorem own_set6 {w0 w : World} {k : Nat} {t : TypeId} {a0 a1 a2 a3 a4 a5 : Value} {J : Res} [Stab J] (h : Own w0 w (Sep (Blk k (.cells #[a0, a1, a2, a3, a4, a5] t (0, 0))) J)) (u0 u1 u2 u3 u4 u5 : Value) :
    Own w0 ((((((w.setCell ⟨k, 0, none⟩ u0).setCell ⟨k, 1, none⟩ u1).setCell ⟨k, 2, none⟩ u2).setCell ⟨k, 3, none⟩ u3).setCell ⟨k, 4, none⟩ u4).setCell ⟨k, 5, none⟩ u5) (Sep (Blk k (.cells #[u0, u1, u2, u3, u4, u5] t (0, 0))) J) := by
  have := (((((h.store 0 u0).store 1 u1).store 2 u2).store 3 u3).store 4 u4).store 5 u5
  simpa using this
theorem own_set7 {w0 w : World} {k : Nat} {t : TypeId} {a0 a1 a2 a3 a4 a5 a6 : Value} {J : Res} [Stab J] (h : Own w0 w (Sep (Blk k (.cells #[a0, a1, a2, a3, a4, a5, a6] t (0, 0))) J)) (u0 u1 u2 u3 u4 u5 u6 : Value) :
    Own w0 (((((((w.setCell ⟨k, 0, none⟩ u0).setCell ⟨k, 1, none⟩ u1).setCell ⟨k, 2, none⟩ u2).setCell ⟨k, 3, none⟩ u3).setCell ⟨k, 4, none⟩ u4).setCell ⟨k, 5, none⟩ u5).setCell ⟨k, 6, none⟩ u6) (Sep (Blk k (.cells #[u0, u1, u2, u3, u4, u5, u6] t (0, 0))) J) := by
  have := ((((((h.store 0 u0).store 1 u1).store 2 u2).store 3 u3).store 4 u4).store 5 u5).store 6 u6
  simpa using this
theorem tcount_any {w0 w : World} {p : Nat} {xs : List UInt8} {bad : Bool} {J : Res} [Stab J] (h : Own w0 w (Sep (InR p xs bad) J)) :
    Calls Tryz.prog 35 #[putv p] w fun e w' => ∃ (x : Nat) (ys : List UInt8) (b : Bool), e = .returned (.int .i64 (x : Int)) ∧ x < 65536 ∧ Rd (pNum 2) xs bad x ys b ∧ Own w0 w' (Sep (InR p ys b) J) := by
  have H := Lib.hid ((h.alloc (.cells #[.pointer (some ⟨p, 0, none⟩)] 47)).swap)
  have ha := blk_cell H.out.snd.held 0 rfl
  clear h
  go_enter Tryz.func35, Tryz.ntmps35
  go_wp2_with fail
  refine (rd_u16 H.out).mono ?_
  rintro e w1 ⟨x, ys, b, rfl, hx, hr, h1⟩
  have HR := Lib.hid hr
  have H1 := Lib.hid h1.drop2
  have hw : IntKind.i64.wrap (x : Int) = (x : Int) := IntWalk.i64_in _ (by omega)
  have HX := Lib.hid hx
  clear h1 hr H ha hx
  go_wp2_with fail
  go_ret
  exact ⟨x, ys, b, by first | rfl | (rw [hw]; rfl) | simp [hw], HX.out, HR.out, H1.out⟩

set_option maxHeartbeats 4000000 in
theorem tentry_any {w0 w : World} {p : Nat} {xs : List UInt8} {bad : Bool} {J : Res} [Stab J] (h : Own w0 w (Sep (InR p xs bad) J)) :
    Calls Tryz.prog 36 #[putv p] w fun r w' => ∃ (e : En) (ys : List UInt8) (b : Bool), r = .returned (env e) ∧ Rd pEntry xs bad e ys b ∧ Own w0 w' (Sep (InR p ys b) J) := by
  have H0 := Lib.hid (((h.alloc (.cells #[.pointer (some ⟨p, 0, none⟩)] 47)).alloc (.cells #[.string ⟨#[]⟩, .bool false, .string ⟨#[]⟩, .int .u64 0, .bool false, .string ⟨#[]⟩] 41)).drew.ac (by ac_rfl) : Own w0 ((w.alloc (.cells #[.pointer (some ⟨p, 0, none⟩)] 47)).alloc (.cells #[.string ⟨#[]⟩, .bool false, .string ⟨#[]⟩, .int .u64 0, .bool false, .string ⟨#[]⟩] 41)).drew (Sep (InR p xs bad) (Sep (Blk w.heap.size (.cells #[.pointer (some ⟨p, 0, none⟩)] 47 (0, 0))) (Sep (Blk (w.alloc (.cells #[.pointer (some ⟨p, 0, none⟩)] 47)).heap.size (.cells #[.string ⟨#[]⟩, .bool false, .string ⟨#[]⟩, .int .u64 0, .bool false, .string ⟨#[]⟩] 41 (0, 0))) J))))
  rw [World.size_alloc] at H0
  clear h
  go_enter Tryz.func36, Tryz.ntmps36
  go_upto_region 1 with fail
  generalize w.heap.size + 1 = rb at *
  generalize w.heap.size = tb at *
  refine wp_region_held_drew (S := (fun w' => w'.cell? ⟨tb, 0, none⟩ = some (.pointer (some ⟨p, 0, none⟩)))) (by kernel_rfl) ?_ (fun hHeld => ?_)
  · exact blk_cell H0.out.snd.held 0 rfl
  refine wpAnyH_take (i := 0) (oi := ?_) (v := ?_) ?_ (by kernel_rfl) (by kernel_rfl) (by kernel_rfl) ?_ (Or.inl ⟨?_, ?_⟩) (by assumption) ?_
  rotate_left 2
  · (simp only [List.getElem?_toArray, List.getElem?_cons_zero]; rfl)
  · exact fun _ _ _ h => h
  · rfl
  · (intro w hSw; (try dsimp only at hSw); go_simp <;> with_reducible rfl)
  (try simp only [Act.put, List.setIfInBounds_toArray, List.set_cons_zero, List.set_cons_succ])
  refine wpAnyH_take (i := 1) (oi := ?_) (v := ?_) ?_ (by kernel_rfl) (by kernel_rfl) (by kernel_rfl) ?_ (Or.inl ⟨?_, ?_⟩) (by assumption) ?_
  rotate_left 2
  · (simp only [List.getElem?_toArray, List.getElem?_cons_succ, List.getElem?_cons_zero]; rfl)
  · exact fun _ _ _ h => h
  · rfl
  · (intro w hSw; (try dsimp only at hSw); go_simp <;> with_reducible rfl)
  (try simp only [Act.put, List.setIfInBounds_toArray, List.set_cons_zero, List.set_cons_succ])
  refine wpAnyH_take (i := 3) (oi := ?_) (v := ?_) ?_ (by kernel_rfl) (by kernel_rfl) (by kernel_rfl) ?_ (Or.inl ⟨?_, ?_⟩) (by assumption) ?_
  rotate_left 2
  · (simp only [List.getElem?_toArray, List.getElem?_cons_succ, List.getElem?_cons_zero]; rfl)
  · exact fun _ _ _ h => h
  · rfl
  · (intro w hSw; (try dsimp only at hSw); go_simp <;> with_reducible rfl)
  (try simp only [Act.put, List.setIfInBounds_toArray, List.set_cons_zero, List.set_cons_succ])
  refine wpAnyH_take (i := 4) (oi := ?_) (v := ?_) ?_ (by kernel_rfl) (by kernel_rfl) (by kernel_rfl) ?_ (Or.inl ⟨?_, ?_⟩) (by assumption) ?_
  rotate_left 2
  · (simp only [List.getElem?_toArray, List.getElem?_cons_succ, List.getElem?_cons_zero]; rfl)
  · exact fun _ _ _ h => h
  · rfl
  · (intro w hSw; (try dsimp only at hSw); go_simp <;> with_reducible rfl)
  (try simp only [Act.put, List.setIfInBounds_toArray, List.set_cons_zero, List.set_cons_succ])
  refine wpAnyH_take (i := 6) (oi := ?_) (v := ?_) ?_ (by kernel_rfl) (by kernel_rfl) (by kernel_rfl) ?_ (Or.inl ⟨?_, ?_⟩) (by assumption) ?_
  rotate_left 2
  · (simp only [List.getElem?_toArray, List.getElem?_cons_succ, List.getElem?_cons_zero]; rfl)
  · exact fun _ _ _ h => h
  · rfl
  · (intro w hSw; (try dsimp only at hSw); go_simp <;> with_reducible rfl)
  (try simp only [Act.put, List.setIfInBounds_toArray, List.set_cons_zero, List.set_cons_succ])
  refine wpAnyH_take (i := 7) (oi := ?_) (v := ?_) ?_ (by kernel_rfl) (by kernel_rfl) (by kernel_rfl) ?_ (Or.inl ⟨?_, ?_⟩) (by assumption) ?_
  rotate_left 2
  · (simp only [List.getElem?_toArray, List.getElem?_cons_succ, List.getElem?_cons_zero]; rfl)
  · exact fun _ _ _ h => h
  · rfl
  · (intro w hSw; (try dsimp only at hSw); go_simp <;> with_reducible rfl)
  (try simp only [Act.put, List.setIfInBounds_toArray, List.set_cons_zero, List.set_cons_succ])
  refine wpAnyH_take (i := 9) (oi := ?_) (v := ?_) ?_ (by kernel_rfl) (by kernel_rfl) (by kernel_rfl) ?_ (Or.inl ⟨?_, ?_⟩) (by assumption) ?_
  rotate_left 2
  · (simp only [List.getElem?_toArray, List.getElem?_cons_succ, List.getElem?_cons_zero]; rfl)
  · exact fun _ _ _ h => h
  · rfl
  · (intro w hSw; (try dsimp only at hSw); go_simp <;> with_reducible rfl)
  (try simp only [Act.put, List.setIfInBounds_toArray, List.set_cons_zero, List.set_cons_succ])
  refine wpAnyH_take (i := 10) (oi := ?_) (v := ?_) ?_ (by kernel_rfl) (by kernel_rfl) (by kernel_rfl) ?_ (Or.inl ⟨?_, ?_⟩) (by assumption) ?_
  rotate_left 2
  · (simp only [List.getElem?_toArray, List.getElem?_cons_succ, List.getElem?_cons_zero]; rfl)
  · exact fun _ _ _ h => h
  · rfl
  · (intro w hSw; (try dsimp only at hSw); go_simp <;> with_reducible rfl)
  (try simp only [Act.put, List.setIfInBounds_toArray, List.set_cons_zero, List.set_cons_succ])
  refine wpAnyH_take (i := 12) (oi := ?_) (v := ?_) ?_ (by kernel_rfl) (by kernel_rfl) (by kernel_rfl) ?_ (Or.inl ⟨?_, ?_⟩) (by assumption) ?_
  rotate_left 2
  · (simp only [List.getElem?_toArray, List.getElem?_cons_succ, List.getElem?_cons_zero]; rfl)
  · exact fun _ _ _ h => h
  · rfl
  · (intro w hSw; (try dsimp only at hSw); go_simp <;> with_reducible rfl)
  (try simp only [Act.put, List.setIfInBounds_toArray, List.set_cons_zero, List.set_cons_succ])
  refine wpAnyH_take (i := 13) (oi := ?_) (v := ?_) ?_ (by kernel_rfl) (by kernel_rfl) (by kernel_rfl) ?_ (Or.inl ⟨?_, ?_⟩) (by assumption) ?_
  rotate_left 2
  · (simp only [List.getElem?_toArray, List.getElem?_cons_succ, List.getElem?_cons_zero]; rfl)
  · exact fun _ _ _ h => h
  · rfl
  · (intro w hSw; (try dsimp only at hSw); go_simp <;> with_reducible rfl)
  (try simp only [Act.put, List.setIfInBounds_toArray, List.set_cons_zero, List.set_cons_succ])
  refine wpAnyH_take (i := 15) (oi := ?_) (v := ?_) ?_ (by kernel_rfl) (by kernel_rfl) (by kernel_rfl) ?_ (Or.inl ⟨?_, ?_⟩) (by assumption) ?_
  rotate_left 2
  · (simp only [List.getElem?_toArray, List.getElem?_cons_succ, List.getElem?_cons_zero]; rfl)
  · exact fun _ _ _ h => h
  · rfl
  · (intro w hSw; (try dsimp only at hSw); go_simp <;> with_reducible rfl)
  (try simp only [Act.put, List.setIfInBounds_toArray, List.set_cons_zero, List.set_cons_succ])
  refine wpAnyH_take (i := 16) (oi := ?_) (v := ?_) ?_ (by kernel_rfl) (by kernel_rfl) (by kernel_rfl) ?_ (Or.inl ⟨?_, ?_⟩) (by assumption) ?_
  rotate_left 2
  · (simp only [List.getElem?_toArray, List.getElem?_cons_succ, List.getElem?_cons_zero]; rfl)
  · exact fun _ _ _ h => h
  · rfl
  · (intro w hSw; (try dsimp only at hSw); go_simp <;> with_reducible rfl)
  (try simp only [Act.put, List.setIfInBounds_toArray, List.set_cons_zero, List.set_cons_succ])
  refine wpAnyH_ready (rs := [2]) (by kernel_rfl) (by simp) (AllReadyH.cons (o := ?o2_1) ?h2_1 (fun K hK => ?s2_1) AllReadyH.nil)
  case h2_1 => (simp only [List.getElem?_toArray, List.getElem?_cons_succ, List.getElem?_cons_zero]; rfl)
  case' s2_1 =>
    (go_simp; refine (rd_text H0.out).mono ?_; rintro r w1 ⟨S1, y1, b1, rfl, hr, h1⟩; have HR1 := Lib.hid hr; have H1 := Lib.hid h1; clear hr h1 H0)
    refine hK.out _ _ ?_ (fun hHeld => ?_)
  · exact blk_cell H1.out.snd.held 0 rfl
  clear hK K
  (try simp only [Act.put, List.setIfInBounds_toArray, List.set_cons_zero, List.set_cons_succ])
  refine wpAnyH_ready (rs := [5]) (by kernel_rfl) (by simp) (AllReadyH.cons (o := ?o5_2) ?h5_2 (fun K hK => ?s5_2) AllReadyH.nil)
  case h5_2 => (simp only [List.getElem?_toArray, List.getElem?_cons_succ, List.getElem?_cons_zero]; rfl)
  case' s5_2 =>
    (go_simp; refine (rd_flag H1.out).mono ?_; rintro r w2 ⟨f2, y2, b2, rfl, hr, h1⟩; have HR2 := Lib.hid hr; have H2 := Lib.hid h1; clear hr h1 H1)
    refine hK.out _ _ ?_ (fun hHeld => ?_)
  · exact blk_cell H2.out.snd.held 0 rfl
  clear hK K
  (try simp only [Act.put, List.setIfInBounds_toArray, List.set_cons_zero, List.set_cons_succ])
  refine wpAnyH_ready (rs := [8]) (by kernel_rfl) (by simp) (AllReadyH.cons (o := ?o8_3) ?h8_3 (fun K hK => ?s8_3) AllReadyH.nil)
  case h8_3 => (simp only [List.getElem?_toArray, List.getElem?_cons_succ, List.getElem?_cons_zero]; rfl)
  case' s8_3 =>
    (go_simp; refine (rd_text H2.out).mono ?_; rintro r w3 ⟨S3, y3, b3, rfl, hr, h1⟩; have HR3 := Lib.hid hr; have H3 := Lib.hid h1; clear hr h1 H2)
    refine hK.out _ _ ?_ (fun hHeld => ?_)
  · exact blk_cell H3.out.snd.held 0 rfl
  clear hK K
  (try simp only [Act.put, List.setIfInBounds_toArray, List.set_cons_zero, List.set_cons_succ])
  refine wpAnyH_ready (rs := [11]) (by kernel_rfl) (by simp) (AllReadyH.cons (o := ?o11_4) ?h11_4 (fun K hK => ?s11_4) AllReadyH.nil)
  case h11_4 => (simp only [List.getElem?_toArray, List.getElem?_cons_succ, List.getElem?_cons_zero]; rfl)
  case' s11_4 =>
    (go_simp; refine (rd_u64 H3.out).mono ?_; rintro r w4 ⟨x4, y4, b4, rfl, hx4, hr, h1⟩; have HR4 := Lib.hid hr; have H4 := Lib.hid h1; clear hr h1 H3)
    refine hK.out _ _ ?_ (fun hHeld => ?_)
  · exact blk_cell H4.out.snd.held 0 rfl
  clear hK K
  (try simp only [Act.put, List.setIfInBounds_toArray, List.set_cons_zero, List.set_cons_succ])
  refine wpAnyH_ready (rs := [14]) (by kernel_rfl) (by simp) (AllReadyH.cons (o := ?o14_5) ?h14_5 (fun K hK => ?s14_5) AllReadyH.nil)
  case h14_5 => (simp only [List.getElem?_toArray, List.getElem?_cons_succ, List.getElem?_cons_zero]; rfl)
  case' s14_5 =>
    (go_simp; refine (rd_flag H4.out).mono ?_; rintro r w5 ⟨f5, y5, b5, rfl, hr, h1⟩; have HR5 := Lib.hid hr; have H5 := Lib.hid h1; clear hr h1 H4)
    refine hK.out _ _ ?_ (fun hHeld => ?_)
  · exact blk_cell H5.out.snd.held 0 rfl
  clear hK K
  (try simp only [Act.put, List.setIfInBounds_toArray, List.set_cons_zero, List.set_cons_succ])
  refine wpAnyH_ready (rs := [17]) (by kernel_rfl) (by simp) (AllReadyH.cons (o := ?o17_6) ?h17_6 (fun K hK => ?s17_6) AllReadyH.nil)
  case h17_6 => (simp only [List.getElem?_toArray, List.getElem?_cons_succ, List.getElem?_cons_zero]; rfl)
  case' s17_6 =>
    (go_simp; refine (rd_text H5.out).mono ?_; rintro r w6 ⟨S6, y6, b6, rfl, hr, h1⟩; have HR6 := Lib.hid hr; have H6 := Lib.hid h1; clear hr h1 H5)
    refine hK.out _ _ ?_ (fun hHeld => ?_)
  · exact blk_cell H6.out.snd.held 0 rfl
  clear hK K
  (try simp only [Act.put, List.setIfInBounds_toArray, List.set_cons_zero, List.set_cons_succ])
  refine wpAnyH_take (i := 18) (oi := ?_) (v := ?_) ?_ (by kernel_rfl) (by kernel_rfl) (by kernel_rfl) ?_ (Or.inl ⟨?_, ?_⟩) (by assumption) ?_
  rotate_left 2
  · (simp only [List.getElem?_toArray, List.getElem?_cons_succ, List.getElem?_cons_zero]; rfl)
  · exact fun _ _ _ h => h
  · rfl
  · (intro w hSw; (try dsimp only at hSw); go_simp <;> with_reducible rfl)
  (try simp only [Act.put, List.setIfInBounds_toArray, List.set_cons_zero, List.set_cons_succ])
  have HS := Lib.hid (own_set6 (H6.out.ac (by ac_rfl) : Own w0 w6 (Sep (Blk rb (.cells #[.string ⟨#[]⟩, .bool false, .string ⟨#[]⟩, .int .u64 0, .bool false, .string ⟨#[]⟩] 41 (0, 0))) (Sep (Blk tb (.cells #[.pointer (some ⟨p, 0, none⟩)] 47 (0, 0))) (Sep (InR p y6 b6) J)))) (.string S1) (.bool f2) (.string S3) (.int .u64 (x4 : Int)) (.bool f5) (.string S6))
  obtain ⟨e0, e1, e2, e3, e4, e5⟩ := blk6c H6.out.snd.snd.held
  have q0 := blk_free H6.out.snd.snd.held 0
  have q1 := blk_free H6.out.snd.snd.held 1
  have q2 := blk_free H6.out.snd.snd.held 2
  have q3 := blk_free H6.out.snd.snd.held 3
  have q4 := blk_free H6.out.snd.snd.held 4
  have q5 := blk_free H6.out.snd.snd.held 5
  refine wpAnyH_ready (rs := [19]) (by kernel_rfl) (by simp) (AllReadyH.cons (o := ?o19_7) ?h19_7 (fun K hK => ?s19_7) AllReadyH.nil)
  case h19_7 => (simp only [List.getElem?_toArray, List.getElem?_cons_succ, List.getElem?_cons_zero]; rfl)
  case' s19_7 =>
    go_simp
    refine hK.out _ _ ?_ (fun hHeld => ?_)
  · exact blk_cell HS.out.snd.held 0 rfl
  clear hK K
  (try simp only [Act.put, List.setIfInBounds_toArray, List.set_cons_zero, List.set_cons_succ])
  refine wpAnyH_done (by kernel_rfl) ?_ _
  clear e0 q0 e1 q1 e2 q2 e3 q3 e4 q4 e5 q5 H6
  generalize World.setCell (World.setCell (World.setCell (World.setCell (World.setCell (World.setCell w6 _ _) _ _) _ _) _ _) _ _) _ _ = w8 at *
  obtain ⟨e0, e1, e2, e3, e4, e5⟩ := blk6c HS.out.held
  go_wp2_with fail
  refine bodyPost_ret (v := env ⟨S1, f2, S3, (x4 : Int), f5, S6⟩) (by simp [results, Tryz.results36, go_sem, e0, e1, e2, e3, e4, e5]) rfl ?_
  refine ⟨⟨S1, f2, S3, (x4 : Int), f5, S6⟩, y6, b6, rfl, ?_, HS.out.snd.snd⟩
  exact HR1.out.bind (HR2.out.bind (HR3.out.bind (HR4.out.bind (HR5.out.bind (HR6.out.bind (Rd.ret _ _ _))))))

set_option maxHeartbeats 4000000 in
theorem tmsg_any {w0 w : World} {p : Nat} {xs : List UInt8} {bad : Bool} {J : Res} [Stab J] (h : Own w0 w (Sep (InR p xs bad) J)) :
    Calls Tryz.prog 79 #[putv p] w fun r w' => ∃ (e : Ms) (ys : List UInt8) (b : Bool), r = .returned (msv e) ∧ Rd pMsg xs bad e ys b ∧ Own w0 w' (Sep (InR p ys b) J) := by
  have H0 := Lib.hid (((h.alloc (.cells #[.pointer (some ⟨p, 0, none⟩)] 47)).alloc (.cells #[.int .u64 0, .int .i64 0, .string ⟨#[]⟩, .int .u64 0, .string ⟨#[]⟩, .int .i64 0, .int .u64 0] 80)).drew.ac (by ac_rfl) : Own w0 ((w.alloc (.cells #[.pointer (some ⟨p, 0, none⟩)] 47)).alloc (.cells #[.int .u64 0, .int .i64 0, .string ⟨#[]⟩, .int .u64 0, .string ⟨#[]⟩, .int .i64 0, .int .u64 0] 80)).drew (Sep (InR p xs bad) (Sep (Blk w.heap.size (.cells #[.pointer (some ⟨p, 0, none⟩)] 47 (0, 0))) (Sep (Blk (w.alloc (.cells #[.pointer (some ⟨p, 0, none⟩)] 47)).heap.size (.cells #[.int .u64 0, .int .i64 0, .string ⟨#[]⟩, .int .u64 0, .string ⟨#[]⟩, .int .i64 0, .int .u64 0] 80 (0, 0))) J))))
  rw [World.size_alloc] at H0
  clear h
  go_enter Tryz.func79, Tryz.ntmps79
  go_upto_region 1 with fail
  generalize w.heap.size + 1 = rb at *
  generalize w.heap.size = tb at *
  refine wp_region_held_drew (S := (fun w' => w'.cell? ⟨tb, 0, none⟩ = some (.pointer (some ⟨p, 0, none⟩)))) (by kernel_rfl) ?_ (fun hHeld => ?_)
  · exact blk_cell H0.out.snd.held 0 rfl
  refine wpAnyH_take (i := 0) (oi := ?_) (v := ?_) ?_ (by kernel_rfl) (by kernel_rfl) (by kernel_rfl) ?_ (Or.inl ⟨?_, ?_⟩) (by assumption) ?_
  rotate_left 2
  · (simp only [List.getElem?_toArray, List.getElem?_cons_zero]; rfl)
  · exact fun _ _ _ h => h
  · rfl
  · (intro w hSw; (try dsimp only at hSw); go_simp <;> with_reducible rfl)
  (try simp only [Act.put, List.setIfInBounds_toArray, List.set_cons_zero, List.set_cons_succ])
  refine wpAnyH_take (i := 1) (oi := ?_) (v := ?_) ?_ (by kernel_rfl) (by kernel_rfl) (by kernel_rfl) ?_ (Or.inl ⟨?_, ?_⟩) (by assumption) ?_
  rotate_left 2
  · (simp only [List.getElem?_toArray, List.getElem?_cons_succ, List.getElem?_cons_zero]; rfl)
  · exact fun _ _ _ h => h
  · rfl
  · (intro w hSw; (try dsimp only at hSw); go_simp <;> with_reducible rfl)
  (try simp only [Act.put, List.setIfInBounds_toArray, List.set_cons_zero, List.set_cons_succ])
  refine wpAnyH_take (i := 3) (oi := ?_) (v := ?_) ?_ (by kernel_rfl) (by kernel_rfl) (by kernel_rfl) ?_ (Or.inl ⟨?_, ?_⟩) (by assumption) ?_
  rotate_left 2
  · (simp only [List.getElem?_toArray, List.getElem?_cons_succ, List.getElem?_cons_zero]; rfl)
  · exact fun _ _ _ h => h
  · rfl
  · (intro w hSw; (try dsimp only at hSw); go_simp <;> with_reducible rfl)
  (try simp only [Act.put, List.setIfInBounds_toArray, List.set_cons_zero, List.set_cons_succ])
  refine wpAnyH_take (i := 4) (oi := ?_) (v := ?_) ?_ (by kernel_rfl) (by kernel_rfl) (by kernel_rfl) ?_ (Or.inl ⟨?_, ?_⟩) (by assumption) ?_
  rotate_left 2
  · (simp only [List.getElem?_toArray, List.getElem?_cons_succ, List.getElem?_cons_zero]; rfl)
  · exact fun _ _ _ h => h
  · rfl
  · (intro w hSw; (try dsimp only at hSw); go_simp <;> with_reducible rfl)
  (try simp only [Act.put, List.setIfInBounds_toArray, List.set_cons_zero, List.set_cons_succ])
  refine wpAnyH_take (i := 7) (oi := ?_) (v := ?_) ?_ (by kernel_rfl) (by kernel_rfl) (by kernel_rfl) ?_ (Or.inl ⟨?_, ?_⟩) (by assumption) ?_
  rotate_left 2
  · (simp only [List.getElem?_toArray, List.getElem?_cons_succ, List.getElem?_cons_zero]; rfl)
  · exact fun _ _ _ h => h
  · rfl
  · (intro w hSw; (try dsimp only at hSw); go_simp <;> with_reducible rfl)
  (try simp only [Act.put, List.setIfInBounds_toArray, List.set_cons_zero, List.set_cons_succ])
  refine wpAnyH_take (i := 8) (oi := ?_) (v := ?_) ?_ (by kernel_rfl) (by kernel_rfl) (by kernel_rfl) ?_ (Or.inl ⟨?_, ?_⟩) (by assumption) ?_
  rotate_left 2
  · (simp only [List.getElem?_toArray, List.getElem?_cons_succ, List.getElem?_cons_zero]; rfl)
  · exact fun _ _ _ h => h
  · rfl
  · (intro w hSw; (try dsimp only at hSw); go_simp <;> with_reducible rfl)
  (try simp only [Act.put, List.setIfInBounds_toArray, List.set_cons_zero, List.set_cons_succ])
  refine wpAnyH_take (i := 10) (oi := ?_) (v := ?_) ?_ (by kernel_rfl) (by kernel_rfl) (by kernel_rfl) ?_ (Or.inl ⟨?_, ?_⟩) (by assumption) ?_
  rotate_left 2
  · (simp only [List.getElem?_toArray, List.getElem?_cons_succ, List.getElem?_cons_zero]; rfl)
  · exact fun _ _ _ h => h
  · rfl
  · (intro w hSw; (try dsimp only at hSw); go_simp <;> with_reducible rfl)
  (try simp only [Act.put, List.setIfInBounds_toArray, List.set_cons_zero, List.set_cons_succ])
  refine wpAnyH_take (i := 11) (oi := ?_) (v := ?_) ?_ (by kernel_rfl) (by kernel_rfl) (by kernel_rfl) ?_ (Or.inl ⟨?_, ?_⟩) (by assumption) ?_
  rotate_left 2
  · (simp only [List.getElem?_toArray, List.getElem?_cons_succ, List.getElem?_cons_zero]; rfl)
  · exact fun _ _ _ h => h
  · rfl
  · (intro w hSw; (try dsimp only at hSw); go_simp <;> with_reducible rfl)
  (try simp only [Act.put, List.setIfInBounds_toArray, List.set_cons_zero, List.set_cons_succ])
  refine wpAnyH_take (i := 13) (oi := ?_) (v := ?_) ?_ (by kernel_rfl) (by kernel_rfl) (by kernel_rfl) ?_ (Or.inl ⟨?_, ?_⟩) (by assumption) ?_
  rotate_left 2
  · (simp only [List.getElem?_toArray, List.getElem?_cons_succ, List.getElem?_cons_zero]; rfl)
  · exact fun _ _ _ h => h
  · rfl
  · (intro w hSw; (try dsimp only at hSw); go_simp <;> with_reducible rfl)
  (try simp only [Act.put, List.setIfInBounds_toArray, List.set_cons_zero, List.set_cons_succ])
  refine wpAnyH_take (i := 14) (oi := ?_) (v := ?_) ?_ (by kernel_rfl) (by kernel_rfl) (by kernel_rfl) ?_ (Or.inl ⟨?_, ?_⟩) (by assumption) ?_
  rotate_left 2
  · (simp only [List.getElem?_toArray, List.getElem?_cons_succ, List.getElem?_cons_zero]; rfl)
  · exact fun _ _ _ h => h
  · rfl
  · (intro w hSw; (try dsimp only at hSw); go_simp <;> with_reducible rfl)
  (try simp only [Act.put, List.setIfInBounds_toArray, List.set_cons_zero, List.set_cons_succ])
  refine wpAnyH_take (i := 16) (oi := ?_) (v := ?_) ?_ (by kernel_rfl) (by kernel_rfl) (by kernel_rfl) ?_ (Or.inl ⟨?_, ?_⟩) (by assumption) ?_
  rotate_left 2
  · (simp only [List.getElem?_toArray, List.getElem?_cons_succ, List.getElem?_cons_zero]; rfl)
  · exact fun _ _ _ h => h
  · rfl
  · (intro w hSw; (try dsimp only at hSw); go_simp <;> with_reducible rfl)
  (try simp only [Act.put, List.setIfInBounds_toArray, List.set_cons_zero, List.set_cons_succ])
  refine wpAnyH_take (i := 17) (oi := ?_) (v := ?_) ?_ (by kernel_rfl) (by kernel_rfl) (by kernel_rfl) ?_ (Or.inl ⟨?_, ?_⟩) (by assumption) ?_
  rotate_left 2
  · (simp only [List.getElem?_toArray, List.getElem?_cons_succ, List.getElem?_cons_zero]; rfl)
  · exact fun _ _ _ h => h
  · rfl
  · (intro w hSw; (try dsimp only at hSw); go_simp <;> with_reducible rfl)
  (try simp only [Act.put, List.setIfInBounds_toArray, List.set_cons_zero, List.set_cons_succ])
  refine wpAnyH_take (i := 20) (oi := ?_) (v := ?_) ?_ (by kernel_rfl) (by kernel_rfl) (by kernel_rfl) ?_ (Or.inl ⟨?_, ?_⟩) (by assumption) ?_
  rotate_left 2
  · (simp only [List.getElem?_toArray, List.getElem?_cons_succ, List.getElem?_cons_zero]; rfl)
  · exact fun _ _ _ h => h
  · rfl
  · (intro w hSw; (try dsimp only at hSw); go_simp <;> with_reducible rfl)
  (try simp only [Act.put, List.setIfInBounds_toArray, List.set_cons_zero, List.set_cons_succ])
  refine wpAnyH_take (i := 21) (oi := ?_) (v := ?_) ?_ (by kernel_rfl) (by kernel_rfl) (by kernel_rfl) ?_ (Or.inl ⟨?_, ?_⟩) (by assumption) ?_
  rotate_left 2
  · (simp only [List.getElem?_toArray, List.getElem?_cons_succ, List.getElem?_cons_zero]; rfl)
  · exact fun _ _ _ h => h
  · rfl
  · (intro w hSw; (try dsimp only at hSw); go_simp <;> with_reducible rfl)
  (try simp only [Act.put, List.setIfInBounds_toArray, List.set_cons_zero, List.set_cons_succ])
  refine wpAnyH_ready (rs := [2]) (by kernel_rfl) (by simp) (AllReadyH.cons (o := ?o2_8) ?h2_8 (fun K hK => ?s2_8) AllReadyH.nil)
  case h2_8 => (simp only [List.getElem?_toArray, List.getElem?_cons_succ, List.getElem?_cons_zero]; rfl)
  case' s2_8 =>
    (go_simp; refine (rd_u64 H0.out).mono ?_; rintro r w1 ⟨x1, y1, b1, rfl, hx1, hr, h1⟩; have HR1 := Lib.hid hr; have H1 := Lib.hid h1; clear hr h1 H0)
    refine hK.out _ _ ?_ (fun hHeld => ?_)
  · exact blk_cell H1.out.snd.held 0 rfl
  clear hK K
  (try simp only [Act.put, List.setIfInBounds_toArray, List.set_cons_zero, List.set_cons_succ])
  refine wpAnyH_ready (rs := [5]) (by kernel_rfl) (by simp) (AllReadyH.cons (o := ?o5_9) ?h5_9 (fun K hK => ?s5_9) AllReadyH.nil)
  case h5_9 => (simp only [List.getElem?_toArray, List.getElem?_cons_succ, List.getElem?_cons_zero]; rfl)
  case' s5_9 =>
    (go_simp; refine (rd_u8 H1.out).mono ?_; rintro r w2 ⟨x2, y2, b2, rfl, hx2, hr, h1⟩; have HR2 := Lib.hid hr; have H2 := Lib.hid h1; clear hr h1 H1; have hw2 : IntKind.i64.wrap (x2 : Int) = (x2 : Int) := IntWalk.i64_in _ (by omega))
    refine hK.out _ _ ?_ (fun hHeld => ?_)
  · exact blk_cell H2.out.snd.held 0 rfl
  clear hK K
  (try simp only [Act.put, List.setIfInBounds_toArray, List.set_cons_zero, List.set_cons_succ])
  refine wpAnyH_take (i := 6) (oi := ?_) (v := ?_) ?_ (by kernel_rfl) (by kernel_rfl) (by kernel_rfl) ?_ (Or.inl ⟨?_, ?_⟩) (by assumption) ?_
  rotate_left 2
  · (simp only [List.getElem?_toArray, List.getElem?_cons_succ, List.getElem?_cons_zero]; rfl)
  · exact fun _ _ _ h => h
  · rfl
  · (intro w hSw; (try dsimp only at hSw); go_simp <;> with_reducible rfl)
  (try simp only [Act.put, List.setIfInBounds_toArray, List.set_cons_zero, List.set_cons_succ])
  refine wpAnyH_ready (rs := [9]) (by kernel_rfl) (by simp) (AllReadyH.cons (o := ?o9_10) ?h9_10 (fun K hK => ?s9_10) AllReadyH.nil)
  case h9_10 => (simp only [List.getElem?_toArray, List.getElem?_cons_succ, List.getElem?_cons_zero]; rfl)
  case' s9_10 =>
    (go_simp; refine (rd_text H2.out).mono ?_; rintro r w3 ⟨S3, y3, b3, rfl, hr, h1⟩; have HR3 := Lib.hid hr; have H3 := Lib.hid h1; clear hr h1 H2)
    refine hK.out _ _ ?_ (fun hHeld => ?_)
  · exact blk_cell H3.out.snd.held 0 rfl
  clear hK K
  (try simp only [Act.put, List.setIfInBounds_toArray, List.set_cons_zero, List.set_cons_succ])
  refine wpAnyH_ready (rs := [12]) (by kernel_rfl) (by simp) (AllReadyH.cons (o := ?o12_11) ?h12_11 (fun K hK => ?s12_11) AllReadyH.nil)
  case h12_11 => (simp only [List.getElem?_toArray, List.getElem?_cons_succ, List.getElem?_cons_zero]; rfl)
  case' s12_11 =>
    (go_simp; refine (rd_u64 H3.out).mono ?_; rintro r w4 ⟨x4, y4, b4, rfl, hx4, hr, h1⟩; have HR4 := Lib.hid hr; have H4 := Lib.hid h1; clear hr h1 H3)
    refine hK.out _ _ ?_ (fun hHeld => ?_)
  · exact blk_cell H4.out.snd.held 0 rfl
  clear hK K
  (try simp only [Act.put, List.setIfInBounds_toArray, List.set_cons_zero, List.set_cons_succ])
  refine wpAnyH_ready (rs := [15]) (by kernel_rfl) (by simp) (AllReadyH.cons (o := ?o15_12) ?h15_12 (fun K hK => ?s15_12) AllReadyH.nil)
  case h15_12 => (simp only [List.getElem?_toArray, List.getElem?_cons_succ, List.getElem?_cons_zero]; rfl)
  case' s15_12 =>
    (go_simp; refine (rd_text H4.out).mono ?_; rintro r w5 ⟨S5, y5, b5, rfl, hr, h1⟩; have HR5 := Lib.hid hr; have H5 := Lib.hid h1; clear hr h1 H4)
    refine hK.out _ _ ?_ (fun hHeld => ?_)
  · exact blk_cell H5.out.snd.held 0 rfl
  clear hK K
  (try simp only [Act.put, List.setIfInBounds_toArray, List.set_cons_zero, List.set_cons_succ])
  refine wpAnyH_ready (rs := [18]) (by kernel_rfl) (by simp) (AllReadyH.cons (o := ?o18_13) ?h18_13 (fun K hK => ?s18_13) AllReadyH.nil)
  case h18_13 => (simp only [List.getElem?_toArray, List.getElem?_cons_succ, List.getElem?_cons_zero]; rfl)
  case' s18_13 =>
    (go_simp; refine (rd_u16 H5.out).mono ?_; rintro r w6 ⟨x6, y6, b6, rfl, hx6, hr, h1⟩; have HR6 := Lib.hid hr; have H6 := Lib.hid h1; clear hr h1 H5; have hw6 : IntKind.i64.wrap (x6 : Int) = (x6 : Int) := IntWalk.i64_in _ (by omega))
    refine hK.out _ _ ?_ (fun hHeld => ?_)
  · exact blk_cell H6.out.snd.held 0 rfl
  clear hK K
  (try simp only [Act.put, List.setIfInBounds_toArray, List.set_cons_zero, List.set_cons_succ])
  refine wpAnyH_take (i := 19) (oi := ?_) (v := ?_) ?_ (by kernel_rfl) (by kernel_rfl) (by kernel_rfl) ?_ (Or.inl ⟨?_, ?_⟩) (by assumption) ?_
  rotate_left 2
  · (simp only [List.getElem?_toArray, List.getElem?_cons_succ, List.getElem?_cons_zero]; rfl)
  · exact fun _ _ _ h => h
  · rfl
  · (intro w hSw; (try dsimp only at hSw); go_simp <;> with_reducible rfl)
  (try simp only [Act.put, List.setIfInBounds_toArray, List.set_cons_zero, List.set_cons_succ])
  refine wpAnyH_ready (rs := [22]) (by kernel_rfl) (by simp) (AllReadyH.cons (o := ?o22_14) ?h22_14 (fun K hK => ?s22_14) AllReadyH.nil)
  case h22_14 => (simp only [List.getElem?_toArray, List.getElem?_cons_succ, List.getElem?_cons_zero]; rfl)
  case' s22_14 =>
    (go_simp; refine (rd_u64 H6.out).mono ?_; rintro r w7 ⟨x7, y7, b7, rfl, hx7, hr, h1⟩; have HR7 := Lib.hid hr; have H7 := Lib.hid h1; clear hr h1 H6)
    refine hK.out _ _ ?_ (fun hHeld => ?_)
  · exact blk_cell H7.out.snd.held 0 rfl
  clear hK K
  (try simp only [Act.put, List.setIfInBounds_toArray, List.set_cons_zero, List.set_cons_succ])
  refine wpAnyH_take (i := 23) (oi := ?_) (v := ?_) ?_ (by kernel_rfl) (by kernel_rfl) (by kernel_rfl) ?_ (Or.inl ⟨?_, ?_⟩) (by assumption) ?_
  rotate_left 2
  · (simp only [List.getElem?_toArray, List.getElem?_cons_succ, List.getElem?_cons_zero]; rfl)
  · exact fun _ _ _ h => h
  · rfl
  · (intro w hSw; (try dsimp only at hSw); go_simp <;> with_reducible rfl)
  (try simp only [Act.put, List.setIfInBounds_toArray, List.set_cons_zero, List.set_cons_succ])
  have HS := Lib.hid (own_set7 (H7.out.ac (by ac_rfl) : Own w0 w7 (Sep (Blk rb (.cells #[.int .u64 0, .int .i64 0, .string ⟨#[]⟩, .int .u64 0, .string ⟨#[]⟩, .int .i64 0, .int .u64 0] 80 (0, 0))) (Sep (Blk tb (.cells #[.pointer (some ⟨p, 0, none⟩)] 47 (0, 0))) (Sep (InR p y7 b7) J)))) (.int .u64 (x1 : Int)) (.int .i64 (x2 : Int)) (.string S3) (.int .u64 (x4 : Int)) (.string S5) (.int .i64 (x6 : Int)) (.int .u64 (x7 : Int)))
  obtain ⟨e0, e1, e2, e3, e4, e5, e6⟩ := blk7c H7.out.snd.snd.held
  have q0 := blk_free H7.out.snd.snd.held 0
  have q1 := blk_free H7.out.snd.snd.held 1
  have q2 := blk_free H7.out.snd.snd.held 2
  have q3 := blk_free H7.out.snd.snd.held 3
  have q4 := blk_free H7.out.snd.snd.held 4
  have q5 := blk_free H7.out.snd.snd.held 5
  have q6 := blk_free H7.out.snd.snd.held 6
  refine wpAnyH_ready (rs := [24]) (by kernel_rfl) (by simp) (AllReadyH.cons (o := ?o24_15) ?h24_15 (fun K hK => ?s24_15) AllReadyH.nil)
  case h24_15 => (simp only [List.getElem?_toArray, List.getElem?_cons_succ, List.getElem?_cons_zero]; rfl)
  case' s24_15 =>
    go_simp
    refine hK.out _ _ ?_ (fun hHeld => ?_)
  · exact blk_cell HS.out.snd.held 0 rfl
  clear hK K
  (try simp only [Act.put, List.setIfInBounds_toArray, List.set_cons_zero, List.set_cons_succ])
  refine wpAnyH_done (by kernel_rfl) ?_ _
  clear e0 q0 e1 q1 e2 q2 e3 q3 e4 q4 e5 q5 e6 q6 H7
  generalize World.setCell (World.setCell (World.setCell (World.setCell (World.setCell (World.setCell (World.setCell w7 _ _) _ _) _ _) _ _) _ _) _ _) _ _ = w8 at *
  obtain ⟨e0, e1, e2, e3, e4, e5, e6⟩ := blk7c HS.out.held
  go_wp2_with fail
  refine bodyPost_ret (v := msv ⟨(x1 : Int), (x2 : Int), S3, (x4 : Int), S5, (x6 : Int), (x7 : Int)⟩) (by simp [results, Tryz.results79, go_sem, e0, e1, e2, e3, e4, e5, e6]) rfl ?_
  refine ⟨⟨(x1 : Int), (x2 : Int), S3, (x4 : Int), S5, (x6 : Int), (x7 : Int)⟩, y7, b7, rfl, ?_, HS.out.snd.snd⟩
  exact HR1.out.bind (HR2.out.bind (HR3.out.bind (HR4.out.bind (HR5.out.bind (HR6.out.bind (HR7.out.bind (Rd.ret _ _ _)))))))

end Go.Proofs.YtookbmpaoljelaaGreat

namespace Go.Proofs.YtookbmpaoljelaaGreat
open Go Go.RowKit
set_option linter.unusedVariables false
set_option linter.unusedSimpArgs false
set_option maxRecDepth 100000
set_option linter.unusedSimpArgs false
set_option maxRecDepth 100000

theorem elEn : ElT En 25 41 72 := by
  obtain ⟨i, h1, h2, h3, h4⟩ := info_parts (show (Tryz.prog.info? 41).map (fun i => (i.zero, i.size, i.bytes)) = some (some (.agg #[.string ⟨#[]⟩, .bool false, .string ⟨#[]⟩, .int .u64 0, .bool false, .string ⟨#[]⟩]), 6, 72) by kernel_rfl)
  exact ⟨Tryz.underlying25, i, _, h1, h2, h3, h4, rfl⟩
theorem elMs : ElT Ms 55 80 72 := by
  obtain ⟨i, h1, h2, h3, h4⟩ := info_parts (show (Tryz.prog.info? 80).map (fun i => (i.zero, i.size, i.bytes)) = some (some (.agg #[.int .u64 0, .int .i64 0, .string ⟨#[]⟩, .int .u64 0, .string ⟨#[]⟩, .int .i64 0, .int .u64 0]), 7, 72) by kernel_rfl)
  exact ⟨Tryz.underlying55, i, _, h1, h2, h3, h4, rfl⟩
theorem elNu : ElT Int 27 39 8 := by
  obtain ⟨i, h1, h2, h3, h4⟩ := info_parts (show (Tryz.prog.info? 39).map (fun i => (i.zero, i.size, i.bytes)) = some (some (.int .u64 0), 1, 8) by kernel_rfl)
  exact ⟨Tryz.underlying27, i, _, h1, h2, h3, h4, rfl⟩
theorem elSt : ElT ByteArray 26 9 16 := by
  obtain ⟨i, h1, h2, h3, h4⟩ := info_parts (show (Tryz.prog.info? 9).map (fun i => (i.zero, i.size, i.bytes)) = some (some (.string ⟨#[]⟩), 1, 16) by kernel_rfl)
  exact ⟨Tryz.underlying26, i, _, h1, h2, h3, h4, rfl⟩
theorem elHd : ElT Hd 28 55 24 := by
  obtain ⟨i, h1, h2, h3, h4⟩ := info_parts (show (Tryz.prog.info? 55).map (fun i => (i.zero, i.size, i.bytes)) = some (some (.slice none 0 0), 1, 24) by kernel_rfl)
  exact ⟨Tryz.underlying28, i, _, h1, h2, h3, h4, rfl⟩
theorem infoEn2 : (Tryz.prog.info? 41).map (fun i => (i.zero, i.size)) = some (some (.agg #[.string ⟨#[]⟩, .bool false, .string ⟨#[]⟩, .int .u64 0, .bool false, .string ⟨#[]⟩]), 6) := by kernel_rfl
theorem infoMs2 : (Tryz.prog.info? 80).map (fun i => (i.zero, i.size)) = some (some (.agg #[.int .u64 0, .int .i64 0, .string ⟨#[]⟩, .int .u64 0, .string ⟨#[]⟩, .int .i64 0, .int .u64 0]), 7) := by kernel_rfl
/-- A slice's length. -/
def lenV : Value → Nat
  | .slice _ n _ => n
  | _ => 0
/-- What list leaves. -/
def ListPost {α : Type} [Cel α] (pr : Prs α) (n : Nat) (xs : List UInt8) (bad : Bool) (e : TypeId) (p : Nat) (J : Res) (w0 : World) (r : Ending) (w' : World) : Prop :=
  ∃ (v : Value) (l : List α) (ys : List UInt8) (b : Bool), r = .returned v ∧ l.length ≤ 65535 ∧ Rd (pMany pr n) xs bad l ys b ∧ Own w0 w' (Sep (RowG e v l) (Sep (InR p ys b) J))
theorem own_out3 {w0 w : World} {A B C D : Res} (h : Own w0 w (Sep A (Sep B (Sep C D)))) : Own w0 w (Sep A (Sep B D)) := (h.assoc'.comm.assoc.snd.comm.assoc)
theorem rowg_shape {α : Type} [Cel α] {w0 w : World} {e : TypeId} {v : Value} {l : List α} {J : Res} (h : Own w0 w (Sep (RowG e v l) J)) : ∃ ao cap, v = .slice ao l.length cap := own_shapeN h.owns

set_option maxHeartbeats 4000000 in
theorem list_e {w0 w : World} {p : Nat} {xs : List UInt8} {bad : Bool} {J : Res} [Stab J] (h : Own w0 w (Sep (InR p xs bad) J)) (n : Int) (hn : n ≤ 65535) :
    Calls Tryz.prog 34 #[putv p, .int .i64 n, .func (.func 36) #[putv p] #[]] w (ListPost (α := En) pEntry n.toNat xs bad 41 p J w0) := by
  have H0 := Lib.hid (((h.alloc (.cells #[.pointer (some ⟨p, 0, none⟩)] 47)).row_nil 41 (Cel.size En)).ac (by ac_rfl) : Own w0 (w.alloc (.cells #[.pointer (some ⟨p, 0, none⟩)] 47)) (Sep (RowV 41 (Cel.size En) (.slice none 0 0) 0 []) (Sep (InR p xs bad) (Sep (Blk w.heap.size (.cells #[.pointer (some ⟨p, 0, none⟩)] 47 (0, 0))) J))))
  clear h
  go_enter Tryz.func34, Tryz.ntmps34
  go_wp2_with fail
  go_loopw [7] (fun s wr => ∃ (v : Value) (l : List En) (ys : List UInt8) (b : Bool), v = s ∧ l.length ≤ 65535 ∧ Hid (Many pEntry n.toNat xs bad l ys b) ∧ Hid (Own w0 wr (Sep (RowG 41 v l) (Sep (InR p ys b) (Sep (Blk w.heap.size (.cells #[.pointer (some ⟨p, 0, none⟩)] 47 (0, 0))) J))))) (fun s _ => 65536 - lenV s)
  case atStart => exact ⟨.slice none 0 0, [], xs, bad, rfl, by simp, Lib.hid (Many.start _ _ _ _), H0⟩
  case round =>
    clear H0
    obtain ⟨v, l, ys, b, rfl, hl, HM, HO⟩ := hrel
    obtain ⟨ao, cap, rfl⟩ := rowg_shape HO.out
    have ha := blk_cell HO.out.snd.snd.held 0 rfl
    obtain ⟨m, hm⟩ : ∃ m, m = l.length := ⟨_, rfl⟩
    have HML := Lib.hid hm
    have hm5 : m ≤ 65535 := by rw [hm]; exact hl
    rw [← hm]
    clear hm hl
    by_cases hlt : (m : Int) < n
    · have HB := Lib.hid (own_bad HO.out.swap)
      cases b with
      | true =>
        go_wp2_with fail
        refine HB.out.mono ?_
        rintro e w1 ⟨rfl, rfl⟩
        go_wp2_with fail
        go_ret
        exact ⟨_, l, ys, true, by rw [← HML.out]; rfl, by rw [← HML.out]; exact hm5, HM.out.done (.inl rfl), own_out3 HO.out⟩
      | false =>
      go_wp2_with fail
      refine HB.out.mono ?_
      rintro e w1 ⟨rfl, rfl⟩
      have HC := Lib.hid (tentry_any HO.out.swap)
      clear HB ha
      go_wp2_with fail
      refine HC.out.mono ?_
      rintro r w2 ⟨a, zs, b2, rfl, hr, h2⟩
      skip
      have HMN := Lib.hid (HM.out.step (by have := HML.out; omega) hr)
      have H2 := Lib.hid h2.swap
      clear h2 hr HC HM HO
      have hbs := fun w => run_buildSlice_one (P := Tryz.prog) w 25 41 _ 6 Tryz.underlying25 infoEn2 rfl (by decide) (by decide) #[.string a.k, .bool a.h, .string a.v, .int .u64 a.x, .bool a.n, .string a.nv] rfl
      go_wp2_with (first | (at_builtin; refine own_appendG elEn H2.out a 1 (by have := HML.out; omega) (by have := HML.out; omega) rfl (.tmp 18) (.tmp 21) rfl (by rw [← HML.out]; rfl) #[.string a.k, .bool a.h, .string a.v, .int .u64 a.x, .bool a.n, .string a.nv] rfl rfl ?_))
      intro g2 cap2 n2 w5 hn2 hown
      have HN2 := Lib.hid hn2.out
      have H5 := Lib.hid hown.out
      have hn25 : n2 = m + 1 := by have h1 := HN2.out; have h2 := HML.out; (try simp only [List.length_append, List.length_cons, List.length_nil] at h1); omega
      subst hn25
      clear hown hn2 H2 hbs 
      go_wp2_with fail
      go_roundw
      case rel => exact ⟨_, l ++ [a], zs, b2, rfl, by simp only [List.length_append, List.length_cons, List.length_nil]; have := HML.out; omega, HMN, H5⟩
      case measure => show _ - lenV (.slice _ (m + 1) _) < _ - lenV (.slice _ m _); simp only [lenV]; omega
    · go_wp2_with fail
      go_ret
      exact ⟨_, l, ys, b, by rw [← HML.out]; rfl, by rw [← HML.out]; exact hm5, HM.out.done (.inr (by have := HML.out; omega)), own_out3 HO.out⟩

set_option maxHeartbeats 4000000 in
theorem list_m {w0 w : World} {p : Nat} {xs : List UInt8} {bad : Bool} {J : Res} [Stab J] (h : Own w0 w (Sep (InR p xs bad) J)) (n : Int) (hn : n ≤ 65535) :
    Calls Tryz.prog 78 #[putv p, .int .i64 n, .func (.func 79) #[putv p] #[]] w (ListPost (α := Ms) pMsg n.toNat xs bad 80 p J w0) := by
  have H0 := Lib.hid (((h.alloc (.cells #[.pointer (some ⟨p, 0, none⟩)] 47)).row_nil 80 (Cel.size Ms)).ac (by ac_rfl) : Own w0 (w.alloc (.cells #[.pointer (some ⟨p, 0, none⟩)] 47)) (Sep (RowV 80 (Cel.size Ms) (.slice none 0 0) 0 []) (Sep (InR p xs bad) (Sep (Blk w.heap.size (.cells #[.pointer (some ⟨p, 0, none⟩)] 47 (0, 0))) J))))
  clear h
  go_enter Tryz.func78, Tryz.ntmps78
  go_wp2_with fail
  go_loopw [7] (fun s wr => ∃ (v : Value) (l : List Ms) (ys : List UInt8) (b : Bool), v = s ∧ l.length ≤ 65535 ∧ Hid (Many pMsg n.toNat xs bad l ys b) ∧ Hid (Own w0 wr (Sep (RowG 80 v l) (Sep (InR p ys b) (Sep (Blk w.heap.size (.cells #[.pointer (some ⟨p, 0, none⟩)] 47 (0, 0))) J))))) (fun s _ => 65536 - lenV s)
  case atStart => exact ⟨.slice none 0 0, [], xs, bad, rfl, by simp, Lib.hid (Many.start _ _ _ _), H0⟩
  case round =>
    clear H0
    obtain ⟨v, l, ys, b, rfl, hl, HM, HO⟩ := hrel
    obtain ⟨ao, cap, rfl⟩ := rowg_shape HO.out
    have ha := blk_cell HO.out.snd.snd.held 0 rfl
    obtain ⟨m, hm⟩ : ∃ m, m = l.length := ⟨_, rfl⟩
    have HML := Lib.hid hm
    have hm5 : m ≤ 65535 := by rw [hm]; exact hl
    rw [← hm]
    clear hm hl
    by_cases hlt : (m : Int) < n
    · have HB := Lib.hid (own_bad HO.out.swap)
      cases b with
      | true =>
        go_wp2_with fail
        refine HB.out.mono ?_
        rintro e w1 ⟨rfl, rfl⟩
        go_wp2_with fail
        go_ret
        exact ⟨_, l, ys, true, by rw [← HML.out]; rfl, by rw [← HML.out]; exact hm5, HM.out.done (.inl rfl), own_out3 HO.out⟩
      | false =>
      go_wp2_with fail
      refine HB.out.mono ?_
      rintro e w1 ⟨rfl, rfl⟩
      have HC := Lib.hid (tmsg_any HO.out.swap)
      clear HB ha
      go_wp2_with fail
      refine HC.out.mono ?_
      rintro r w2 ⟨a, zs, b2, rfl, hr, h2⟩
      skip
      have HMN := Lib.hid (HM.out.step (by have := HML.out; omega) hr)
      have H2 := Lib.hid h2.swap
      clear h2 hr HC HM HO
      have hbs := fun w => run_buildSlice_one (P := Tryz.prog) w 55 80 _ 7 Tryz.underlying55 infoMs2 rfl (by decide) (by decide) #[.int .u64 a.sq, .int .i64 a.K, .string a.k, .int .u64 a.x, .string a.v, .int .i64 a.off, .int .u64 a.num] rfl
      go_wp2_with (first | (at_builtin; refine own_appendG elMs H2.out a 1 (by have := HML.out; omega) (by have := HML.out; omega) rfl (.tmp 18) (.tmp 21) rfl (by rw [← HML.out]; rfl) #[.int .u64 a.sq, .int .i64 a.K, .string a.k, .int .u64 a.x, .string a.v, .int .i64 a.off, .int .u64 a.num] rfl rfl ?_))
      intro g2 cap2 n2 w5 hn2 hown
      have HN2 := Lib.hid hn2.out
      have H5 := Lib.hid hown.out
      have hn25 : n2 = m + 1 := by have h1 := HN2.out; have h2 := HML.out; (try simp only [List.length_append, List.length_cons, List.length_nil] at h1); omega
      subst hn25
      clear hown hn2 H2 hbs 
      go_wp2_with fail
      go_roundw
      case rel => exact ⟨_, l ++ [a], zs, b2, rfl, by simp only [List.length_append, List.length_cons, List.length_nil]; have := HML.out; omega, HMN, H5⟩
      case measure => show _ - lenV (.slice _ (m + 1) _) < _ - lenV (.slice _ m _); simp only [lenV]; omega
    · go_wp2_with fail
      go_ret
      exact ⟨_, l, ys, b, by rw [← HML.out]; rfl, by rw [← HML.out]; exact hm5, HM.out.done (.inr (by have := HML.out; omega)), own_out3 HO.out⟩

set_option maxHeartbeats 4000000 in
theorem list_k {w0 w : World} {p : Nat} {xs : List UInt8} {bad : Bool} {J : Res} [Stab J] (h : Own w0 w (Sep (InR p xs bad) J)) (n : Int) (hn : n ≤ 65535) :
    Calls Tryz.prog 37 #[putv p, .int .i64 n, .func (.func 38) #[.pointer (some ⟨p, 0, none⟩)] #[]] w (ListPost (α := Int) pKid n.toNat xs bad 39 p J w0) := by
  have H0 := Lib.hid (((h.alloc (.cells #[.pointer (some ⟨p, 0, none⟩)] 47)).row_nil 39 (Cel.size Int)).ac (by ac_rfl) : Own w0 (w.alloc (.cells #[.pointer (some ⟨p, 0, none⟩)] 47)) (Sep (RowV 39 (Cel.size Int) (.slice none 0 0) 0 []) (Sep (InR p xs bad) (Sep (Blk w.heap.size (.cells #[.pointer (some ⟨p, 0, none⟩)] 47 (0, 0))) J))))
  clear h
  go_enter Tryz.func37, Tryz.ntmps37
  go_wp2_with fail
  go_loopw [7] (fun s wr => ∃ (v : Value) (l : List Int) (ys : List UInt8) (b : Bool), v = s ∧ l.length ≤ 65535 ∧ Hid (Many pKid n.toNat xs bad l ys b) ∧ Hid (Own w0 wr (Sep (RowG 39 v l) (Sep (InR p ys b) (Sep (Blk w.heap.size (.cells #[.pointer (some ⟨p, 0, none⟩)] 47 (0, 0))) J))))) (fun s _ => 65536 - lenV s)
  case atStart => exact ⟨.slice none 0 0, [], xs, bad, rfl, by simp, Lib.hid (Many.start _ _ _ _), H0⟩
  case round =>
    clear H0
    obtain ⟨v, l, ys, b, rfl, hl, HM, HO⟩ := hrel
    obtain ⟨ao, cap, rfl⟩ := rowg_shape HO.out
    have ha := blk_cell HO.out.snd.snd.held 0 rfl
    obtain ⟨m, hm⟩ : ∃ m, m = l.length := ⟨_, rfl⟩
    have HML := Lib.hid hm
    have hm5 : m ≤ 65535 := by rw [hm]; exact hl
    rw [← hm]
    clear hm hl
    by_cases hlt : (m : Int) < n
    · have HB := Lib.hid (own_bad HO.out.swap)
      cases b with
      | true =>
        go_wp2_with fail
        refine HB.out.mono ?_
        rintro e w1 ⟨rfl, rfl⟩
        go_wp2_with fail
        go_ret
        exact ⟨_, l, ys, true, by rw [← HML.out]; rfl, by rw [← HML.out]; exact hm5, HM.out.done (.inl rfl), own_out3 HO.out⟩
      | false =>
      go_wp2_with fail
      refine HB.out.mono ?_
      rintro e w1 ⟨rfl, rfl⟩
      have HC := Lib.hid (rd_u64 HO.out.swap)
      clear HB ha
      go_wp2_with fail
      refine HC.out.mono ?_
      rintro r w2 ⟨x, zs, b2, rfl, hx, hr0, h2⟩
      obtain ⟨a, ha⟩ : ∃ a : Int, a = (x : Int) := ⟨_, rfl⟩
      have hr : Rd pKid ys false a zs b2 := by rw [ha]; exact hr0.bind (Rd.ret _ _ _)
      rw [← ha]
      clear ha hr0 hx
      have HMN := Lib.hid (HM.out.step (by have := HML.out; omega) hr)
      have H2 := Lib.hid h2.swap
      clear h2 hr HC HM HO
      go_wp2_with (first | (at_builtin; refine own_appendG elNu H2.out a 1 (by have := HML.out; omega) (by have := HML.out; omega) rfl (.tmp 18) (.tmp 21) rfl (by rw [← HML.out]; rfl) #[.int .u64 a] rfl rfl ?_))
      intro g2 cap2 n2 w5 hn2 hown
      have HN2 := Lib.hid hn2.out
      have H5 := Lib.hid hown.out
      have hn25 : n2 = m + 1 := by have h1 := HN2.out; have h2 := HML.out; (try simp only [List.length_append, List.length_cons, List.length_nil] at h1); omega
      subst hn25
      clear hown hn2 H2 
      go_wp2_with fail
      go_roundw
      case rel => exact ⟨_, l ++ [a], zs, b2, rfl, by simp only [List.length_append, List.length_cons, List.length_nil]; have := HML.out; omega, HMN, H5⟩
      case measure => show _ - lenV (.slice _ (m + 1) _) < _ - lenV (.slice _ m _); simp only [lenV]; omega
    · go_wp2_with fail
      go_ret
      exact ⟨_, l, ys, b, by rw [← HML.out]; rfl, by rw [← HML.out]; exact hm5, HM.out.done (.inr (by have := HML.out; omega)), own_out3 HO.out⟩

set_option maxHeartbeats 4000000 in
theorem list_p {w0 w : World} {p : Nat} {xs : List UInt8} {bad : Bool} {J : Res} [Stab J] (h : Own w0 w (Sep (InR p xs bad) J)) (n : Int) (hn : n ≤ 65535) :
    Calls Tryz.prog 39 #[putv p, .int .i64 n, .func (.func 40) #[.pointer (some ⟨p, 0, none⟩)] #[]] w (ListPost (α := ByteArray) pText n.toNat xs bad 9 p J w0) := by
  have H0 := Lib.hid (((h.alloc (.cells #[.pointer (some ⟨p, 0, none⟩)] 47)).row_nil 9 (Cel.size ByteArray)).ac (by ac_rfl) : Own w0 (w.alloc (.cells #[.pointer (some ⟨p, 0, none⟩)] 47)) (Sep (RowV 9 (Cel.size ByteArray) (.slice none 0 0) 0 []) (Sep (InR p xs bad) (Sep (Blk w.heap.size (.cells #[.pointer (some ⟨p, 0, none⟩)] 47 (0, 0))) J))))
  clear h
  go_enter Tryz.func39, Tryz.ntmps39
  go_wp2_with fail
  go_loopw [7] (fun s wr => ∃ (v : Value) (l : List ByteArray) (ys : List UInt8) (b : Bool), v = s ∧ l.length ≤ 65535 ∧ Hid (Many pText n.toNat xs bad l ys b) ∧ Hid (Own w0 wr (Sep (RowG 9 v l) (Sep (InR p ys b) (Sep (Blk w.heap.size (.cells #[.pointer (some ⟨p, 0, none⟩)] 47 (0, 0))) J))))) (fun s _ => 65536 - lenV s)
  case atStart => exact ⟨.slice none 0 0, [], xs, bad, rfl, by simp, Lib.hid (Many.start _ _ _ _), H0⟩
  case round =>
    clear H0
    obtain ⟨v, l, ys, b, rfl, hl, HM, HO⟩ := hrel
    obtain ⟨ao, cap, rfl⟩ := rowg_shape HO.out
    have ha := blk_cell HO.out.snd.snd.held 0 rfl
    obtain ⟨m, hm⟩ : ∃ m, m = l.length := ⟨_, rfl⟩
    have HML := Lib.hid hm
    have hm5 : m ≤ 65535 := by rw [hm]; exact hl
    rw [← hm]
    clear hm hl
    by_cases hlt : (m : Int) < n
    · have HB := Lib.hid (own_bad HO.out.swap)
      cases b with
      | true =>
        go_wp2_with fail
        refine HB.out.mono ?_
        rintro e w1 ⟨rfl, rfl⟩
        go_wp2_with fail
        go_ret
        exact ⟨_, l, ys, true, by rw [← HML.out]; rfl, by rw [← HML.out]; exact hm5, HM.out.done (.inl rfl), own_out3 HO.out⟩
      | false =>
      go_wp2_with fail
      refine HB.out.mono ?_
      rintro e w1 ⟨rfl, rfl⟩
      have HC := Lib.hid (rd_text HO.out.swap)
      clear HB ha
      go_wp2_with fail
      refine HC.out.mono ?_
      rintro r w2 ⟨a, zs, b2, rfl, hr, h2⟩
      skip
      have HMN := Lib.hid (HM.out.step (by have := HML.out; omega) hr)
      have H2 := Lib.hid h2.swap
      clear h2 hr HC HM HO
      go_wp2_with (first | (at_builtin; refine own_appendG elSt H2.out a 1 (by have := HML.out; omega) (by have := HML.out; omega) rfl (.tmp 18) (.tmp 21) rfl (by rw [← HML.out]; rfl) #[.string a] rfl rfl ?_))
      intro g2 cap2 n2 w5 hn2 hown
      have HN2 := Lib.hid hn2.out
      have H5 := Lib.hid hown.out
      have hn25 : n2 = m + 1 := by have h1 := HN2.out; have h2 := HML.out; (try simp only [List.length_append, List.length_cons, List.length_nil] at h1); omega
      subst hn25
      clear hown hn2 H2 
      go_wp2_with fail
      go_roundw
      case rel => exact ⟨_, l ++ [a], zs, b2, rfl, by simp only [List.length_append, List.length_cons, List.length_nil]; have := HML.out; omega, HMN, H5⟩
      case measure => show _ - lenV (.slice _ (m + 1) _) < _ - lenV (.slice _ m _); simp only [lenV]; omega
    · go_wp2_with fail
      go_ret
      exact ⟨_, l, ys, b, by rw [← HML.out]; rfl, by rw [← HML.out]; exact hm5, HM.out.done (.inr (by have := HML.out; omega)), own_out3 HO.out⟩

end Go.Proofs.YtookbmpaoljelaaGreat

namespace Go.Proofs.YtookbmpaoljelaaGreat
open Go Go.RowKit
set_option linter.unusedVariables false
set_option linter.unusedSimpArgs false
set_option maxRecDepth 100000
set_option linter.unusedSimpArgs false
set_option maxRecDepth 100000

def BufPost (xs : List UInt8) (bad : Bool) (p : Nat) (J : Res) (w0 : World) (r : Ending) (w' : World) : Prop :=
  ∃ (v : Value) (l : List Ms) (ys : List UInt8) (b : Bool), r = .returned v ∧ l.length ≤ 65535 ∧ Rd pBuf xs bad l ys b ∧ Own w0 w' (Sep (RowG 80 v l) (Sep (InR p ys b) J))
set_option maxHeartbeats 4000000 in
theorem tbuf_any {w0 w : World} {p : Nat} {xs : List UInt8} {bad : Bool} {J : Res} [Stab J] (h : Own w0 w (Sep (InR p xs bad) J)) :
    Calls Tryz.prog 42 #[putv p] w (BufPost xs bad p J w0) := by
  have H0 := Lib.hid (((h.alloc (.cells #[.pointer (some ⟨p, 0, none⟩)] 47)).swap).drew)
  clear h
  go_enter Tryz.func42, Tryz.ntmps42
  go_upto_region 1 with fail
  generalize w.heap.size = tb at *
  refine wp_region_held_drew (S := (fun w' => w'.cell? ⟨tb, 0, none⟩ = some (.pointer (some ⟨p, 0, none⟩)))) (by kernel_rfl) ?_ (fun hHeld => ?_)
  · exact blk_cell H0.out.snd.held 0 rfl
  refine wpAnyH_take (i := 0) (oi := ?_) (v := ?_) ?_ (by kernel_rfl) (by kernel_rfl) (by kernel_rfl) ?_ (Or.inl ⟨?_, ?_⟩) (by assumption) ?_
  rotate_left 2
  · (simp only [List.getElem?_toArray, List.getElem?_cons_zero]; rfl)
  · exact fun _ _ _ h => h
  · rfl
  · (intro w hSw; (try dsimp only at hSw); go_simp <;> with_reducible rfl)
  (try simp only [Act.put, List.setIfInBounds_toArray, List.set_cons_zero, List.set_cons_succ])
  refine wpAnyH_take (i := 1) (oi := ?_) (v := ?_) ?_ (by kernel_rfl) (by kernel_rfl) (by kernel_rfl) ?_ (Or.inl ⟨?_, ?_⟩) (by assumption) ?_
  rotate_left 2
  · (simp only [List.getElem?_toArray, List.getElem?_cons_succ, List.getElem?_cons_zero]; rfl)
  · exact fun _ _ _ h => h
  · rfl
  · (intro w hSw; (try dsimp only at hSw); go_simp <;> with_reducible rfl)
  (try simp only [Act.put, List.setIfInBounds_toArray, List.set_cons_zero, List.set_cons_succ])
  refine wpAnyH_take (i := 3) (oi := ?_) (v := ?_) ?_ (by kernel_rfl) (by kernel_rfl) (by kernel_rfl) ?_ (Or.inl ⟨?_, ?_⟩) (by assumption) ?_
  rotate_left 2
  · (simp only [List.getElem?_toArray, List.getElem?_cons_succ, List.getElem?_cons_zero]; rfl)
  · exact fun _ _ _ h => h
  · rfl
  · (intro w hSw; (try dsimp only at hSw); go_simp <;> with_reducible rfl)
  (try simp only [Act.put, List.setIfInBounds_toArray, List.set_cons_zero, List.set_cons_succ])
  refine wpAnyH_take (i := 4) (oi := ?_) (v := ?_) ?_ (by kernel_rfl) (by kernel_rfl) (by kernel_rfl) ?_ (Or.inl ⟨?_, ?_⟩) (by assumption) ?_
  rotate_left 2
  · (simp only [List.getElem?_toArray, List.getElem?_cons_succ, List.getElem?_cons_zero]; rfl)
  · exact fun _ _ _ h => h
  · rfl
  · (intro w hSw; (try dsimp only at hSw); go_simp <;> with_reducible rfl)
  (try simp only [Act.put, List.setIfInBounds_toArray, List.set_cons_zero, List.set_cons_succ])
  refine wpAnyH_ready (rs := [2]) (by kernel_rfl) (by simp) (AllReadyH.cons (o := ?o2_16) ?h2_16 (fun K hK => ?s2_16) AllReadyH.nil)
  case h2_16 => (simp only [List.getElem?_toArray, List.getElem?_cons_succ, List.getElem?_cons_zero]; rfl)
  case' s2_16 =>
    (go_simp; refine (tcount_any H0.out).mono ?_; rintro r w1 ⟨x, y1, b1, rfl, hx, hr, h1⟩; have HR1 := Lib.hid hr; have H1 := Lib.hid h1; clear hr h1 H0)
    refine hK.out _ _ ?_ (fun hHeld => ?_)
  · exact blk_cell H1.out.snd.held 0 rfl
  clear hK K
  (try simp only [Act.put, List.setIfInBounds_toArray, List.set_cons_zero, List.set_cons_succ])
  refine wpAnyH_ready (rs := [5]) (by kernel_rfl) (by simp) (AllReadyH.cons (o := ?o5_17) ?h5_17 (fun K hK => ?s5_17) AllReadyH.nil)
  case h5_17 => (simp only [List.getElem?_toArray, List.getElem?_cons_succ, List.getElem?_cons_zero]; rfl)
  case' s5_17 =>
    (go_simp; refine (list_m H1.out (x : Int) (by omega)).mono ?_; rintro r w2 ⟨v, l, y2, b2, rfl, hl, hr, h2⟩; have HR2 := Lib.hid hr; have H2 := Lib.hid h2; have HL := Lib.hid hl; clear hr h2 H1 hl)
    refine hK.out _ _ ?_ (fun hHeld => ?_)
  · exact blk_cell H2.out.snd.snd.held 0 rfl
  clear hK K
  (try simp only [Act.put, List.setIfInBounds_toArray, List.set_cons_zero, List.set_cons_succ])
  refine wpAnyH_take (i := 6) (oi := ?_) (v := ?_) ?_ (by kernel_rfl) (by kernel_rfl) (by kernel_rfl) ?_ (Or.inl ⟨?_, ?_⟩) (by assumption) ?_
  rotate_left 2
  · (simp only [List.getElem?_toArray, List.getElem?_cons_succ, List.getElem?_cons_zero]; rfl)
  · exact fun _ _ _ h => h
  · rfl
  · (intro w hSw; (try dsimp only at hSw); go_simp <;> with_reducible rfl)
  (try simp only [Act.put, List.setIfInBounds_toArray, List.set_cons_zero, List.set_cons_succ])
  refine wpAnyH_done (by kernel_rfl) ?_ _
  obtain ⟨ao, cap, rfl⟩ := rowg_shape H2.out
  go_wp2_with fail
  go_ret
  refine ⟨_, l, y2, b2, rfl, HL.out, HR1.out.bind ?_, own_out3 H2.out⟩
  have := HR2.out
  rwa [Int.toNat_natCast] at this

/-- The heads of lists and what lies behind them. -/
structure BufsP (hs : List Hd) (l : List (List Ms)) (w : World) : Prop where
  len : hs.length = l.length
  at' : ∀ j, j < l.length → (hs.getD j default).n = (l.getD j default).length ∧ SlG w (hs.getD j default).ao (l.getD j default) ∧ (l.getD j default).length ≤ 65535
theorem BufsP.nil (w : World) : BufsP [] [] w := ⟨rfl, fun j hj => by simp at hj⟩
theorem getD_snoc {α : Type} [Inhabited α] (l : List α) (a : α) (j : Nat) (hj : j < l.length + 1) : (l ++ [a]).getD j default = if j = l.length then a else l.getD j default := by
  by_cases h : j = l.length
  · subst h
    rw [if_pos rfl]
    simp
  · rw [if_neg h]
    simp only [List.getD_eq_getElem?_getD]
    rw [List.getElem?_append_left (by omega)]
theorem BufsP.snoc {hs : List Hd} {l : List (List Ms)} {w : World} {ao : Option Addr} {a : List Ms} {cap : Nat} (h : BufsP hs l w) (ha : SlG w ao a) (hl : a.length ≤ 65535) : BufsP (hs ++ [⟨ao, a.length, cap⟩]) (l ++ [a]) w := by
  refine ⟨by simp [h.len], fun j hj => ?_⟩
  rw [List.length_append, List.length_singleton] at hj
  rw [getD_snoc hs _ j (by rw [h.len]; exact hj), getD_snoc l _ j hj, h.len]
  by_cases e : j = l.length
  · rw [if_pos e, if_pos e]
    exact ⟨rfl, ha, hl⟩
  · rw [if_neg e, if_neg e]
    exact h.at' j (by omega)
theorem BufsP.sll {hs : List Hd} {l : List (List Ms)} {w : World} {bo : Option Addr} (h : BufsP hs l w) (hh : SlG w bo hs) : SlL w bo l := fun j hj => by
  obtain ⟨g, off, e, hc⟩ := hh.hd (j := j) (by rw [h.len]; exact hj)
  obtain ⟨h1, h2, h3⟩ := h.at' j hj
  rw [h1] at hc
  exact ⟨g, off, _, _, e, hc, h2, by omega⟩
def ListPostL (n : Nat) (xs : List UInt8) (bad : Bool) (p : Nat) (J : Res) (w0 : World) (r : Ending) (w' : World) : Prop :=
  ∃ (v : Value) (hs : List Hd) (l : List (List Ms)) (ys : List UInt8) (b : Bool), r = .returned v ∧ l.length ≤ 65535 ∧ Rd (pMany pBuf n) xs bad l ys b ∧ Own w0 w' (Sep (RowG 55 v hs) (Sep (Fix (BufsP hs l)) (Sep (InR p ys b) J)))
theorem own_out4 {w0 w : World} {A B C D E : Res} (h : Own w0 w (Sep A (Sep B (Sep C (Sep D E))))) : Own w0 w (Sep A (Sep B (Sep C E))) :=
  (h.ac (by ac_rfl : _ = Sep D (Sep A (Sep B (Sep C E))))).snd
set_option maxHeartbeats 4000000 in
theorem list_l {w0 w : World} {p : Nat} {xs : List UInt8} {bad : Bool} {J : Res} [Stab J] (h : Own w0 w (Sep (InR p xs bad) J)) (n : Int) (hn : n ≤ 65535) :
    Calls Tryz.prog 41 #[putv p, .int .i64 n, .func (.func 42) #[putv p] #[]] w (ListPostL n.toNat xs bad p J w0) := by
  have H0 := Lib.hid ((((h.alloc (.cells #[.pointer (some ⟨p, 0, none⟩)] 47)).row_nil 55 (Cel.size Hd)).fix0 (P := BufsP [] []) BufsP.nil).ac (by ac_rfl) : Own w0 (w.alloc (.cells #[.pointer (some ⟨p, 0, none⟩)] 47)) (Sep (RowV 55 (Cel.size Hd) (.slice none 0 0) 0 []) (Sep (Fix (BufsP [] [])) (Sep (InR p xs bad) (Sep (Blk w.heap.size (.cells #[.pointer (some ⟨p, 0, none⟩)] 47 (0, 0))) J)))))
  clear h
  go_enter Tryz.func41, Tryz.ntmps41
  go_wp2_with fail
  go_loopw [7] (fun s wr => ∃ (v : Value) (hs : List Hd) (l : List (List Ms)) (ys : List UInt8) (b : Bool), v = s ∧ l.length ≤ 65535 ∧ hs.length = l.length ∧ Hid (Many pBuf n.toNat xs bad l ys b) ∧ Hid (Own w0 wr (Sep (RowG 55 v hs) (Sep (Fix (BufsP hs l)) (Sep (InR p ys b) (Sep (Blk w.heap.size (.cells #[.pointer (some ⟨p, 0, none⟩)] 47 (0, 0))) J)))))) (fun s _ => 65536 - lenV s)
  case atStart => exact ⟨.slice none 0 0, [], [], xs, bad, rfl, by simp, rfl, Lib.hid (Many.start _ _ _ _), H0⟩
  case round =>
    clear H0
    obtain ⟨v, hs, l, ys, b, rfl, hl, hhl, HM, HO⟩ := hrel
    obtain ⟨ao, cap, rfl⟩ := rowg_shape HO.out
    have ha := blk_cell HO.out.snd.snd.snd.held 0 rfl
    obtain ⟨m, hm⟩ : ∃ m, m = hs.length := ⟨_, rfl⟩
    have HML := Lib.hid hm
    have HHL := Lib.hid hhl
    have hm5 : m ≤ 65535 := by rw [hm, hhl]; exact hl
    rw [← hm]
    clear hm hl hhl
    by_cases hlt : (m : Int) < n
    · have HB := Lib.hid (own_bad (HO.out.ac (by ac_rfl : _ = Sep (InR p ys b) (Sep (RowG 55 (.slice ao hs.length cap) hs) (Sep (Fix (BufsP hs l)) (Sep (Blk w.heap.size (.cells #[.pointer (some ⟨p, 0, none⟩)] 47 (0, 0))) J))))))
      cases b with
      | true =>
        go_wp2_with fail
        refine HB.out.mono ?_
        rintro e w1 ⟨rfl, rfl⟩
        go_wp2_with fail
        go_ret
        exact ⟨_, hs, l, ys, true, by rw [← HML.out]; rfl, by rw [← HHL.out, ← HML.out]; exact hm5, HM.out.done (.inl rfl), own_out4 HO.out⟩
      | false =>
      go_wp2_with fail
      refine HB.out.mono ?_
      rintro e w1 ⟨rfl, rfl⟩
      have HC := Lib.hid (tbuf_any (HO.out.ac (by ac_rfl : _ = Sep (InR p ys false) (Sep (RowG 55 (.slice ao hs.length cap) hs) (Sep (Fix (BufsP hs l)) (Sep (Blk w.heap.size (.cells #[.pointer (some ⟨p, 0, none⟩)] 47 (0, 0))) J))))))
      clear HB ha
      go_wp2_with fail
      refine HC.out.mono ?_
      rintro r w2 ⟨va, a, zs, b2, rfl, hla, hr, h2⟩
      have HMN := Lib.hid (HM.out.step (by have := HML.out; have := HHL.out; omega) hr)
      obtain ⟨ao2, cap2, rfl, _, _, h3⟩ := h2.rowFix
      obtain ⟨q, hq⟩ : ∃ q, a.length = q := ⟨_, rfl⟩
      rw [hq]
      have h4 := ((h3.ac (by ac_rfl : _ = Sep (Fix (BufsP hs l)) (Sep (Fix fun w => SlG w ao2 a) (Sep (RowG 55 (.slice ao hs.length cap) hs) (Sep (InR p zs b2) (Sep (Blk w.heap.size (.cells #[.pointer (some ⟨p, 0, none⟩)] 47 (0, 0))) J)))))).fix2.fixI (Q := BufsP (hs ++ [⟨ao2, q, cap2⟩]) (l ++ [a])) (fun w hw => by rw [← hq]; exact hw.1.snoc hw.2 hla)).swap
      have H2 := Lib.hid h4
      have HLA := Lib.hid hla
      clear h2 h3 h4 hr HC HM HO hla
      clear hq
      go_wp2_with (first | (at_builtin; refine own_appendG elHd H2.out ⟨ao2, q, cap2⟩ 1 (by have := HML.out; omega) (by have := HML.out; omega) rfl (.tmp 18) (.tmp 21) rfl (by rw [← HML.out]; rfl) #[.slice ao2 q cap2] rfl rfl ?_))
      intro g3 cap3 n3 w5 hn3 hown
      have H5 := Lib.hid hown.out
      have hn35 : n3 = m + 1 := by have h1 := hn3.out; have h2 := HML.out; (try simp only [List.length_append, List.length_cons, List.length_nil] at h1); omega
      subst hn35
      clear hown hn3 H2
      go_wp2_with fail
      go_roundw
      case rel => exact ⟨_, hs ++ [⟨ao2, q, cap2⟩], l ++ [a], zs, b2, rfl, by simp only [List.length_append, List.length_cons, List.length_nil]; have := HML.out; have := HHL.out; omega, by simp only [List.length_append, List.length_cons, List.length_nil, HHL.out], HMN, H5⟩
      case measure => show _ - lenV (.slice _ (m + 1) _) < _ - lenV (.slice _ m _); simp only [lenV]; omega
    · go_wp2_with fail
      go_ret
      exact ⟨_, hs, l, ys, b, by rw [← HML.out]; rfl, by rw [← HHL.out, ← HML.out]; exact hm5, HM.out.done (.inr (by have := HML.out; have := HHL.out; omega)), own_out4 HO.out⟩

end Go.Proofs.YtookbmpaoljelaaGreat

namespace Go.Proofs.YtookbmpaoljelaaGreat
open Go Go.RowKit
set_option linter.unusedVariables false
set_option linter.unusedSimpArgs false
set_option maxRecDepth 100000
set_option linter.unusedSimpArgs false
set_option maxRecDepth 100000

/-- The document's In: its own block. -/
def RIn (v : Value) (bs : List UInt8) (pi : Nat) (xs : List UInt8) (bad : Bool) : Res := fun w F => (∃ a : Nat, a ≤ bs.length ∧ xs = bs.drop a ∧ w.heap[pi]? = some (.cells #[v, .int .i64 a, .bool bad] 51 (0, 0))) ∧ ∀ k, F k ↔ k = pi
instance {v : Value} {bs : List UInt8} {pi : Nat} {xs : List UInt8} {bad : Bool} : Stab (RIn v bs pi xs bad) where
  lt := by
    rintro w F ⟨⟨a, _, _, h⟩, hF⟩ k hk
    rw [(hF k).1 hk]
    exact lt_of_some h
  keep := by
    rintro w w' F ⟨⟨a, h1, h2, h⟩, hF⟩ hk
    exact ⟨⟨a, h1, h2, (hk pi ((hF pi).2 rfl)).trans h⟩, hF⟩
/-- The bytes that are read. -/
structure Src (w0 : World) (v : Value) (bs : List UInt8) : Prop where
  sl : RI.SlF w0 v bs
  len : bs.length ≤ 140737488355328
section
variable {w0 w : World} {v : Value} {bs : List UInt8} {pi : Nat} {xs : List UInt8} {bad : Bool} {J : Res} [Stab J]
omit [Stab J] in
theorem rin_ref (hs : Src w0 v bs) (h : Own w0 w (Sep (RIn v bs pi xs bad) J)) : RI.RefV v bs w pi xs bad := by
  obtain ⟨F, ⟨A, B, ⟨⟨a, h1, h2, h4⟩, hA⟩, hB, hd, hF⟩, h5, h3⟩ := h
  refine ⟨a, ⟨h4, hs.sl.keep h3 (fun _ _ _ h => h), h1, hs.len, fun k hk hb e => ?_⟩, h2⟩
  have hp := h5 pi ((hF pi).2 (.inl ((hA pi).2 rfl)))
  rcases hs.sl.1 with ⟨e2, h0⟩ | ⟨ad, cap, e2, hc⟩
  · exact hk h0
  · have hl : 0 < bs.length := List.length_pos_iff.2 hk
    have := World.block_lt_of_cell? w0 _ (hc 0 hl)
    rw [add_block] at this
    rw [e2] at hb
    simp [blkV] at hb
    omega
theorem rin_call (hs : Src w0 v bs) (h : Own w0 w (Sep (RIn v bs pi xs bad) J)) {f : FuncId} {args : Array Value} {val : Value} {ys : List UInt8} {b : Bool}
    (hc : RI.RefV v bs w pi xs bad → Calls Tryz.prog f args w fun e w' => e = .returned val ∧ RI.RefV v bs w' pi ys b ∧ Only (fun k => k = pi) w w') :
    Calls Tryz.prog f args w fun e w' => e = .returned val ∧ Own w0 w' (Sep (RIn v bs pi ys b) J) := by
  refine (hc (rin_ref hs h)).mono ?_
  rintro e w' ⟨rfl, ⟨a, hr, rfl⟩, ho⟩
  refine ⟨rfl, ?_⟩
  obtain ⟨F, ⟨A, B, ⟨_, hA⟩, hB, hd, hF⟩, h2, h3⟩ := h
  have hp : A pi := (hA pi).2 rfl
  refine ⟨F, ⟨A, B, ⟨⟨a, hr.le, rfl, hr.cell⟩, hA⟩, Stab.keep hB (fun k hk => ho.block k (Stab.lt hB k hk) (fun e => hd k (by rw [e]; exact hp) hk)), hd, hF⟩, h2, h3.trans ho (fun k hk e => ?_)⟩
  have := h2 pi ((hF pi).2 (.inl hp))
  omega
theorem rr_num (hs : Src w0 v bs) (h : Own w0 w (Sep (RIn v bs pi xs bad) J)) (n : Nat) (hn : n ≤ 8) :
    Calls Tryz.prog 19 #[.pointer (some ⟨pi, 0, none⟩), .int .i64 n] w fun e w' => ∃ (x : Nat) (ys : List UInt8) (b : Bool), e = .returned (.int .u64 (x : Int)) ∧ x < 256 ^ n ∧ Rd (pNum n) xs bad x ys b ∧ Own w0 w' (Sep (RIn v bs pi ys b) J) :=
  (rin_call hs h (fun hv => RI.refNum pi n xs bad w v bs hv hn)).mono fun e w' ⟨he, ho⟩ => ⟨_, _, _, he, numN_lt n xs bad, Rd.num n xs bad, ho⟩
theorem rr_flag (hs : Src w0 v bs) (h : Own w0 w (Sep (RIn v bs pi xs bad) J)) :
    Calls Tryz.prog 17 #[.pointer (some ⟨pi, 0, none⟩)] w fun e w' => ∃ (x : Bool) (ys : List UInt8) (b : Bool), e = .returned (.bool x) ∧ Rd pFlag xs bad x ys b ∧ Own w0 w' (Sep (RIn v bs pi ys b) J) :=
  (rin_call hs h (fun hv => RI.refFlag pi xs bad w v bs hv)).mono fun e w' ⟨he, ho⟩ => ⟨_, _, _, he, Rd.flag xs bad, ho⟩
theorem rr_text (hs : Src w0 v bs) (h : Own w0 w (Sep (RIn v bs pi xs bad) J)) :
    Calls Tryz.prog 20 #[.pointer (some ⟨pi, 0, none⟩)] w fun e w' => ∃ (x : ByteArray) (ys : List UInt8) (b : Bool), e = .returned (.string x) ∧ Rd pText xs bad x ys b ∧ Own w0 w' (Sep (RIn v bs pi ys b) J) :=
  (rin_call hs h (fun hv => RI.refText pi xs bad w v bs hv)).mono fun e w' ⟨he, ho⟩ => ⟨_, _, _, he, Rd.text xs bad, ho⟩
theorem rr_done (hs : Src w0 v bs) (h : Own w0 w (Sep (RIn v bs pi xs bad) J)) :
    Calls Tryz.prog 22 #[.pointer (some ⟨pi, 0, none⟩)] w fun e w' => e = .returned (.bool (!bad && xs.isEmpty)) ∧ Own w0 w' (Sep (RIn v bs pi xs bad) J) := by
  obtain ⟨a, hr, hx⟩ := rin_ref hs h
  cases bad with
  | true =>
    refine (RI.refDone_bad pi v bs a w hr).mono ?_
    rintro e w' ⟨rfl, n, rfl⟩
    exact ⟨rfl, h.drewN n⟩
  | false =>
    refine (RI.refDone_good pi v bs a w hr).mono ?_
    rintro e w' ⟨rfl, n, rfl⟩
    refine ⟨?_, h.drewN n⟩
    have hle := hr.le
    rw [hx]
    congr 2
    rw [Bool.eq_iff_iff]
    simp [List.isEmpty_iff]
    omega
omit [Stab J] in
theorem rr_bad (h : Own w0 w (Sep (RIn v bs pi xs bad) J)) : w.cell? ⟨pi, 2, none⟩ = some (.bool bad) := by
  obtain ⟨F, ⟨A, B, ⟨⟨a, h1, h2, h4⟩, hA⟩, hB, hd, hF⟩, h5, h3⟩ := h
  simp [World.cell?, h4]
theorem rin_new {I : Res} [Stab I] (h : Own w0 w I) (v : Value) (bs : List UInt8) : Own w0 (w.alloc (.cells #[v, .int .i64 0, .bool false] 51)) (Sep (RIn v bs w.heap.size bs false) I) := by
  refine h.fresh ((Only.refl _ w).alloc _) (B := fun k => k = w.heap.size) ⟨⟨0, Nat.zero_le _, by simp, heap_alloc_new w _⟩, fun k => Iff.rfl⟩ (fun k e => by omega)
end

/-- What an append of one element to a slice of one's own leaves, in a region that draws its order. -/
theorem step_appendG {α : Type} [Cel α] {t e : TypeId} {bytes : Nat} (hT : ElT α t e bytes) {ops : Array Oper} {o : Oper} {a : Act} {K : Act → World → Prop} {Q : Exit → Act → World → Prop} {E : Prop} {w0 wx : World} {v : Value} {xs : List α} {J : Res} [Stab J] (h : Own w0 wx (Sep (RowG e v xs) J)) (m : α) (c : Nat)
    (hlen : (xs.length + 1) * bytes ≤ 140737488351232) (h63 : xs.length + 1 ≤ 140737488351232) (hgd : o.guard = none) (s x : Operand) (ho : o.op = .call { callee := .builtin .append, args := #[s, x], argTypes := #[t, t] })
    (hs : a.eval s = v) (cs : Array Value) (hcs : cs.toList = Cel.cells m) (hx : a.eval x = .slice (some ⟨wx.heap.size, 0, none⟩) 1 c)
    (k : ∀ g cap n w', Hid (n = (xs ++ [m]).length) → Hid (Own w0 w' (Sep (RowG e (.slice (some ⟨g, 0, none⟩) n cap) (xs ++ [m])) J)) → K (a.put o.dst (.slice (some ⟨g, 0, none⟩) n cap)) w') :
    if Region.wanted o (yielded ops a.tmps) = true then Oper.wp Tryz.prog o a (wx.alloc (.cells cs e)) K Q else E := by
  obtain ⟨i0, z, hi, hz0, hz1, hz2, hz3⟩ := hT.i
  have HA := (h.alloc (.cells cs e)).snd
  have hcq : ∀ j u, (Cel.cells m)[j]? = some u → (wx.alloc (.cells cs e)).cell? ((⟨wx.heap.size, 0, none⟩ : Addr).add j) = some u := by
    rw [← hcs]
    exact World.news_of_block (B := wx.heap.size) (heap_alloc_new wx _)
  refine step_append_lies (P := Tryz.prog) (wx.alloc (.cells cs e)) hgd s x t ho 0 e i0 z (Cel.size α) bytes hT.u hi hz0 hz1 hz2 hz3 Cel.pos v xs.length (cAll xs) hs
    HA.owns ⟨wx.heap.size, 0, none⟩ 1 c (Cel.cells m) hx (by rw [Cel.len, Nat.one_mul]) hcq (Cel.one m) (Nat.le_refl _) (by unfold maxLen; omega) (by omega) (Nat.zero_le _) (wx.heap.size + 1) (by simp) ?_
  intro g cap w1 hown hgrow hat hlt
  have he : cAll xs ++ Cel.cells m = cAll (xs ++ [m]) := by rw [cAll_append]; simp [cAll]
  have h5 := HA.appended hown hgrow (hat.imp id (fun e => by simp; omega))
  rw [he] at h5
  refine k g cap (xs.length + 1) w1 (Lib.hid (by simp)) (Lib.hid ?_)
  have hn : (xs ++ [m]).length = xs.length + 1 := by simp
  show Own w0 w1 (Sep (RowV e (Cel.size α) _ (xs ++ [m]).length _) J)
  rw [hn]
  exact h5

end Go.Proofs.YtookbmpaoljelaaGreat

namespace Go.Proofs.YtookbmpaoljelaaGreat
open Go Go.RowKit
set_option linter.unusedVariables false
set_option linter.unusedSimpArgs false
set_option maxRecDepth 100000
set_option linter.unusedSimpArgs false
set_option maxRecDepth 100000

def REnsPost (xs : List UInt8) (bad : Bool) (v : Value) (bs : List UInt8) (pi : Nat) (J : Res) (w0 : World) (r : Ending) (w' : World) : Prop :=
  ∃ (u : Value) (l : List En) (ys : List UInt8) (b : Bool), r = .returned u ∧ l.length ≤ 65535 ∧ Rd (pBind (pNum 2) fun c => pMany pEntry c) xs bad l ys b ∧ Own w0 w' (Sep (RowG 41 u l) (Sep (RIn v bs pi ys b) J))
def RMsgsPost (xs : List UInt8) (bad : Bool) (v : Value) (bs : List UInt8) (pi : Nat) (J : Res) (w0 : World) (r : Ending) (w' : World) : Prop :=
  ∃ (u : Value) (l : List Ms) (ys : List UInt8) (b : Bool), r = .returned u ∧ l.length ≤ 65535 ∧ Rd pBuf xs bad l ys b ∧ Own w0 w' (Sep (RowG 80 u l) (Sep (RIn v bs pi ys b) J))
theorem own_c6_0 {w0 w : World} {k : Nat} {t : TypeId} {a0 a1 a2 a3 a4 a5 : Value} {A J : Res} [Stab A] [Stab J] (h : Own w0 w (Sep A (Sep (Blk k (.cells #[a0, a1, a2, a3, a4, a5] t (0, 0))) J))) (u : Value) : Own w0 (w.setCell ⟨k, 0, none⟩ u) (Sep A (Sep (Blk k (.cells #[u, a1, a2, a3, a4, a5] t (0, 0))) J)) := by
  have := (h.swap.store 0 u).swap
  simpa using this
theorem own_c6_1 {w0 w : World} {k : Nat} {t : TypeId} {a0 a1 a2 a3 a4 a5 : Value} {A J : Res} [Stab A] [Stab J] (h : Own w0 w (Sep A (Sep (Blk k (.cells #[a0, a1, a2, a3, a4, a5] t (0, 0))) J))) (u : Value) : Own w0 (w.setCell ⟨k, 1, none⟩ u) (Sep A (Sep (Blk k (.cells #[a0, u, a2, a3, a4, a5] t (0, 0))) J)) := by
  have := (h.swap.store 1 u).swap
  simpa using this
theorem own_c6_2 {w0 w : World} {k : Nat} {t : TypeId} {a0 a1 a2 a3 a4 a5 : Value} {A J : Res} [Stab A] [Stab J] (h : Own w0 w (Sep A (Sep (Blk k (.cells #[a0, a1, a2, a3, a4, a5] t (0, 0))) J))) (u : Value) : Own w0 (w.setCell ⟨k, 2, none⟩ u) (Sep A (Sep (Blk k (.cells #[a0, a1, u, a3, a4, a5] t (0, 0))) J)) := by
  have := (h.swap.store 2 u).swap
  simpa using this
theorem own_c6_3 {w0 w : World} {k : Nat} {t : TypeId} {a0 a1 a2 a3 a4 a5 : Value} {A J : Res} [Stab A] [Stab J] (h : Own w0 w (Sep A (Sep (Blk k (.cells #[a0, a1, a2, a3, a4, a5] t (0, 0))) J))) (u : Value) : Own w0 (w.setCell ⟨k, 3, none⟩ u) (Sep A (Sep (Blk k (.cells #[a0, a1, a2, u, a4, a5] t (0, 0))) J)) := by
  have := (h.swap.store 3 u).swap
  simpa using this
theorem own_c6_4 {w0 w : World} {k : Nat} {t : TypeId} {a0 a1 a2 a3 a4 a5 : Value} {A J : Res} [Stab A] [Stab J] (h : Own w0 w (Sep A (Sep (Blk k (.cells #[a0, a1, a2, a3, a4, a5] t (0, 0))) J))) (u : Value) : Own w0 (w.setCell ⟨k, 4, none⟩ u) (Sep A (Sep (Blk k (.cells #[a0, a1, a2, a3, u, a5] t (0, 0))) J)) := by
  have := (h.swap.store 4 u).swap
  simpa using this
theorem own_c6_5 {w0 w : World} {k : Nat} {t : TypeId} {a0 a1 a2 a3 a4 a5 : Value} {A J : Res} [Stab A] [Stab J] (h : Own w0 w (Sep A (Sep (Blk k (.cells #[a0, a1, a2, a3, a4, a5] t (0, 0))) J))) (u : Value) : Own w0 (w.setCell ⟨k, 5, none⟩ u) (Sep A (Sep (Blk k (.cells #[a0, a1, a2, a3, a4, u] t (0, 0))) J)) := by
  have := (h.swap.store 5 u).swap
  simpa using this
theorem own_c7_0 {w0 w : World} {k : Nat} {t : TypeId} {a0 a1 a2 a3 a4 a5 a6 : Value} {A J : Res} [Stab A] [Stab J] (h : Own w0 w (Sep A (Sep (Blk k (.cells #[a0, a1, a2, a3, a4, a5, a6] t (0, 0))) J))) (u : Value) : Own w0 (w.setCell ⟨k, 0, none⟩ u) (Sep A (Sep (Blk k (.cells #[u, a1, a2, a3, a4, a5, a6] t (0, 0))) J)) := by
  have := (h.swap.store 0 u).swap
  simpa using this
theorem own_c7_1 {w0 w : World} {k : Nat} {t : TypeId} {a0 a1 a2 a3 a4 a5 a6 : Value} {A J : Res} [Stab A] [Stab J] (h : Own w0 w (Sep A (Sep (Blk k (.cells #[a0, a1, a2, a3, a4, a5, a6] t (0, 0))) J))) (u : Value) : Own w0 (w.setCell ⟨k, 1, none⟩ u) (Sep A (Sep (Blk k (.cells #[a0, u, a2, a3, a4, a5, a6] t (0, 0))) J)) := by
  have := (h.swap.store 1 u).swap
  simpa using this
theorem own_c7_2 {w0 w : World} {k : Nat} {t : TypeId} {a0 a1 a2 a3 a4 a5 a6 : Value} {A J : Res} [Stab A] [Stab J] (h : Own w0 w (Sep A (Sep (Blk k (.cells #[a0, a1, a2, a3, a4, a5, a6] t (0, 0))) J))) (u : Value) : Own w0 (w.setCell ⟨k, 2, none⟩ u) (Sep A (Sep (Blk k (.cells #[a0, a1, u, a3, a4, a5, a6] t (0, 0))) J)) := by
  have := (h.swap.store 2 u).swap
  simpa using this
theorem own_c7_3 {w0 w : World} {k : Nat} {t : TypeId} {a0 a1 a2 a3 a4 a5 a6 : Value} {A J : Res} [Stab A] [Stab J] (h : Own w0 w (Sep A (Sep (Blk k (.cells #[a0, a1, a2, a3, a4, a5, a6] t (0, 0))) J))) (u : Value) : Own w0 (w.setCell ⟨k, 3, none⟩ u) (Sep A (Sep (Blk k (.cells #[a0, a1, a2, u, a4, a5, a6] t (0, 0))) J)) := by
  have := (h.swap.store 3 u).swap
  simpa using this
theorem own_c7_4 {w0 w : World} {k : Nat} {t : TypeId} {a0 a1 a2 a3 a4 a5 a6 : Value} {A J : Res} [Stab A] [Stab J] (h : Own w0 w (Sep A (Sep (Blk k (.cells #[a0, a1, a2, a3, a4, a5, a6] t (0, 0))) J))) (u : Value) : Own w0 (w.setCell ⟨k, 4, none⟩ u) (Sep A (Sep (Blk k (.cells #[a0, a1, a2, a3, u, a5, a6] t (0, 0))) J)) := by
  have := (h.swap.store 4 u).swap
  simpa using this
theorem own_c7_5 {w0 w : World} {k : Nat} {t : TypeId} {a0 a1 a2 a3 a4 a5 a6 : Value} {A J : Res} [Stab A] [Stab J] (h : Own w0 w (Sep A (Sep (Blk k (.cells #[a0, a1, a2, a3, a4, a5, a6] t (0, 0))) J))) (u : Value) : Own w0 (w.setCell ⟨k, 5, none⟩ u) (Sep A (Sep (Blk k (.cells #[a0, a1, a2, a3, a4, u, a6] t (0, 0))) J)) := by
  have := (h.swap.store 5 u).swap
  simpa using this
theorem own_c7_6 {w0 w : World} {k : Nat} {t : TypeId} {a0 a1 a2 a3 a4 a5 a6 : Value} {A J : Res} [Stab A] [Stab J] (h : Own w0 w (Sep A (Sep (Blk k (.cells #[a0, a1, a2, a3, a4, a5, a6] t (0, 0))) J))) (u : Value) : Own w0 (w.setCell ⟨k, 6, none⟩ u) (Sep A (Sep (Blk k (.cells #[a0, a1, a2, a3, a4, a5, u] t (0, 0))) J)) := by
  have := (h.swap.store 6 u).swap
  simpa using this

set_option maxHeartbeats 8000000 in
theorem qentries_any {w0 w : World} {v : Value} {bs : List UInt8} {pi : Nat} {xs : List UInt8} {bad : Bool} {J : Res} [Stab J] (hs : Src w0 v bs) (h : Own w0 w (Sep (RIn v bs pi xs bad) J)) :
    Calls Tryz.prog 18 #[.pointer (some ⟨pi, 0, none⟩)] w (REnsPost xs bad v bs pi J w0) := by
  have H0 := Lib.hid h
  have HS := Lib.hid hs
  clear h hs
  go_enter Tryz.func18, Tryz.ntmps18
  go_wp2_with fail
  refine (rr_num HS.out H0.out 2 (by decide)).mono ?_
  rintro r w1 ⟨c, y1, b1, rfl, hc, hr, h1⟩
  have HR0 := Lib.hid hr
  have hc2 : c < 65536 := by have := hc; simpa using this
  have hw : IntKind.i64.wrap (c : Int) = (c : Int) := IntWalk.i64_in _ (by omega)
  have H1 := Lib.hid (h1.row_nil 41 (Cel.size En))
  clear h1 hr H0 hc
  go_wp2_with fail
  try rw [hw]
  go_loopw [3, 5] (fun out i wr => ∃ (u : Value) (l : List En) (ys : List UInt8) (b : Bool), u = out ∧ l.length ≤ 65535 ∧ i = .int .i64 (l.length : Int) ∧ Hid (Many pEntry c y1 b1 l ys b) ∧ Hid (Own w0 wr (Sep (RowG 41 u l) (Sep (RIn v bs pi ys b) J)))) (fun _ i _ => 65536 - (intOf i).toNat)
  case atStart => exact ⟨.slice none 0 0, [], y1, b1, rfl, by simp, rfl, Lib.hid (Many.start _ _ _ _), H1⟩
  case round =>
    clear H1 hw
    obtain ⟨u, l, ys, b, rfl, hl, rfl, HM, HO⟩ := hrel
    obtain ⟨ao, cap, rfl⟩ := rowg_shape HO.out
    have hb := rr_bad HO.out.swap
    obtain ⟨m, hm⟩ : ∃ m, m = l.length := ⟨_, rfl⟩
    have HML := Lib.hid hm
    have hm5 : m ≤ 65535 := by rw [hm]; exact hl
    rw [← hm]
    clear hm hl
    by_cases hlt : m < c
    · have hltI : (m : Int) < (c : Int) := by omega
      cases b with
      | true =>
        go_wp2_with fail
        go_ret
        exact ⟨_, l, ys, true, by rw [← HML.out]; rfl, by rw [← HML.out]; exact hm5, HR0.out.bind (HM.out.done (.inl rfl)), HO.out⟩
      | false =>
        have HE0 := Lib.hid ((HO.out.alloc (.cells #[.string ⟨#[]⟩, .bool false, .string ⟨#[]⟩, .int .u64 0, .bool false, .string ⟨#[]⟩] 41)).ac (by ac_rfl) : Own w0 (wr.alloc (.cells #[.string ⟨#[]⟩, .bool false, .string ⟨#[]⟩, .int .u64 0, .bool false, .string ⟨#[]⟩] 41)) (Sep (RIn v bs pi ys false) (Sep (Blk wr.heap.size (.cells #[.string ⟨#[]⟩, .bool false, .string ⟨#[]⟩, .int .u64 0, .bool false, .string ⟨#[]⟩] 41 (0, 0))) (Sep (RowG 41 (.slice ao l.length cap) l) J))))
        clear HO
        go_upto_region 7 with fail
        generalize wr.alloc (.cells #[.string ⟨#[]⟩, .bool false, .string ⟨#[]⟩, .int .u64 0, .bool false, .string ⟨#[]⟩] 41) = u0 at *
        generalize wr.heap.size = eb at *
        clear hb
        go_wp2_with fail
        refine (rr_text HS.out HE0.out).mono ?_
        rintro r w2 ⟨S1, z1, b2, rfl, hr, h1⟩
        have HR1 := Lib.hid hr
        have e0 := blk_cell h1.snd.held 0 rfl
        have q0 := blk_free h1.snd.held 0
        have HE1 := Lib.hid (own_c6_0 h1 (.string S1))
        clear hr h1 HE0
        go_upto_region 8 with fail
        generalize w2.setCell _ _ = u1 at *
        clear e0 q0
        go_wp2_with fail
        refine (rr_flag HS.out HE1.out).mono ?_
        rintro r w3 ⟨f2, z2, b3, rfl, hr, h1⟩
        have HR2 := Lib.hid hr
        have e1 := blk_cell h1.snd.held 1 rfl
        have q1 := blk_free h1.snd.held 1
        have HE2 := Lib.hid (own_c6_1 h1 (.bool f2))
        clear hr h1 HE1
        go_upto_region 9 with fail
        generalize w3.setCell _ _ = u2 at *
        clear e1 q1
        go_wp2_with fail
        refine (rr_text HS.out HE2.out).mono ?_
        rintro r w4 ⟨S3, z3, b4, rfl, hr, h1⟩
        have HR3 := Lib.hid hr
        have e2 := blk_cell h1.snd.held 2 rfl
        have q2 := blk_free h1.snd.held 2
        have HE3 := Lib.hid (own_c6_2 h1 (.string S3))
        clear hr h1 HE2
        go_upto_region 10 with fail
        generalize w4.setCell _ _ = u3 at *
        clear e2 q2
        go_wp2_with fail
        refine (rr_num HS.out HE3.out 8 (by decide)).mono ?_
        rintro r w5 ⟨x4, z4, b5, rfl, hx, hr, h1⟩
        have HR4 := Lib.hid hr
        clear hx
        have e3 := blk_cell h1.snd.held 3 rfl
        have q3 := blk_free h1.snd.held 3
        have HE4 := Lib.hid (own_c6_3 h1 (.int .u64 (x4 : Int)))
        clear hr h1 HE3
        go_upto_region 11 with fail
        generalize w5.setCell _ _ = u4 at *
        clear e3 q3
        go_wp2_with fail
        refine (rr_flag HS.out HE4.out).mono ?_
        rintro r w6 ⟨f5, z5, b6, rfl, hr, h1⟩
        have HR5 := Lib.hid hr
        have e4 := blk_cell h1.snd.held 4 rfl
        have q4 := blk_free h1.snd.held 4
        have HE5 := Lib.hid (own_c6_4 h1 (.bool f5))
        clear hr h1 HE4
        go_upto_region 12 with fail
        generalize w6.setCell _ _ = u5 at *
        clear e4 q4
        go_wp2_with fail
        refine (rr_text HS.out HE5.out).mono ?_
        rintro r w7 ⟨S6, z6, b7, rfl, hr, h1⟩
        have HR6 := Lib.hid hr
        have e5 := blk_cell h1.snd.held 5 rfl
        have q5 := blk_free h1.snd.held 5
        have HE6 := Lib.hid (own_c6_5 h1 (.string S6))
        clear hr h1 HE5
        go_upto_region 13 with fail
        generalize w7.setCell _ _ = u6 at *
        clear e5 q5
        obtain ⟨e0, e1, e2, e3, e4, e5⟩ := blk6c HE6.out.snd.held
        have HRD : Hid (Rd pEntry ys false ⟨S1, f2, S3, (x4 : Int), f5, S6⟩ z6 b7) := Lib.hid (HR1.out.bind (HR2.out.bind (HR3.out.bind (HR4.out.bind (HR5.out.bind (HR6.out.bind (Rd.ret _ _ _)))))))
        have HMN := Lib.hid (HM.out.step (by rw [← HML.out]; exact hlt) HRD.out)
        have HA := Lib.hid (HE6.out.ac (by ac_rfl : _ = Sep (RowG 41 (.slice ao l.length cap) l) (Sep (RIn v bs pi z6 b7) (Sep (Blk eb (.cells #[.string S1, .bool f2, .string S3, .int .u64 (x4 : Int), .bool f5, .string S6] 41 (0, 0))) J))))
        have hbs := fun w => run_buildSlice_one (P := Tryz.prog) w 25 41 _ 6 Tryz.underlying25 infoEn2 rfl (by decide) (by decide) #[.string S1, .bool f2, .string S3, .int .u64 (x4 : Int), .bool f5, .string S6] rfl
        clear HM HE6 HRD
        go_wp2_with (first | (at_builtin; refine own_appendG elEn HA.out ⟨S1, f2, S3, (x4 : Int), f5, S6⟩ 1 (by have := HML.out; omega) (by have := HML.out; omega) rfl (.tmp 41) (.tmp 43) rfl (by rw [← HML.out]; rfl) #[.string S1, .bool f2, .string S3, .int .u64 (x4 : Int), .bool f5, .string S6] rfl rfl ?_))
        intro g2 cap2 n2 w9 hn2 hown
        have HN2 := Lib.hid hn2.out
        have H5 := Lib.hid (own_out3 hown.out)
        have hn25 : n2 = m + 1 := by have h1 := HN2.out; have h2 := HML.out; (try simp only [List.length_append, List.length_cons, List.length_nil] at h1); omega
        subst hn25
        clear hown hn2 HA hbs e0 e1 e2 e3 e4 e5
        go_wp2_with fail
        go_roundw
        case rel => exact ⟨_, l ++ [⟨S1, f2, S3, (x4 : Int), f5, S6⟩], z6, b7, rfl, by simp only [List.length_append, List.length_cons, List.length_nil]; have := HML.out; omega, by rw [List.length_append, ← HML.out]; go_num, HMN, H5⟩
        case measure => simp [intOf]; omega
    · have hltI : ¬ (m : Int) < (c : Int) := by omega
      go_wp2_with fail
      go_ret
      exact ⟨_, l, ys, b, by rw [← HML.out]; rfl, by rw [← HML.out]; exact hm5, HR0.out.bind (HM.out.done (.inr (by have := HML.out; omega))), HO.out⟩

set_option maxHeartbeats 8000000 in
theorem qmsgs_any {w0 w : World} {v : Value} {bs : List UInt8} {pi : Nat} {xs : List UInt8} {bad : Bool} {J : Res} [Stab J] (hs : Src w0 v bs) (h : Own w0 w (Sep (RIn v bs pi xs bad) J)) :
    Calls Tryz.prog 21 #[.pointer (some ⟨pi, 0, none⟩)] w (RMsgsPost xs bad v bs pi J w0) := by
  have H0 := Lib.hid h
  have HS := Lib.hid hs
  clear h hs
  go_enter Tryz.func21, Tryz.ntmps21
  go_wp2_with fail
  refine (rr_num HS.out H0.out 2 (by decide)).mono ?_
  rintro r w1 ⟨c, y1, b1, rfl, hc, hr, h1⟩
  have HR0 := Lib.hid hr
  have hc2 : c < 65536 := by have := hc; simpa using this
  have hw : IntKind.i64.wrap (c : Int) = (c : Int) := IntWalk.i64_in _ (by omega)
  have H1 := Lib.hid (h1.row_nil 80 (Cel.size Ms))
  clear h1 hr H0 hc
  go_wp2_with fail
  try rw [hw]
  go_loopw [3, 5] (fun out i wr => ∃ (u : Value) (l : List Ms) (ys : List UInt8) (b : Bool), u = out ∧ l.length ≤ 65535 ∧ i = .int .i64 (l.length : Int) ∧ Hid (Many pMsg c y1 b1 l ys b) ∧ Hid (Own w0 wr (Sep (RowG 80 u l) (Sep (RIn v bs pi ys b) J)))) (fun _ i _ => 65536 - (intOf i).toNat)
  case atStart => exact ⟨.slice none 0 0, [], y1, b1, rfl, by simp, rfl, Lib.hid (Many.start _ _ _ _), H1⟩
  case round =>
    clear H1 hw
    obtain ⟨u, l, ys, b, rfl, hl, rfl, HM, HO⟩ := hrel
    obtain ⟨ao, cap, rfl⟩ := rowg_shape HO.out
    have hb := rr_bad HO.out.swap
    obtain ⟨m, hm⟩ : ∃ m, m = l.length := ⟨_, rfl⟩
    have HML := Lib.hid hm
    have hm5 : m ≤ 65535 := by rw [hm]; exact hl
    rw [← hm]
    clear hm hl
    by_cases hlt : m < c
    · have hltI : (m : Int) < (c : Int) := by omega
      cases b with
      | true =>
        go_wp2_with fail
        go_ret
        exact ⟨_, l, ys, true, by rw [← HML.out]; rfl, by rw [← HML.out]; exact hm5, HR0.out.bind (HM.out.done (.inl rfl)), HO.out⟩
      | false =>
        have HE0 := Lib.hid ((HO.out.alloc (.cells #[.int .u64 0, .int .i64 0, .string ⟨#[]⟩, .int .u64 0, .string ⟨#[]⟩, .int .i64 0, .int .u64 0] 80)).ac (by ac_rfl) : Own w0 (wr.alloc (.cells #[.int .u64 0, .int .i64 0, .string ⟨#[]⟩, .int .u64 0, .string ⟨#[]⟩, .int .i64 0, .int .u64 0] 80)) (Sep (RIn v bs pi ys false) (Sep (Blk wr.heap.size (.cells #[.int .u64 0, .int .i64 0, .string ⟨#[]⟩, .int .u64 0, .string ⟨#[]⟩, .int .i64 0, .int .u64 0] 80 (0, 0))) (Sep (RowG 80 (.slice ao l.length cap) l) J))))
        clear HO
        go_upto_region 7 with fail
        generalize wr.alloc (.cells #[.int .u64 0, .int .i64 0, .string ⟨#[]⟩, .int .u64 0, .string ⟨#[]⟩, .int .i64 0, .int .u64 0] 80) = u0 at *
        generalize wr.heap.size = eb at *
        clear hb
        go_wp2_with fail
        refine (rr_num HS.out HE0.out 8 (by decide)).mono ?_
        rintro r w2 ⟨x1, z1, b2, rfl, hx, hr, h1⟩
        have HR1 := Lib.hid hr
        clear hx
        have e0 := blk_cell h1.snd.held 0 rfl
        have q0 := blk_free h1.snd.held 0
        have HE1 := Lib.hid (own_c7_0 h1 (.int .u64 (x1 : Int)))
        clear hr h1 HE0
        go_upto_region 8 with fail
        generalize w2.setCell _ _ = u1 at *
        clear e0 q0
        go_wp2_with fail
        refine (rr_num HS.out HE1.out 1 (by decide)).mono ?_
        rintro r w3 ⟨x2, z2, b3, rfl, hx, hr, h1⟩
        have HR2 := Lib.hid hr
        have hx2 : x2 < 256 := by simpa using hx
        have hwx : IntKind.i64.wrap (x2 : Int) = (x2 : Int) := IntWalk.i64_in _ (by omega)
        clear hx
        have e1 := blk_cell h1.snd.held 1 rfl
        have q1 := blk_free h1.snd.held 1
        have HE2 := Lib.hid (own_c7_1 h1 (.int .i64 (x2 : Int)))
        clear hr h1 HE1
        go_upto_region 9 with fail
        try rw [hwx]
        generalize w3.setCell _ _ = u2 at *
        clear e1 q1 hx2 hwx
        go_wp2_with fail
        refine (rr_text HS.out HE2.out).mono ?_
        rintro r w4 ⟨S3, z3, b4, rfl, hr, h1⟩
        have HR3 := Lib.hid hr
        have e2 := blk_cell h1.snd.held 2 rfl
        have q2 := blk_free h1.snd.held 2
        have HE3 := Lib.hid (own_c7_2 h1 (.string S3))
        clear hr h1 HE2
        go_upto_region 10 with fail
        generalize w4.setCell _ _ = u3 at *
        clear e2 q2
        go_wp2_with fail
        refine (rr_num HS.out HE3.out 8 (by decide)).mono ?_
        rintro r w5 ⟨x4, z4, b5, rfl, hx, hr, h1⟩
        have HR4 := Lib.hid hr
        clear hx
        have e3 := blk_cell h1.snd.held 3 rfl
        have q3 := blk_free h1.snd.held 3
        have HE4 := Lib.hid (own_c7_3 h1 (.int .u64 (x4 : Int)))
        clear hr h1 HE3
        go_upto_region 11 with fail
        generalize w5.setCell _ _ = u4 at *
        clear e3 q3
        go_wp2_with fail
        refine (rr_text HS.out HE4.out).mono ?_
        rintro r w6 ⟨S5, z5, b6, rfl, hr, h1⟩
        have HR5 := Lib.hid hr
        have e4 := blk_cell h1.snd.held 4 rfl
        have q4 := blk_free h1.snd.held 4
        have HE5 := Lib.hid (own_c7_4 h1 (.string S5))
        clear hr h1 HE4
        go_upto_region 12 with fail
        generalize w6.setCell _ _ = u5 at *
        clear e4 q4
        go_wp2_with fail
        refine (rr_num HS.out HE5.out 2 (by decide)).mono ?_
        rintro r w7 ⟨x6, z6, b7, rfl, hx, hr, h1⟩
        have HR6 := Lib.hid hr
        have hx2 : x6 < 65536 := by simpa using hx
        have hwx : IntKind.i64.wrap (x6 : Int) = (x6 : Int) := IntWalk.i64_in _ (by omega)
        clear hx
        have e5 := blk_cell h1.snd.held 5 rfl
        have q5 := blk_free h1.snd.held 5
        have HE6 := Lib.hid (own_c7_5 h1 (.int .i64 (x6 : Int)))
        clear hr h1 HE5
        go_upto_region 13 with fail
        try rw [hwx]
        generalize w7.setCell _ _ = u6 at *
        clear e5 q5 hx2 hwx
        go_wp2_with fail
        refine (rr_num HS.out HE6.out 8 (by decide)).mono ?_
        rintro r w8 ⟨x7, z7, b8, rfl, hx, hr, h1⟩
        have HR7 := Lib.hid hr
        clear hx
        have e6 := blk_cell h1.snd.held 6 rfl
        have q6 := blk_free h1.snd.held 6
        have HE7 := Lib.hid (own_c7_6 h1 (.int .u64 (x7 : Int)))
        clear hr h1 HE6
        go_upto_region 14 with fail
        generalize w8.setCell _ _ = u7 at *
        clear e6 q6
        obtain ⟨e0, e1, e2, e3, e4, e5, e6⟩ := blk7c HE7.out.snd.held
        have HRD : Hid (Rd pMsg ys false ⟨(x1 : Int), (x2 : Int), S3, (x4 : Int), S5, (x6 : Int), (x7 : Int)⟩ z7 b8) := Lib.hid (HR1.out.bind (HR2.out.bind (HR3.out.bind (HR4.out.bind (HR5.out.bind (HR6.out.bind (HR7.out.bind (Rd.ret _ _ _))))))))
        have HMN := Lib.hid (HM.out.step (by rw [← HML.out]; exact hlt) HRD.out)
        have HA := Lib.hid (HE7.out.ac (by ac_rfl : _ = Sep (RowG 80 (.slice ao l.length cap) l) (Sep (RIn v bs pi z7 b8) (Sep (Blk eb (.cells #[.int .u64 (x1 : Int), .int .i64 (x2 : Int), .string S3, .int .u64 (x4 : Int), .string S5, .int .i64 (x6 : Int), .int .u64 (x7 : Int)] 80 (0, 0))) J))))
        have hbs := fun w => run_buildSlice_one (P := Tryz.prog) w 55 80 _ 7 Tryz.underlying55 infoMs2 rfl (by decide) (by decide) #[.int .u64 (x1 : Int), .int .i64 (x2 : Int), .string S3, .int .u64 (x4 : Int), .string S5, .int .i64 (x6 : Int), .int .u64 (x7 : Int)] rfl
        clear HM HE7 HRD
        go_wp2_with (first | (at_builtin; refine own_appendG elMs HA.out ⟨(x1 : Int), (x2 : Int), S3, (x4 : Int), S5, (x6 : Int), (x7 : Int)⟩ 1 (by have := HML.out; omega) (by have := HML.out; omega) rfl (.tmp 46) (.tmp 48) rfl (by rw [← HML.out]; rfl) #[.int .u64 (x1 : Int), .int .i64 (x2 : Int), .string S3, .int .u64 (x4 : Int), .string S5, .int .i64 (x6 : Int), .int .u64 (x7 : Int)] rfl rfl ?_))
        intro g2 cap2 n2 w9 hn2 hown
        have HN2 := Lib.hid hn2.out
        have H5 := Lib.hid (own_out3 hown.out)
        have hn25 : n2 = m + 1 := by have h1 := HN2.out; have h2 := HML.out; (try simp only [List.length_append, List.length_cons, List.length_nil] at h1); omega
        subst hn25
        clear hown hn2 HA hbs e0 e1 e2 e3 e4 e5 e6
        go_wp2_with fail
        go_roundw
        case rel => exact ⟨_, l ++ [⟨(x1 : Int), (x2 : Int), S3, (x4 : Int), S5, (x6 : Int), (x7 : Int)⟩], z7, b8, rfl, by simp only [List.length_append, List.length_cons, List.length_nil]; have := HML.out; omega, by rw [List.length_append, ← HML.out]; go_num, HMN, H5⟩
        case measure => simp [intOf]; omega
    · have hltI : ¬ (m : Int) < (c : Int) := by omega
      go_wp2_with fail
      go_ret
      exact ⟨_, l, ys, b, by rw [← HML.out]; rfl, by rw [← HML.out]; exact hm5, HR0.out.bind (HM.out.done (.inr (by have := HML.out; omega))), HO.out⟩

end Go.Proofs.YtookbmpaoljelaaGreat

namespace Go.Proofs.YtookbmpaoljelaaGreat.R
open Go Go.RowKit Go.Lib Go.Proofs.YtookbmpaoljelaaGreat
set_option linter.unusedVariables false
set_option linter.unusedSimpArgs false
set_option maxRecDepth 100000

/-- The document's Out in block p. -/
structure OutV (w : World) (p : Nat) (v : Value) (xs : List UInt8) : Prop where
  at' : w.heap[p]? = some (.cells #[v] 85 (0, 0))
  own : w.ownsRow 0 5 1 v xs.length (u8s xs)

def PutPost (w : World) (p : Nat) (v : Value) (xs : List UInt8) (e : Ending) (w' : World) : Prop :=
  e = .returned (.tuple #[]) ∧ ∃ v', OutV w' p v' xs ∧ (v'.ownBlock = v.ownBlock ∨ ∃ g, v'.ownBlock = some g ∧ w.heap.size ≤ g) ∧ Only (OutS p v) w w'

def NumInv (w : World) (p x n : Nat) (v : Value) (xs : List UInt8) (k : Nat) (wr : World) : Prop :=
  ∃ D v', D ++ beB k x = beB n x ∧ OutV wr p v' (xs ++ D) ∧ (v'.ownBlock = v.ownBlock ∨ ∃ g, v'.ownBlock = some g ∧ w.heap.size ≤ g) ∧ Only (OutS p v) w wr

theorem OutV.cell {w : World} {p : Nat} {v : Value} {xs : List UInt8} (h : OutV w p v xs) : w.cell? ⟨p, 0, none⟩ = some v := by simp [World.cell?, h.at']
theorem OutV.free {w : World} {p : Nat} {v : Value} {xs : List UInt8} (h : OutV w p v xs) : w.frozen? ⟨p, 0, none⟩ = false := by simp [World.frozen?, h.at']
theorem OutV.ne {w : World} {p : Nat} {v : Value} {xs : List UInt8} (h : OutV w p v xs) : v.ownBlock ≠ some p := by
  intro e
  have h1 := h.at'
  rcases h.own.2 with ⟨rfl, _⟩ | ⟨g, cap, cur, rfl, _, hg, _⟩
  · simp [Value.ownBlock] at e
  · simp [Value.ownBlock] at e
    subst e
    rw [hg] at h1
    simp at h1

/-- Behind the append of one byte, ahead of its store into the Out's field. -/
structure PutMid (wr : World) (p : Nat) (v : Value) (ys : List UInt8) (v1 : Value) (w1 : World) : Prop where
  at' : w1.heap[p]? = some (.cells #[v] 85 (0, 0))
  own : w1.ownsRow 0 5 1 v1 ys.length (u8s ys)
  row : v1.ownBlock = v.ownBlock ∨ ∃ g, v1.ownBlock = some g ∧ wr.heap.size ≤ g
  only : Only (OutS p v) wr w1

theorem PutMid.done {wr w1 : World} {p : Nat} {v v1 : Value} {ys : List UInt8} (h : PutMid wr p v ys v1 w1) : OutV (w1.setCell ⟨p, 0, none⟩ v1) p v1 ys := by
  have hne : v1.ownBlock ≠ some p := by
    intro e
    have h1 := h.at'
    rcases h.own.2 with ⟨rfl, _⟩ | ⟨g, cap, cur, rfl, _, hg, _⟩
    · simp [Value.ownBlock] at e
    · simp [Value.ownBlock] at e
      subst e
      rw [hg] at h1
      simp at h1
  exact ⟨one_setCell h.at', ownsRow_setCell_other h.own hne _⟩

/-- The append itself, in whatever world the new bytes lie. -/
theorem PutMid.mk' {wr w0 w1 : World} {p : Nat} {v : Value} {xs ys : List UInt8} (hV : OutV wr p v xs) (h0 : Only (fun _ => False) wr w0) {g cap n : Nat}
    (hown : w1.ownsRow 0 5 1 (.slice (some ⟨g, 0, none⟩) n cap) n (u8s ys)) (hn : n = ys.length) (hg : w0.grownBy w1 v.ownBlock) (hat : v.ownBlock = some g ∨ wr.heap.size ≤ g) :
    PutMid wr p v ys (.slice (some ⟨g, 0, none⟩) n cap) w1 := by
  have hp := h0.keep hV.at' (fun h => h)
  subst hn
  refine ⟨(hg.block p (lt_of_some hp) (fun e => hV.ne e.symm)).trans hp, hown, ?_, ?_⟩
  · rcases hat with h | h
    · exact .inl h.symm
    · exact .inr ⟨g, rfl, h⟩
  · exact (h0.mono (T := OutS p v) (fun _ _ h => h.elim)).grown hg (fun k _ e => .inr e)

theorem step_put {ops : Array Oper} {o : Oper} {a : Act} {K : Act → World → Prop} {Q : Exit → Act → World → Prop} {E : Prop} (wr : World) (p : Nat) (v : Value) (xs : List UInt8) (z : Int) (b : UInt8)
    (hV : OutV wr p v xs) (hz : z = (b.toNat : Int)) (hlen : xs.length + 1 ≤ 140737488355328) (hgd : o.guard = none) (s x : Operand)
    (ho : o.op = .call { callee := .builtin .append, args := #[s, x], argTypes := #[22, 22] })
    (hs : a.eval s = v) (hx : a.eval x = .slice (some ⟨wr.heap.size, 0, none⟩) 1 1)
    (h : ∀ g cap w1, w1.cell? ⟨p, 0, none⟩ = some v → w1.frozen? ⟨p, 0, none⟩ = false → Hid (PutMid wr p v (xs ++ [b]) (.slice (some ⟨g, 0, none⟩) (xs.length + 1) cap) w1) →
      K (a.put o.dst (.slice (some ⟨g, 0, none⟩) (xs.length + 1) cap)) w1) :
    if Region.wanted o (yielded ops a.tmps) = true then Oper.wp Tryz.prog o a (wr.alloc (.cells #[.int .u8 z] 5)).drew K Q else E := by
  obtain ⟨i0, hi, hz0, hz1, hz2⟩ := info_parts Tryz.infoU8
  subst hz
  refine step_append_lies (P := Tryz.prog) (wr.alloc (.cells #[.int .u8 (b.toNat : Int)] 5)).drew hgd s x 22 ho 0 5 i0 (.int .u8 0) 1 1 Tryz.underlying22 hi hz0 hz1 hz2 rfl (by decide) v xs.length (u8s xs) hs
    ((hV.own.alloc _).drew) ⟨wr.heap.size, 0, none⟩ 1 1 (u8s [b]) hx rfl (World.news_of_block (B := wr.heap.size) (heap_alloc_new wr _)) (u8s_oneCell _) Nat.zero_lt_one (by unfold maxLen; omega) (by omega) (Nat.zero_le _) (wr.heap.size + 1) (by simp) ?_
  intro g cap w1 hown hgrow hat hlt
  rw [← u8s_append] at hown
  have hm := PutMid.mk' (ys := xs ++ [b]) hV (((Only.refl _ wr).alloc (.cells #[.int .u8 (b.toNat : Int)] 5)).drew) hown (by simp) hgrow (hat.imp id (fun e => by omega))
  exact h g cap w1 (cell_of_one hm.at') (free_of_one hm.at') hm

theorem NumInv.step {w wr w1 : World} {p x n m q : Nat} {v v' v1 : Value} {xs ys D : List UInt8} (hys : ys = xs ++ D) (hD : D ++ beB (m + 1) x = beB n x)
    (hb : v'.ownBlock = v.ownBlock ∨ ∃ g, v'.ownBlock = some g ∧ w.heap.size ≤ g) (ho : Only (OutS p v) w wr) (hq : q = x / 256 ^ m) (hm : PutMid wr p v' (ys ++ [UInt8.ofNat q]) v1 w1) :
    NumInv w p x n v xs m (w1.setCell ⟨p, 0, none⟩ v1) := by
  subst hys hq
  refine ⟨D ++ [UInt8.ofNat (x / 256 ^ m)], v1, by rw [← hD]; simp [beB], by simpa using hm.done, row_trans ho.size hb hm.row, ?_⟩
  exact (ho.trans (hm.only.trans (Only.cell w1 p 0 v1) (fun k _ e => .inl e)) (fun k hk h => OutS.sub hb k hk h))

set_option maxHeartbeats 400000 in
theorem putNumber (p x n : Nat) (v : Value) (xs : List UInt8) (w : World) (hO : OutV w p v xs) (hn8 : n ≤ 8) (hx : x < 18446744073709551616) (hlen : xs.length + n ≤ 140737488355328) :
    Calls Tryz.prog 51 #[.pointer (some ⟨p, 0, none⟩), .int .u64 x, .int .i64 n] w (PutPost w p v (xs ++ beB n x)) := by
  have HX := Lib.hid hx
  clear hx
  have HO := Lib.hid hO
  clear hO
  obtain ⟨i0, hi, hz0, hz1, hz2⟩ := info_parts Tryz.infoU8
  go_enter Tryz.func51, Tryz.ntmps51
  go_wp2
  go_loopw [6] (fun i wr => ∃ k : Nat, k ≤ n ∧ i = .int .i64 ((k : Int) - 1) ∧ NumInv w p x n v xs k wr) (fun i _ => (RowKit.intOf i + 1).toNat)
  case atStart => exact ⟨n, Nat.le_refl _, rfl, [], v, rfl, by rw [List.append_nil]; exact HO.out, .inl rfl, Only.refl _ _⟩
  case round =>
    obtain ⟨k, hk, rfl, hinv⟩ := hrel
    have HI := Lib.hid hinv; clear hinv
    match k, hk, HI with
    | 0, hk, HI =>
      go_wp2
      obtain ⟨D, v', hD, hV, hb, ho⟩ := HI.out
      exact bodyPost_end (results_none rfl _ _ _) rfl ⟨rfl, v', by rw [← hD]; simpa [beB] using hV, hb, ho⟩
    | m + 1, hk, HI =>
      obtain ⟨D, v', hD, hV, hb, ho⟩ := HI.out
      rw [show (((m + 1 : Nat) : Int) - 1) = (m : Int) from by omega]
      obtain ⟨ys, hys⟩ : ∃ ys, ys = xs ++ D := ⟨_, rfl⟩
      rw [← hys] at hV
      have hc0 := hV.cell
      have hf := hV.free
      obtain ⟨q, hq⟩ : ∃ q, q = x / 256 ^ m := ⟨_, rfl⟩
      have hsh := shift_at x m (by omega)
      rw [← hq] at hsh
      have hlen2 : ys.length + 1 ≤ 140737488355328 := by
        have h1 := congrArg List.length hD
        rw [hys]
        simp only [List.length_append, beB_length] at h1 ⊢
        omega
      have hz : IntKind.u8.wrap (q : Int) = ((UInt8.ofNat q).toNat : Int) := by rw [IntKind.wrap_u8']; simp
      have hc0' : (wr.alloc (.cells #[.int .u8 (IntKind.u8.wrap (q : Int))] 5)).cell? ⟨p, 0, none⟩ = some v' := cell_of_one ((Below.heap_alloc wr _ p (lt_of_some hV.at')).trans hV.at')
      have HV := Lib.hid hV; clear hV
      have HD := Lib.hid hD; clear hD
      have HB := Lib.hid hb; clear hb
      have HW := Lib.hid ho; clear ho
      have HQ := Lib.hid hq; clear hq
      have HYS := Lib.hid hys; clear hys
      have HZ := Lib.hid hz; clear hz
      clear HI HO
      go_wp2
      go_region_law ((refine step_put wr p v' ys (IntKind.u8.wrap (q : Int)) (UInt8.ofNat q) HV.out HZ.out hlen2 rfl (.tmp 17) (.tmp 23) rfl ?_ ?_ ?_; (go_must (simp [Act.eval])); (go_must (simp [Act.eval])); (go_must (intro g cap w1 c1 f1 HM))))
      all_goals
        have HN := Lib.hid (NumInv.step HYS.out HD.out HB.out HW.out HQ.out HM.out)
        clear HM HYS HD HB HW HQ HV HZ hc0 hf hsh hlen2 hc0' c1 f1
        go_wp2
        go_roundw
        case rel => exact ⟨m, by omega, by go_num, HN.out⟩
        case measure => (simp [RowKit.intOf] <;> omega)

end Go.Proofs.YtookbmpaoljelaaGreat.R

namespace Go.Proofs.YtookbmpaoljelaaGreat.R
open Go Go.RowKit Go.Lib Go.Proofs.YtookbmpaoljelaaGreat
set_option linter.unusedVariables false
set_option linter.unusedSimpArgs false
set_option maxRecDepth 100000

theorem wp_text {ops : Array Oper} {rest : List Oper} {o : Oper} {a : Act} {Q : Exit → Act → World → Prop} (w : World) (p : Nat) (v : Value) (xs : List UInt8) (s : ByteArray) (hV : OutV w p v xs) (hlen : xs.length + s.size ≤ 140737488355328)
    (hgd : o.guard = none) (sl x : Operand) (ho : o.op = .call { callee := .builtin .append, args := #[sl, x], argTypes := #[22, 9] }) (hty : o.type = 22)
    (hs : a.eval sl = v) (hx : a.eval x = .string s)
    (h : ∀ ao cap w', w'.cell? ⟨p, 0, none⟩ = some v → w'.frozen? ⟨p, 0, none⟩ = false → Hid (PutMid w p v (xs ++ s.data.toList) (.slice ao (xs.length + s.size) cap) w') → wpList Tryz.prog ops Q rest (a.put o.dst (.slice ao (xs.length + s.size) cap)) w') :
    wpList Tryz.prog ops Q (o :: rest) a w := by
  refine wpList_plain hgd fun K hK => ?_
  obtain ⟨v', w', hr, h2, h3, h4⟩ := run_str_at w v xs.length (u8s xs) hV.own s hlen
  obtain ⟨ao, cap, rfl⟩ := own_shape h2
  have hm : PutMid w p v (xs ++ s.data.toList) (.slice ao (xs.length + s.size) cap) w' := by
    refine ⟨(h3.block p (lt_of_some hV.at') (fun e => hV.ne e.symm)).trans hV.at', ?_, h4, (Only.refl _ w).grown h3 (fun k _ e => .inr e)⟩
    rw [u8s_append, List.length_append, Array.length_toList]
    exact h2
  unfold Oper.wp execOp
  simp only [ho, hty, resolve, invoke, builtin, Sem.run_bind, Sem.run_pure, Result.andThen_ok, List.map_toArray, List.map_cons, List.map_nil, hs, hx, hr]
  exact hK _ _ (h _ _ _ (cell_of_one hm.at') (free_of_one hm.at') hm)


/-- The append of one byte in a plain region. -/
theorem wp_put {ops : Array Oper} {rest : List Oper} {o : Oper} {a : Act} {Q : Exit → Act → World → Prop} (w : World) (p : Nat) (v : Value) (xs : List UInt8) (b : UInt8) (hV : OutV w p v xs) (hlen : xs.length + 1 ≤ 140737488355328)
    (hgd : o.guard = none) (s x : Operand) (ho : o.op = .call { callee := .builtin .append, args := #[s, x], argTypes := #[22, 22] })
    (hs : a.eval s = v) (hx : a.eval x = .slice (some ⟨w.heap.size, 0, none⟩) 1 1)
    (h : ∀ g cap w1, w1.cell? ⟨p, 0, none⟩ = some v → w1.frozen? ⟨p, 0, none⟩ = false → Hid (PutMid w p v (xs ++ [b]) (.slice (some ⟨g, 0, none⟩) (xs.length + 1) cap) w1) →
      wpList Tryz.prog ops Q rest (a.put o.dst (.slice (some ⟨g, 0, none⟩) (xs.length + 1) cap)) w1) :
    wpList Tryz.prog ops Q (o :: rest) a (w.alloc (.cells #[.int .u8 (b.toNat : Int)] 5)) := by
  obtain ⟨i0, hi, hz0, hz1, hz2⟩ := info_parts Tryz.infoU8
  refine wpList_append_lies (P := Tryz.prog) (w.alloc (.cells #[.int .u8 (b.toNat : Int)] 5)) hgd s x 22 ho 0 5 i0 (.int .u8 0) 1 1 Tryz.underlying22 hi hz0 hz1 hz2 rfl (by decide) v xs.length (u8s xs) hs
    (hV.own.alloc _) ⟨w.heap.size, 0, none⟩ 1 1 (u8s [b]) hx rfl (World.news_of_block (B := w.heap.size) (heap_alloc_new w _)) (u8s_oneCell _) Nat.zero_lt_one (by unfold maxLen; omega) (by omega) (Nat.zero_le _) (w.heap.size + 1) (by simp) ?_
  intro g cap w1 hown hgrow hat hlt
  rw [← u8s_append] at hown
  have hm := PutMid.mk' (ys := xs ++ [b]) hV ((Only.refl _ w).alloc (.cells #[.int .u8 (b.toNat : Int)] 5)) hown (by simp) hgrow (hat.imp id (fun e => by omega))
  exact h g cap w1 (cell_of_one hm.at') (free_of_one hm.at') hm

theorem done_post {w w1 : World} {p : Nat} {v v1 : Value} {ys : List UInt8} (h : PutMid w p v ys v1 w1) : PutPost w p v ys (.returned (.tuple #[])) (w1.setCell ⟨p, 0, none⟩ v1) :=
  ⟨rfl, v1, h.done, h.row, h.only.trans (Only.cell _ _ _ _) (fun k _ e => .inl e)⟩

set_option maxHeartbeats 400000 in
theorem outFlag (p : Nat) (b : Bool) (v : Value) (xs : List UInt8) (w : World) (hO : OutV w p v xs) (hlen : xs.length + 1 ≤ 140737488355328) :
    Calls Tryz.prog 50 #[.pointer (some ⟨p, 0, none⟩), .bool b] w (PutPost w p v (xs ++ flagB b)) := by
  have hc0 := hO.cell
  have hf := hO.free
  have HO := Lib.hid hO; clear hO
  cases b with
  | true =>
    go_enter Tryz.func50, Tryz.ntmps50
    go_wp2_with (at_builtin; refine wp_put w p v xs 1 HO.out hlen rfl (.tmp 9) (.tmp 10) rfl rfl rfl ?_; intro g cap w1 c1 f1 HM)
    exact bodyPost_end (results_none rfl _ _ _) rfl (done_post HM.out)
  | false =>
    go_enter Tryz.func50, Tryz.ntmps50
    go_wp2_with (at_builtin; refine wp_put w p v xs 0 HO.out hlen rfl (.tmp 18) (.tmp 19) rfl rfl rfl ?_; intro g cap w1 c1 f1 HM)
    exact bodyPost_end (results_none rfl _ _ _) rfl (done_post HM.out)

set_option maxHeartbeats 400000 in
theorem outText_long (p : Nat) (s : ByteArray) (w : World) (hs : 65535 < s.size) :
    Calls Tryz.prog 52 #[.pointer (some ⟨p, 0, none⟩), .string s] w fun e w' => e = .returned (.bool false) ∧ w = w' := by
  have hs' : (65535 : Int) < (s.size : Int) := by omega
  go_enter Tryz.func52, Tryz.ntmps52
  go_wp2
  go_ret
  exact ⟨rfl, rfl⟩

def TextPutPost (w : World) (p : Nat) (v : Value) (xs : List UInt8) (e : Ending) (w' : World) : Prop :=
  e = .returned (.bool true) ∧ ∃ v', OutV w' p v' xs ∧ (v'.ownBlock = v.ownBlock ∨ ∃ g, v'.ownBlock = some g ∧ w.heap.size ≤ g) ∧ Only (OutS p v) w w'

set_option maxHeartbeats 400000 in
theorem outText (p : Nat) (s : ByteArray) (v : Value) (xs : List UInt8) (w : World) (hO : OutV w p v xs) (hs : s.size ≤ 65535) (hlen : xs.length + 2 + s.size ≤ 140737488355328) :
    Calls Tryz.prog 52 #[.pointer (some ⟨p, 0, none⟩), .string s] w (TextPutPost w p v (xs ++ txtB s.data.toList)) := by
  have HO := Lib.hid hO; clear hO
  have hs' : ¬ (65535 : Int) < (s.size : Int) := by omega
  have HE : Hid (IntKind.u64.wrap (s.size : Int) = (s.size : Int)) := by show _ = _; rw [IntKind.wrap_u64]; omega
  go_enter Tryz.func52, Tryz.ntmps52
  go_wp2_with fail
  try rw [HE.out]
  refine (putNumber p s.size 2 v xs w HO.out (by omega) (by omega) (by omega)).mono ?_
  rintro e w1 ⟨rfl, v1, hV1, hb1, ho1⟩
  have hl2 : (xs ++ beB 2 s.size).length + s.size ≤ 140737488355328 := by simp [beB_length]; omega
  obtain ⟨ys, hys⟩ : ∃ ys, ys = xs ++ beB 2 s.size := ⟨_, rfl⟩
  rw [← hys] at hV1 hl2
  have hc0 := hV1.cell
  have hf := hV1.free
  have HV1 := Lib.hid hV1; clear hV1
  have HB1 := Lib.hid hb1; clear hb1
  have HO1 := Lib.hid ho1; clear ho1
  have HY := Lib.hid hys; clear hys
  go_wp2_with (at_builtin; refine wp_text w1 p v1 ys s HV1.out hl2 rfl (.tmp 17) (.tmp 18) rfl rfl rfl rfl ?_; intro ao cap w2 c2 f2 HM)
  go_ret
  refine ⟨rfl, .slice ao (ys.length + s.size) cap, ?_, row_trans HO1.out.size HB1.out HM.out.row, put_chain HO1.out HB1.out (HM.out.only.trans (Only.cell _ _ _ _) (fun k _ e => .inl e))⟩
  have := HM.out.done
  rw [show xs ++ txtB s.data.toList = ys ++ s.data.toList by rw [HY.out]; simp [txtB]]
  exact this

end Go.Proofs.YtookbmpaoljelaaGreat.R

namespace Go.Proofs.YtookbmpaoljelaaGreat.R
open Go Go.RowKit Go.Lib Go.Proofs.YtookbmpaoljelaaGreat
set_option linter.unusedVariables false
set_option linter.unusedSimpArgs false
set_option maxRecDepth 100000
set_option linter.unusedSimpArgs false
set_option maxRecDepth 100000

/-- An Out of one's own. -/
def OutR (p : Nat) (xs : List UInt8) : Res := fun w F => ∃ v, R.OutV w p v xs ∧ ∀ k, F k ↔ OutS p v k
instance {p : Nat} {xs : List UInt8} : Stab (R.OutR p xs) where
  lt := by
    rintro w F ⟨v, h, hF⟩ k hk
    rcases (hF k).1 hk with rfl | hk
    · exact lt_of_some h.at'
    · exact own_lt h.own hk
  keep := by
    rintro w w' F ⟨v, h, hF⟩ hk
    exact ⟨v, ⟨(hk p ((hF p).2 (.inl rfl))).trans h.at', own_keepAt h.own (fun k e => hk k ((hF k).2 (.inr e)))⟩, hF⟩
theorem own_outcall {w0 w : World} {p : Nat} {xs ys : List UInt8} {J : Res} [Stab J] {f : FuncId} {args : Array Value} {val : Value} (h : Own w0 w (Sep (R.OutR p xs) J))
    (hc : ∀ v, R.OutV w p v xs → Calls Tryz.prog f args w fun e w' => e = .returned val ∧ ∃ v', R.OutV w' p v' ys ∧ (v'.ownBlock = v.ownBlock ∨ ∃ g, v'.ownBlock = some g ∧ w.heap.size ≤ g) ∧ Only (OutS p v) w w') :
    Calls Tryz.prog f args w fun e w' => e = .returned val ∧ Own w0 w' (Sep (R.OutR p ys) J) := by
  refine (Own.call (val := fun _ : Unit => val) (Q := fun _ => R.OutR p ys) h ?_).mono ?_
  · rintro F B ⟨v, hV, hF⟩ hJ hd h0
    refine (hc v hV).mono ?_
    rintro e w' ⟨rfl, v', hV', hb, ho⟩
    refine ⟨(), OutS p v', rfl, ⟨v', hV', fun k => Iff.rfl⟩, fun k hk => ?_, ho.mono fun k _ e => (hF k).2 e⟩
    rcases hk with rfl | hk
    · exact .inl ((hF _).2 (.inl rfl))
    · rcases hb with e | ⟨g, e, hg⟩
      · exact .inl ((hF k).2 (.inr (by rw [← e]; exact hk)))
      · rw [hk] at e
        simp only [Option.some.injEq] at e
        subst e
        exact .inr hg
  · rintro e w' ⟨_, rfl, hq⟩
    exact ⟨rfl, hq⟩
section
variable {w0 w : World} {p : Nat} {xs : List UInt8} {J : Res} [Stab J]
theorem own_num (h : Own w0 w (Sep (R.OutR p xs) J)) (z : Int) (n : Nat) (hz : NumW z) (hn : n ≤ 8) (hl : xs.length + n ≤ 140737488355328) :
    Calls Tryz.prog 51 #[.pointer (some ⟨p, 0, none⟩), .int .u64 z, .int .i64 n] w fun e w' => e = .returned (.tuple #[]) ∧ Own w0 w' (Sep (R.OutR p (xs ++ beB n z.toNat)) J) := by
  have hz0 := hz.1
  have hz1 := hz.2
  obtain ⟨x, rfl⟩ : ∃ x : Nat, z = (x : Int) := ⟨z.toNat, by omega⟩
  rw [Int.toNat_natCast]
  exact R.own_outcall h fun v hV => R.putNumber p x n v xs w hV hn (by omega) hl
theorem own_flag (h : Own w0 w (Sep (R.OutR p xs) J)) (b : Bool) (hl : xs.length + 1 ≤ 140737488355328) :
    Calls Tryz.prog 50 #[.pointer (some ⟨p, 0, none⟩), .bool b] w fun e w' => e = .returned (.tuple #[]) ∧ Own w0 w' (Sep (R.OutR p (xs ++ flagB b)) J) :=
  R.own_outcall h fun v hV => R.outFlag p b v xs w hV hl
theorem own_text (h : Own w0 w (Sep (R.OutR p xs) J)) (s : ByteArray) (hs : s.size ≤ 65535) (hl : xs.length + 2 + s.size ≤ 140737488355328) :
    Calls Tryz.prog 52 #[.pointer (some ⟨p, 0, none⟩), .string s] w fun e w' => e = .returned (.bool true) ∧ Own w0 w' (Sep (R.OutR p (xs ++ txtB s.toList)) J) :=
  R.own_outcall h fun v hV => by rw [ByteArray.toList_eq]; exact R.outText p s v xs w hV hs hl
omit [Stab J] in
/-- What an Out holds, as a slice of one's own. -/
theorem own_get (h : Own w0 w (Sep (R.OutR p xs) J)) : ∃ v, w.cell? ⟨p, 0, none⟩ = some v ∧ Own w0 w (RowV 5 1 v xs.length (u8s xs)) := by
  obtain ⟨F, ⟨A, B, ⟨v, hV, hA⟩, hB, hd, hF⟩, h2, h3⟩ := h
  exact ⟨v, hV.cell, fun k => v.ownBlock = some k, ⟨hV.own, fun k => Iff.rfl⟩, fun k hk => h2 k ((hF k).2 (.inl ((hA k).2 (.inr hk)))), h3⟩
theorem own_outnew {I : Res} [Stab I] (h : Own w0 w I) : Own w0 (w.alloc (.cells #[.slice none 0 0] 85)) (Sep (R.OutR w.heap.size []) I) := by
  refine h.fresh ((Only.refl _ w).alloc _) (B := fun k => k = w.heap.size) ⟨.slice none 0 0, ⟨heap_alloc_new w _, World.ownsRow_nil _ _ _ _⟩, fun k => ?_⟩ (fun k e => by omega)
  simp [OutS, Value.ownBlock]
end

end Go.Proofs.YtookbmpaoljelaaGreat.R
