/-
  Package node's taker: how the parts of a node are taken. (Written by wip/tools/gennode10.py.)
-/
import Derived.Test.YtookbmpaoljelaaNode7
import Derived.Test.YtookbmpaoljelaaRowIn
namespace Go.Proofs.Ytookbmpaoljelaa
open Go Go.RowKit
set_option linter.unusedVariables false
set_option linter.unusedSimpArgs false
set_option maxRecDepth 100000

section
variable {w0 w : World} {p : Nat} {xs : List UInt8} {bad : Bool} {J : Res} [Stab J]
theorem own_inU16 (h : Own w0 w (Sep (InR p xs bad) J)) :
    Calls Try.prog 91 #[.pointer (some ⟨p, 0, none⟩)] w fun e w' => e = .returned (.int .u16 (numB (nextR 2 xs bad))) ∧ Own w0 w' (Sep (InR p (nextL 2 xs bad) (!can 2 xs bad)) J) := by
  refine (Own.call (val := fun _ : Unit => .int .u16 (numB (nextR 2 xs bad))) (Q := fun _ => InR p (nextL 2 xs bad) (!can 2 xs bad)) h ?_).mono ?_
  · rintro F B ⟨v, hI, hF⟩ hJ hd h0
    refine (inU16_blk p v xs bad w hI).mono ?_
    rintro e w' ⟨v', rfl, hI', ho, hs⟩
    refine ⟨(), fun k => k = p ∨ blkV v' = some k, rfl, ⟨v', hI', fun k => Iff.rfl⟩, fun k hk => .inl ((hF k).2 (hk.imp id (hs k))), ho.mono fun k _ e => (hF k).2 (.inl e)⟩
  · rintro e w' ⟨_, rfl, hq⟩
    exact ⟨rfl, hq⟩
theorem rd_u64 (h : Own w0 w (Sep (InR p xs bad) J)) : Calls Try.prog 64 #[.pointer (some ⟨p, 0, none⟩)] w fun e w' => ∃ (x : Nat) (ys : List UInt8) (b : Bool), e = .returned (.int .u64 (x : Int)) ∧ x < 18446744073709551616 ∧ Rd (pNum 8) xs bad x ys b ∧ Own w0 w' (Sep (InR p ys b) J) :=
  (own_inU64 h).mono fun e w' ⟨he, ho⟩ => ⟨_, _, _, he, by have := numN_lt 8 xs bad; simpa using this, Rd.num 8 xs bad, ho⟩
theorem rd_u16 (h : Own w0 w (Sep (InR p xs bad) J)) : Calls Try.prog 91 #[.pointer (some ⟨p, 0, none⟩)] w fun e w' => ∃ (x : Nat) (ys : List UInt8) (b : Bool), e = .returned (.int .u16 (x : Int)) ∧ x < 65536 ∧ Rd (pNum 2) xs bad x ys b ∧ Own w0 w' (Sep (InR p ys b) J) :=
  (own_inU16 h).mono fun e w' ⟨he, ho⟩ => ⟨_, _, _, he, numN_lt 2 xs bad, Rd.num 2 xs bad, ho⟩
theorem rd_u8 (h : Own w0 w (Sep (InR p xs bad) J)) : Calls Try.prog 90 #[.pointer (some ⟨p, 0, none⟩)] w fun e w' => ∃ (x : Nat) (ys : List UInt8) (b : Bool), e = .returned (.int .u8 (x : Int)) ∧ x < 256 ∧ Rd (pNum 1) xs bad x ys b ∧ Own w0 w' (Sep (InR p ys b) J) :=
  (own_inU8 h).mono fun e w' ⟨he, ho⟩ => ⟨_, _, _, he, numN_lt 1 xs bad, Rd.num 1 xs bad, ho⟩
theorem rd_flag (h : Own w0 w (Sep (InR p xs bad) J)) : Calls Try.prog 59 #[.pointer (some ⟨p, 0, none⟩)] w fun e w' => ∃ (x : Bool) (ys : List UInt8) (b : Bool), e = .returned (.bool x) ∧ Rd pFlag xs bad x ys b ∧ Own w0 w' (Sep (InR p ys b) J) :=
  (own_inFlag h).mono fun e w' ⟨he, ho⟩ => ⟨_, _, _, he, Rd.flag xs bad, ho⟩
theorem rd_text (h : Own w0 w (Sep (InR p xs bad) J)) : Calls Try.prog 66 #[.pointer (some ⟨p, 0, none⟩)] w fun e w' => ∃ (x : ByteArray) (ys : List UInt8) (b : Bool), e = .returned (.string x) ∧ Rd pText xs bad x ys b ∧ Own w0 w' (Sep (InR p ys b) J) :=
  (own_inText h).mono fun e w' ⟨he, ho⟩ => ⟨_, _, _, he, Rd.text xs bad, ho⟩
end
theorem blk6c {w : World} {k : Nat} {t : TypeId} {a0 a1 a2 a3 a4 a5 : Value} (h : w.heap[k]? = some (.cells #[a0, a1, a2, a3, a4, a5] t (0, 0))) :
    w.cell? ⟨k, 0, none⟩ = some a0 ∧ w.cell? ⟨k, 1, none⟩ = some a1 ∧ w.cell? ⟨k, 2, none⟩ = some a2 ∧ w.cell? ⟨k, 3, none⟩ = some a3 ∧ w.cell? ⟨k, 4, none⟩ = some a4 ∧ w.cell? ⟨k, 5, none⟩ = some a5 := by
  simp [World.cell?, h]
theorem blk7c {w : World} {k : Nat} {t : TypeId} {a0 a1 a2 a3 a4 a5 a6 : Value} (h : w.heap[k]? = some (.cells #[a0, a1, a2, a3, a4, a5, a6] t (0, 0))) :
    w.cell? ⟨k, 0, none⟩ = some a0 ∧ w.cell? ⟨k, 1, none⟩ = some a1 ∧ w.cell? ⟨k, 2, none⟩ = some a2 ∧ w.cell? ⟨k, 3, none⟩ = some a3 ∧ w.cell? ⟨k, 4, none⟩ = some a4 ∧ w.cell? ⟨k, 5, none⟩ = some a5 ∧ w.cell? ⟨k, 6, none⟩ = some a6 := by
  simp [World.cell?, h]
theorem own_set6 {w0 w : World} {k : Nat} {t : TypeId} {a0 a1 a2 a3 a4 a5 : Value} {J : Res} [Stab J] (h : Own w0 w (Sep (Blk k (.cells #[a0, a1, a2, a3, a4, a5] t (0, 0))) J)) (u0 u1 u2 u3 u4 u5 : Value) :
    Own w0 ((((((w.setCell ⟨k, 0, none⟩ u0).setCell ⟨k, 1, none⟩ u1).setCell ⟨k, 2, none⟩ u2).setCell ⟨k, 3, none⟩ u3).setCell ⟨k, 4, none⟩ u4).setCell ⟨k, 5, none⟩ u5) (Sep (Blk k (.cells #[u0, u1, u2, u3, u4, u5] t (0, 0))) J) := by
  have := (((((h.store 0 u0).store 1 u1).store 2 u2).store 3 u3).store 4 u4).store 5 u5
  simpa using this
theorem own_set7 {w0 w : World} {k : Nat} {t : TypeId} {a0 a1 a2 a3 a4 a5 a6 : Value} {J : Res} [Stab J] (h : Own w0 w (Sep (Blk k (.cells #[a0, a1, a2, a3, a4, a5, a6] t (0, 0))) J)) (u0 u1 u2 u3 u4 u5 u6 : Value) :
    Own w0 (((((((w.setCell ⟨k, 0, none⟩ u0).setCell ⟨k, 1, none⟩ u1).setCell ⟨k, 2, none⟩ u2).setCell ⟨k, 3, none⟩ u3).setCell ⟨k, 4, none⟩ u4).setCell ⟨k, 5, none⟩ u5).setCell ⟨k, 6, none⟩ u6) (Sep (Blk k (.cells #[u0, u1, u2, u3, u4, u5, u6] t (0, 0))) J) := by
  have := ((((((h.store 0 u0).store 1 u1).store 2 u2).store 3 u3).store 4 u4).store 5 u5).store 6 u6
  simpa using this
theorem tcount_any {w0 w : World} {p : Nat} {xs : List UInt8} {bad : Bool} {J : Res} [Stab J] (h : Own w0 w (Sep (InR p xs bad) J)) :
    Calls Try.prog 61 #[putv p] w fun e w' => ∃ (x : Nat) (ys : List UInt8) (b : Bool), e = .returned (.int .i64 (x : Int)) ∧ x < 65536 ∧ Rd (pNum 2) xs bad x ys b ∧ Own w0 w' (Sep (InR p ys b) J) := by
  have H := Lib.hid ((h.alloc (.cells #[.pointer (some ⟨p, 0, none⟩)] 62)).swap)
  have ha := blk_cell H.out.snd.held 0 rfl
  clear h
  go_enter Try.func61, Try.ntmps61
  go_wp2_with fail
  refine (rd_u16 H.out).mono ?_
  rintro e w1 ⟨x, ys, b, rfl, hx, hr, h1⟩
  have HR := Lib.hid hr
  have H1 := Lib.hid h1.drop2
  have hw : IntKind.i64.wrap (x : Int) = (x : Int) := IntWalk.i64_in _ (by omega)
  have HX := Lib.hid hx
  clear h1 hr H ha hx
  go_wp2_with fail
  go_ret
  exact ⟨x, ys, b, by first | rfl | (rw [hw]; rfl) | simp [hw], HX.out, HR.out, H1.out⟩

set_option maxHeartbeats 4000000 in
theorem tentry_any {w0 w : World} {p : Nat} {xs : List UInt8} {bad : Bool} {J : Res} [Stab J] (h : Own w0 w (Sep (InR p xs bad) J)) :
    Calls Try.prog 62 #[putv p] w fun r w' => ∃ (e : En) (ys : List UInt8) (b : Bool), r = .returned (env e) ∧ Rd pEntry xs bad e ys b ∧ Own w0 w' (Sep (InR p ys b) J) := by
  have H0 := Lib.hid (((h.alloc (.cells #[.pointer (some ⟨p, 0, none⟩)] 62)).alloc (.cells #[.string ⟨#[]⟩, .bool false, .string ⟨#[]⟩, .int .u64 0, .bool false, .string ⟨#[]⟩] 45)).drew.ac (by ac_rfl) : Own w0 ((w.alloc (.cells #[.pointer (some ⟨p, 0, none⟩)] 62)).alloc (.cells #[.string ⟨#[]⟩, .bool false, .string ⟨#[]⟩, .int .u64 0, .bool false, .string ⟨#[]⟩] 45)).drew (Sep (InR p xs bad) (Sep (Blk w.heap.size (.cells #[.pointer (some ⟨p, 0, none⟩)] 62 (0, 0))) (Sep (Blk (w.alloc (.cells #[.pointer (some ⟨p, 0, none⟩)] 62)).heap.size (.cells #[.string ⟨#[]⟩, .bool false, .string ⟨#[]⟩, .int .u64 0, .bool false, .string ⟨#[]⟩] 45 (0, 0))) J))))
  rw [World.size_alloc] at H0
  clear h
  go_enter Try.func62, Try.ntmps62
  go_upto_region 1 with fail
  generalize w.heap.size + 1 = rb at *
  generalize w.heap.size = tb at *
  refine wp_region_held_drew (S := (fun w' => w'.cell? ⟨tb, 0, none⟩ = some (.pointer (some ⟨p, 0, none⟩)))) (by kernel_rfl) ?_ (fun hHeld => ?_)
  · exact blk_cell H0.out.snd.held 0 rfl
  refine wpAnyH_take (i := 0) (oi := ?_) (v := ?_) ?_ (by kernel_rfl) (by kernel_rfl) (by kernel_rfl) ?_ (Or.inl ⟨?_, ?_⟩) (by assumption) ?_
  rotate_left 2
  · (simp only [List.getElem?_toArray, List.getElem?_cons_zero]; rfl)
  · exact fun _ _ _ h => h
  · rfl
  · (intro w hSw; (try dsimp only at hSw); go_simp <;> with_reducible rfl)
  (try simp only [Act.put, List.setIfInBounds_toArray, List.set_cons_zero, List.set_cons_succ])
  refine wpAnyH_take (i := 1) (oi := ?_) (v := ?_) ?_ (by kernel_rfl) (by kernel_rfl) (by kernel_rfl) ?_ (Or.inl ⟨?_, ?_⟩) (by assumption) ?_
  rotate_left 2
  · (simp only [List.getElem?_toArray, List.getElem?_cons_succ, List.getElem?_cons_zero]; rfl)
  · exact fun _ _ _ h => h
  · rfl
  · (intro w hSw; (try dsimp only at hSw); go_simp <;> with_reducible rfl)
  (try simp only [Act.put, List.setIfInBounds_toArray, List.set_cons_zero, List.set_cons_succ])
  refine wpAnyH_take (i := 3) (oi := ?_) (v := ?_) ?_ (by kernel_rfl) (by kernel_rfl) (by kernel_rfl) ?_ (Or.inl ⟨?_, ?_⟩) (by assumption) ?_
  rotate_left 2
  · (simp only [List.getElem?_toArray, List.getElem?_cons_succ, List.getElem?_cons_zero]; rfl)
  · exact fun _ _ _ h => h
  · rfl
  · (intro w hSw; (try dsimp only at hSw); go_simp <;> with_reducible rfl)
  (try simp only [Act.put, List.setIfInBounds_toArray, List.set_cons_zero, List.set_cons_succ])
  refine wpAnyH_take (i := 4) (oi := ?_) (v := ?_) ?_ (by kernel_rfl) (by kernel_rfl) (by kernel_rfl) ?_ (Or.inl ⟨?_, ?_⟩) (by assumption) ?_
  rotate_left 2
  · (simp only [List.getElem?_toArray, List.getElem?_cons_succ, List.getElem?_cons_zero]; rfl)
  · exact fun _ _ _ h => h
  · rfl
  · (intro w hSw; (try dsimp only at hSw); go_simp <;> with_reducible rfl)
  (try simp only [Act.put, List.setIfInBounds_toArray, List.set_cons_zero, List.set_cons_succ])
  refine wpAnyH_take (i := 6) (oi := ?_) (v := ?_) ?_ (by kernel_rfl) (by kernel_rfl) (by kernel_rfl) ?_ (Or.inl ⟨?_, ?_⟩) (by assumption) ?_
  rotate_left 2
  · (simp only [List.getElem?_toArray, List.getElem?_cons_succ, List.getElem?_cons_zero]; rfl)
  · exact fun _ _ _ h => h
  · rfl
  · (intro w hSw; (try dsimp only at hSw); go_simp <;> with_reducible rfl)
  (try simp only [Act.put, List.setIfInBounds_toArray, List.set_cons_zero, List.set_cons_succ])
  refine wpAnyH_take (i := 7) (oi := ?_) (v := ?_) ?_ (by kernel_rfl) (by kernel_rfl) (by kernel_rfl) ?_ (Or.inl ⟨?_, ?_⟩) (by assumption) ?_
  rotate_left 2
  · (simp only [List.getElem?_toArray, List.getElem?_cons_succ, List.getElem?_cons_zero]; rfl)
  · exact fun _ _ _ h => h
  · rfl
  · (intro w hSw; (try dsimp only at hSw); go_simp <;> with_reducible rfl)
  (try simp only [Act.put, List.setIfInBounds_toArray, List.set_cons_zero, List.set_cons_succ])
  refine wpAnyH_take (i := 9) (oi := ?_) (v := ?_) ?_ (by kernel_rfl) (by kernel_rfl) (by kernel_rfl) ?_ (Or.inl ⟨?_, ?_⟩) (by assumption) ?_
  rotate_left 2
  · (simp only [List.getElem?_toArray, List.getElem?_cons_succ, List.getElem?_cons_zero]; rfl)
  · exact fun _ _ _ h => h
  · rfl
  · (intro w hSw; (try dsimp only at hSw); go_simp <;> with_reducible rfl)
  (try simp only [Act.put, List.setIfInBounds_toArray, List.set_cons_zero, List.set_cons_succ])
  refine wpAnyH_take (i := 10) (oi := ?_) (v := ?_) ?_ (by kernel_rfl) (by kernel_rfl) (by kernel_rfl) ?_ (Or.inl ⟨?_, ?_⟩) (by assumption) ?_
  rotate_left 2
  · (simp only [List.getElem?_toArray, List.getElem?_cons_succ, List.getElem?_cons_zero]; rfl)
  · exact fun _ _ _ h => h
  · rfl
  · (intro w hSw; (try dsimp only at hSw); go_simp <;> with_reducible rfl)
  (try simp only [Act.put, List.setIfInBounds_toArray, List.set_cons_zero, List.set_cons_succ])
  refine wpAnyH_take (i := 12) (oi := ?_) (v := ?_) ?_ (by kernel_rfl) (by kernel_rfl) (by kernel_rfl) ?_ (Or.inl ⟨?_, ?_⟩) (by assumption) ?_
  rotate_left 2
  · (simp only [List.getElem?_toArray, List.getElem?_cons_succ, List.getElem?_cons_zero]; rfl)
  · exact fun _ _ _ h => h
  · rfl
  · (intro w hSw; (try dsimp only at hSw); go_simp <;> with_reducible rfl)
  (try simp only [Act.put, List.setIfInBounds_toArray, List.set_cons_zero, List.set_cons_succ])
  refine wpAnyH_take (i := 13) (oi := ?_) (v := ?_) ?_ (by kernel_rfl) (by kernel_rfl) (by kernel_rfl) ?_ (Or.inl ⟨?_, ?_⟩) (by assumption) ?_
  rotate_left 2
  · (simp only [List.getElem?_toArray, List.getElem?_cons_succ, List.getElem?_cons_zero]; rfl)
  · exact fun _ _ _ h => h
  · rfl
  · (intro w hSw; (try dsimp only at hSw); go_simp <;> with_reducible rfl)
  (try simp only [Act.put, List.setIfInBounds_toArray, List.set_cons_zero, List.set_cons_succ])
  refine wpAnyH_take (i := 15) (oi := ?_) (v := ?_) ?_ (by kernel_rfl) (by kernel_rfl) (by kernel_rfl) ?_ (Or.inl ⟨?_, ?_⟩) (by assumption) ?_
  rotate_left 2
  · (simp only [List.getElem?_toArray, List.getElem?_cons_succ, List.getElem?_cons_zero]; rfl)
  · exact fun _ _ _ h => h
  · rfl
  · (intro w hSw; (try dsimp only at hSw); go_simp <;> with_reducible rfl)
  (try simp only [Act.put, List.setIfInBounds_toArray, List.set_cons_zero, List.set_cons_succ])
  refine wpAnyH_take (i := 16) (oi := ?_) (v := ?_) ?_ (by kernel_rfl) (by kernel_rfl) (by kernel_rfl) ?_ (Or.inl ⟨?_, ?_⟩) (by assumption) ?_
  rotate_left 2
  · (simp only [List.getElem?_toArray, List.getElem?_cons_succ, List.getElem?_cons_zero]; rfl)
  · exact fun _ _ _ h => h
  · rfl
  · (intro w hSw; (try dsimp only at hSw); go_simp <;> with_reducible rfl)
  (try simp only [Act.put, List.setIfInBounds_toArray, List.set_cons_zero, List.set_cons_succ])
  refine wpAnyH_ready (rs := [2]) (by kernel_rfl) (by simp) (AllReadyH.cons (o := ?o2_1) ?h2_1 (fun K hK => ?s2_1) AllReadyH.nil)
  case h2_1 => (simp only [List.getElem?_toArray, List.getElem?_cons_succ, List.getElem?_cons_zero]; rfl)
  case' s2_1 =>
    (go_simp; refine (rd_text H0.out).mono ?_; rintro r w1 ⟨S1, y1, b1, rfl, hr, h1⟩; have HR1 := Lib.hid hr; have H1 := Lib.hid h1; clear hr h1 H0)
    refine hK.out _ _ ?_ (fun hHeld => ?_)
  · exact blk_cell H1.out.snd.held 0 rfl
  clear hK K
  (try simp only [Act.put, List.setIfInBounds_toArray, List.set_cons_zero, List.set_cons_succ])
  refine wpAnyH_ready (rs := [5]) (by kernel_rfl) (by simp) (AllReadyH.cons (o := ?o5_2) ?h5_2 (fun K hK => ?s5_2) AllReadyH.nil)
  case h5_2 => (simp only [List.getElem?_toArray, List.getElem?_cons_succ, List.getElem?_cons_zero]; rfl)
  case' s5_2 =>
    (go_simp; refine (rd_flag H1.out).mono ?_; rintro r w2 ⟨f2, y2, b2, rfl, hr, h1⟩; have HR2 := Lib.hid hr; have H2 := Lib.hid h1; clear hr h1 H1)
    refine hK.out _ _ ?_ (fun hHeld => ?_)
  · exact blk_cell H2.out.snd.held 0 rfl
  clear hK K
  (try simp only [Act.put, List.setIfInBounds_toArray, List.set_cons_zero, List.set_cons_succ])
  refine wpAnyH_ready (rs := [8]) (by kernel_rfl) (by simp) (AllReadyH.cons (o := ?o8_3) ?h8_3 (fun K hK => ?s8_3) AllReadyH.nil)
  case h8_3 => (simp only [List.getElem?_toArray, List.getElem?_cons_succ, List.getElem?_cons_zero]; rfl)
  case' s8_3 =>
    (go_simp; refine (rd_text H2.out).mono ?_; rintro r w3 ⟨S3, y3, b3, rfl, hr, h1⟩; have HR3 := Lib.hid hr; have H3 := Lib.hid h1; clear hr h1 H2)
    refine hK.out _ _ ?_ (fun hHeld => ?_)
  · exact blk_cell H3.out.snd.held 0 rfl
  clear hK K
  (try simp only [Act.put, List.setIfInBounds_toArray, List.set_cons_zero, List.set_cons_succ])
  refine wpAnyH_ready (rs := [11]) (by kernel_rfl) (by simp) (AllReadyH.cons (o := ?o11_4) ?h11_4 (fun K hK => ?s11_4) AllReadyH.nil)
  case h11_4 => (simp only [List.getElem?_toArray, List.getElem?_cons_succ, List.getElem?_cons_zero]; rfl)
  case' s11_4 =>
    (go_simp; refine (rd_u64 H3.out).mono ?_; rintro r w4 ⟨x4, y4, b4, rfl, hx4, hr, h1⟩; have HR4 := Lib.hid hr; have H4 := Lib.hid h1; clear hr h1 H3)
    refine hK.out _ _ ?_ (fun hHeld => ?_)
  · exact blk_cell H4.out.snd.held 0 rfl
  clear hK K
  (try simp only [Act.put, List.setIfInBounds_toArray, List.set_cons_zero, List.set_cons_succ])
  refine wpAnyH_ready (rs := [14]) (by kernel_rfl) (by simp) (AllReadyH.cons (o := ?o14_5) ?h14_5 (fun K hK => ?s14_5) AllReadyH.nil)
  case h14_5 => (simp only [List.getElem?_toArray, List.getElem?_cons_succ, List.getElem?_cons_zero]; rfl)
  case' s14_5 =>
    (go_simp; refine (rd_flag H4.out).mono ?_; rintro r w5 ⟨f5, y5, b5, rfl, hr, h1⟩; have HR5 := Lib.hid hr; have H5 := Lib.hid h1; clear hr h1 H4)
    refine hK.out _ _ ?_ (fun hHeld => ?_)
  · exact blk_cell H5.out.snd.held 0 rfl
  clear hK K
  (try simp only [Act.put, List.setIfInBounds_toArray, List.set_cons_zero, List.set_cons_succ])
  refine wpAnyH_ready (rs := [17]) (by kernel_rfl) (by simp) (AllReadyH.cons (o := ?o17_6) ?h17_6 (fun K hK => ?s17_6) AllReadyH.nil)
  case h17_6 => (simp only [List.getElem?_toArray, List.getElem?_cons_succ, List.getElem?_cons_zero]; rfl)
  case' s17_6 =>
    (go_simp; refine (rd_text H5.out).mono ?_; rintro r w6 ⟨S6, y6, b6, rfl, hr, h1⟩; have HR6 := Lib.hid hr; have H6 := Lib.hid h1; clear hr h1 H5)
    refine hK.out _ _ ?_ (fun hHeld => ?_)
  · exact blk_cell H6.out.snd.held 0 rfl
  clear hK K
  (try simp only [Act.put, List.setIfInBounds_toArray, List.set_cons_zero, List.set_cons_succ])
  refine wpAnyH_take (i := 18) (oi := ?_) (v := ?_) ?_ (by kernel_rfl) (by kernel_rfl) (by kernel_rfl) ?_ (Or.inl ⟨?_, ?_⟩) (by assumption) ?_
  rotate_left 2
  · (simp only [List.getElem?_toArray, List.getElem?_cons_succ, List.getElem?_cons_zero]; rfl)
  · exact fun _ _ _ h => h
  · rfl
  · (intro w hSw; (try dsimp only at hSw); go_simp <;> with_reducible rfl)
  (try simp only [Act.put, List.setIfInBounds_toArray, List.set_cons_zero, List.set_cons_succ])
  have HS := Lib.hid (own_set6 (H6.out.ac (by ac_rfl) : Own w0 w6 (Sep (Blk rb (.cells #[.string ⟨#[]⟩, .bool false, .string ⟨#[]⟩, .int .u64 0, .bool false, .string ⟨#[]⟩] 45 (0, 0))) (Sep (Blk tb (.cells #[.pointer (some ⟨p, 0, none⟩)] 62 (0, 0))) (Sep (InR p y6 b6) J)))) (.string S1) (.bool f2) (.string S3) (.int .u64 (x4 : Int)) (.bool f5) (.string S6))
  obtain ⟨e0, e1, e2, e3, e4, e5⟩ := blk6c H6.out.snd.snd.held
  have q0 := blk_free H6.out.snd.snd.held 0
  have q1 := blk_free H6.out.snd.snd.held 1
  have q2 := blk_free H6.out.snd.snd.held 2
  have q3 := blk_free H6.out.snd.snd.held 3
  have q4 := blk_free H6.out.snd.snd.held 4
  have q5 := blk_free H6.out.snd.snd.held 5
  refine wpAnyH_ready (rs := [19]) (by kernel_rfl) (by simp) (AllReadyH.cons (o := ?o19_7) ?h19_7 (fun K hK => ?s19_7) AllReadyH.nil)
  case h19_7 => (simp only [List.getElem?_toArray, List.getElem?_cons_succ, List.getElem?_cons_zero]; rfl)
  case' s19_7 =>
    go_simp
    refine hK.out _ _ ?_ (fun hHeld => ?_)
  · exact blk_cell HS.out.snd.held 0 rfl
  clear hK K
  (try simp only [Act.put, List.setIfInBounds_toArray, List.set_cons_zero, List.set_cons_succ])
  refine wpAnyH_done (by kernel_rfl) ?_ _
  clear e0 q0 e1 q1 e2 q2 e3 q3 e4 q4 e5 q5 H6
  generalize World.setCell (World.setCell (World.setCell (World.setCell (World.setCell (World.setCell w6 _ _) _ _) _ _) _ _) _ _) _ _ = w8 at *
  obtain ⟨e0, e1, e2, e3, e4, e5⟩ := blk6c HS.out.held
  go_wp2_with fail
  refine bodyPost_ret (v := env ⟨S1, f2, S3, (x4 : Int), f5, S6⟩) (by simp [results, Try.results62, go_sem, e0, e1, e2, e3, e4, e5]) rfl ?_
  refine ⟨⟨S1, f2, S3, (x4 : Int), f5, S6⟩, y6, b6, rfl, ?_, HS.out.snd.snd⟩
  exact HR1.out.bind (HR2.out.bind (HR3.out.bind (HR4.out.bind (HR5.out.bind (HR6.out.bind (Rd.ret _ _ _))))))

set_option maxHeartbeats 4000000 in
theorem tmsg_any {w0 w : World} {p : Nat} {xs : List UInt8} {bad : Bool} {J : Res} [Stab J] (h : Own w0 w (Sep (InR p xs bad) J)) :
    Calls Try.prog 95 #[putv p] w fun r w' => ∃ (e : Ms) (ys : List UInt8) (b : Bool), r = .returned (msv e) ∧ Rd pMsg xs bad e ys b ∧ Own w0 w' (Sep (InR p ys b) J) := by
  have H0 := Lib.hid (((h.alloc (.cells #[.pointer (some ⟨p, 0, none⟩)] 62)).alloc (.cells #[.int .u64 0, .int .i64 0, .string ⟨#[]⟩, .int .u64 0, .string ⟨#[]⟩, .int .i64 0, .int .u64 0] 57)).drew.ac (by ac_rfl) : Own w0 ((w.alloc (.cells #[.pointer (some ⟨p, 0, none⟩)] 62)).alloc (.cells #[.int .u64 0, .int .i64 0, .string ⟨#[]⟩, .int .u64 0, .string ⟨#[]⟩, .int .i64 0, .int .u64 0] 57)).drew (Sep (InR p xs bad) (Sep (Blk w.heap.size (.cells #[.pointer (some ⟨p, 0, none⟩)] 62 (0, 0))) (Sep (Blk (w.alloc (.cells #[.pointer (some ⟨p, 0, none⟩)] 62)).heap.size (.cells #[.int .u64 0, .int .i64 0, .string ⟨#[]⟩, .int .u64 0, .string ⟨#[]⟩, .int .i64 0, .int .u64 0] 57 (0, 0))) J))))
  rw [World.size_alloc] at H0
  clear h
  go_enter Try.func95, Try.ntmps95
  go_upto_region 1 with fail
  generalize w.heap.size + 1 = rb at *
  generalize w.heap.size = tb at *
  refine wp_region_held_drew (S := (fun w' => w'.cell? ⟨tb, 0, none⟩ = some (.pointer (some ⟨p, 0, none⟩)))) (by kernel_rfl) ?_ (fun hHeld => ?_)
  · exact blk_cell H0.out.snd.held 0 rfl
  refine wpAnyH_take (i := 0) (oi := ?_) (v := ?_) ?_ (by kernel_rfl) (by kernel_rfl) (by kernel_rfl) ?_ (Or.inl ⟨?_, ?_⟩) (by assumption) ?_
  rotate_left 2
  · (simp only [List.getElem?_toArray, List.getElem?_cons_zero]; rfl)
  · exact fun _ _ _ h => h
  · rfl
  · (intro w hSw; (try dsimp only at hSw); go_simp <;> with_reducible rfl)
  (try simp only [Act.put, List.setIfInBounds_toArray, List.set_cons_zero, List.set_cons_succ])
  refine wpAnyH_take (i := 1) (oi := ?_) (v := ?_) ?_ (by kernel_rfl) (by kernel_rfl) (by kernel_rfl) ?_ (Or.inl ⟨?_, ?_⟩) (by assumption) ?_
  rotate_left 2
  · (simp only [List.getElem?_toArray, List.getElem?_cons_succ, List.getElem?_cons_zero]; rfl)
  · exact fun _ _ _ h => h
  · rfl
  · (intro w hSw; (try dsimp only at hSw); go_simp <;> with_reducible rfl)
  (try simp only [Act.put, List.setIfInBounds_toArray, List.set_cons_zero, List.set_cons_succ])
  refine wpAnyH_take (i := 3) (oi := ?_) (v := ?_) ?_ (by kernel_rfl) (by kernel_rfl) (by kernel_rfl) ?_ (Or.inl ⟨?_, ?_⟩) (by assumption) ?_
  rotate_left 2
  · (simp only [List.getElem?_toArray, List.getElem?_cons_succ, List.getElem?_cons_zero]; rfl)
  · exact fun _ _ _ h => h
  · rfl
  · (intro w hSw; (try dsimp only at hSw); go_simp <;> with_reducible rfl)
  (try simp only [Act.put, List.setIfInBounds_toArray, List.set_cons_zero, List.set_cons_succ])
  refine wpAnyH_take (i := 4) (oi := ?_) (v := ?_) ?_ (by kernel_rfl) (by kernel_rfl) (by kernel_rfl) ?_ (Or.inl ⟨?_, ?_⟩) (by assumption) ?_
  rotate_left 2
  · (simp only [List.getElem?_toArray, List.getElem?_cons_succ, List.getElem?_cons_zero]; rfl)
  · exact fun _ _ _ h => h
  · rfl
  · (intro w hSw; (try dsimp only at hSw); go_simp <;> with_reducible rfl)
  (try simp only [Act.put, List.setIfInBounds_toArray, List.set_cons_zero, List.set_cons_succ])
  refine wpAnyH_take (i := 7) (oi := ?_) (v := ?_) ?_ (by kernel_rfl) (by kernel_rfl) (by kernel_rfl) ?_ (Or.inl ⟨?_, ?_⟩) (by assumption) ?_
  rotate_left 2
  · (simp only [List.getElem?_toArray, List.getElem?_cons_succ, List.getElem?_cons_zero]; rfl)
  · exact fun _ _ _ h => h
  · rfl
  · (intro w hSw; (try dsimp only at hSw); go_simp <;> with_reducible rfl)
  (try simp only [Act.put, List.setIfInBounds_toArray, List.set_cons_zero, List.set_cons_succ])
  refine wpAnyH_take (i := 8) (oi := ?_) (v := ?_) ?_ (by kernel_rfl) (by kernel_rfl) (by kernel_rfl) ?_ (Or.inl ⟨?_, ?_⟩) (by assumption) ?_
  rotate_left 2
  · (simp only [List.getElem?_toArray, List.getElem?_cons_succ, List.getElem?_cons_zero]; rfl)
  · exact fun _ _ _ h => h
  · rfl
  · (intro w hSw; (try dsimp only at hSw); go_simp <;> with_reducible rfl)
  (try simp only [Act.put, List.setIfInBounds_toArray, List.set_cons_zero, List.set_cons_succ])
  refine wpAnyH_take (i := 10) (oi := ?_) (v := ?_) ?_ (by kernel_rfl) (by kernel_rfl) (by kernel_rfl) ?_ (Or.inl ⟨?_, ?_⟩) (by assumption) ?_
  rotate_left 2
  · (simp only [List.getElem?_toArray, List.getElem?_cons_succ, List.getElem?_cons_zero]; rfl)
  · exact fun _ _ _ h => h
  · rfl
  · (intro w hSw; (try dsimp only at hSw); go_simp <;> with_reducible rfl)
  (try simp only [Act.put, List.setIfInBounds_toArray, List.set_cons_zero, List.set_cons_succ])
  refine wpAnyH_take (i := 11) (oi := ?_) (v := ?_) ?_ (by kernel_rfl) (by kernel_rfl) (by kernel_rfl) ?_ (Or.inl ⟨?_, ?_⟩) (by assumption) ?_
  rotate_left 2
  · (simp only [List.getElem?_toArray, List.getElem?_cons_succ, List.getElem?_cons_zero]; rfl)
  · exact fun _ _ _ h => h
  · rfl
  · (intro w hSw; (try dsimp only at hSw); go_simp <;> with_reducible rfl)
  (try simp only [Act.put, List.setIfInBounds_toArray, List.set_cons_zero, List.set_cons_succ])
  refine wpAnyH_take (i := 13) (oi := ?_) (v := ?_) ?_ (by kernel_rfl) (by kernel_rfl) (by kernel_rfl) ?_ (Or.inl ⟨?_, ?_⟩) (by assumption) ?_
  rotate_left 2
  · (simp only [List.getElem?_toArray, List.getElem?_cons_succ, List.getElem?_cons_zero]; rfl)
  · exact fun _ _ _ h => h
  · rfl
  · (intro w hSw; (try dsimp only at hSw); go_simp <;> with_reducible rfl)
  (try simp only [Act.put, List.setIfInBounds_toArray, List.set_cons_zero, List.set_cons_succ])
  refine wpAnyH_take (i := 14) (oi := ?_) (v := ?_) ?_ (by kernel_rfl) (by kernel_rfl) (by kernel_rfl) ?_ (Or.inl ⟨?_, ?_⟩) (by assumption) ?_
  rotate_left 2
  · (simp only [List.getElem?_toArray, List.getElem?_cons_succ, List.getElem?_cons_zero]; rfl)
  · exact fun _ _ _ h => h
  · rfl
  · (intro w hSw; (try dsimp only at hSw); go_simp <;> with_reducible rfl)
  (try simp only [Act.put, List.setIfInBounds_toArray, List.set_cons_zero, List.set_cons_succ])
  refine wpAnyH_take (i := 16) (oi := ?_) (v := ?_) ?_ (by kernel_rfl) (by kernel_rfl) (by kernel_rfl) ?_ (Or.inl ⟨?_, ?_⟩) (by assumption) ?_
  rotate_left 2
  · (simp only [List.getElem?_toArray, List.getElem?_cons_succ, List.getElem?_cons_zero]; rfl)
  · exact fun _ _ _ h => h
  · rfl
  · (intro w hSw; (try dsimp only at hSw); go_simp <;> with_reducible rfl)
  (try simp only [Act.put, List.setIfInBounds_toArray, List.set_cons_zero, List.set_cons_succ])
  refine wpAnyH_take (i := 17) (oi := ?_) (v := ?_) ?_ (by kernel_rfl) (by kernel_rfl) (by kernel_rfl) ?_ (Or.inl ⟨?_, ?_⟩) (by assumption) ?_
  rotate_left 2
  · (simp only [List.getElem?_toArray, List.getElem?_cons_succ, List.getElem?_cons_zero]; rfl)
  · exact fun _ _ _ h => h
  · rfl
  · (intro w hSw; (try dsimp only at hSw); go_simp <;> with_reducible rfl)
  (try simp only [Act.put, List.setIfInBounds_toArray, List.set_cons_zero, List.set_cons_succ])
  refine wpAnyH_take (i := 20) (oi := ?_) (v := ?_) ?_ (by kernel_rfl) (by kernel_rfl) (by kernel_rfl) ?_ (Or.inl ⟨?_, ?_⟩) (by assumption) ?_
  rotate_left 2
  · (simp only [List.getElem?_toArray, List.getElem?_cons_succ, List.getElem?_cons_zero]; rfl)
  · exact fun _ _ _ h => h
  · rfl
  · (intro w hSw; (try dsimp only at hSw); go_simp <;> with_reducible rfl)
  (try simp only [Act.put, List.setIfInBounds_toArray, List.set_cons_zero, List.set_cons_succ])
  refine wpAnyH_take (i := 21) (oi := ?_) (v := ?_) ?_ (by kernel_rfl) (by kernel_rfl) (by kernel_rfl) ?_ (Or.inl ⟨?_, ?_⟩) (by assumption) ?_
  rotate_left 2
  · (simp only [List.getElem?_toArray, List.getElem?_cons_succ, List.getElem?_cons_zero]; rfl)
  · exact fun _ _ _ h => h
  · rfl
  · (intro w hSw; (try dsimp only at hSw); go_simp <;> with_reducible rfl)
  (try simp only [Act.put, List.setIfInBounds_toArray, List.set_cons_zero, List.set_cons_succ])
  refine wpAnyH_ready (rs := [2]) (by kernel_rfl) (by simp) (AllReadyH.cons (o := ?o2_8) ?h2_8 (fun K hK => ?s2_8) AllReadyH.nil)
  case h2_8 => (simp only [List.getElem?_toArray, List.getElem?_cons_succ, List.getElem?_cons_zero]; rfl)
  case' s2_8 =>
    (go_simp; refine (rd_u64 H0.out).mono ?_; rintro r w1 ⟨x1, y1, b1, rfl, hx1, hr, h1⟩; have HR1 := Lib.hid hr; have H1 := Lib.hid h1; clear hr h1 H0)
    refine hK.out _ _ ?_ (fun hHeld => ?_)
  · exact blk_cell H1.out.snd.held 0 rfl
  clear hK K
  (try simp only [Act.put, List.setIfInBounds_toArray, List.set_cons_zero, List.set_cons_succ])
  refine wpAnyH_ready (rs := [5]) (by kernel_rfl) (by simp) (AllReadyH.cons (o := ?o5_9) ?h5_9 (fun K hK => ?s5_9) AllReadyH.nil)
  case h5_9 => (simp only [List.getElem?_toArray, List.getElem?_cons_succ, List.getElem?_cons_zero]; rfl)
  case' s5_9 =>
    (go_simp; refine (rd_u8 H1.out).mono ?_; rintro r w2 ⟨x2, y2, b2, rfl, hx2, hr, h1⟩; have HR2 := Lib.hid hr; have H2 := Lib.hid h1; clear hr h1 H1; have hw2 : IntKind.i64.wrap (x2 : Int) = (x2 : Int) := IntWalk.i64_in _ (by omega))
    refine hK.out _ _ ?_ (fun hHeld => ?_)
  · exact blk_cell H2.out.snd.held 0 rfl
  clear hK K
  (try simp only [Act.put, List.setIfInBounds_toArray, List.set_cons_zero, List.set_cons_succ])
  refine wpAnyH_take (i := 6) (oi := ?_) (v := ?_) ?_ (by kernel_rfl) (by kernel_rfl) (by kernel_rfl) ?_ (Or.inl ⟨?_, ?_⟩) (by assumption) ?_
  rotate_left 2
  · (simp only [List.getElem?_toArray, List.getElem?_cons_succ, List.getElem?_cons_zero]; rfl)
  · exact fun _ _ _ h => h
  · rfl
  · (intro w hSw; (try dsimp only at hSw); go_simp <;> with_reducible rfl)
  (try simp only [Act.put, List.setIfInBounds_toArray, List.set_cons_zero, List.set_cons_succ])
  refine wpAnyH_ready (rs := [9]) (by kernel_rfl) (by simp) (AllReadyH.cons (o := ?o9_10) ?h9_10 (fun K hK => ?s9_10) AllReadyH.nil)
  case h9_10 => (simp only [List.getElem?_toArray, List.getElem?_cons_succ, List.getElem?_cons_zero]; rfl)
  case' s9_10 =>
    (go_simp; refine (rd_text H2.out).mono ?_; rintro r w3 ⟨S3, y3, b3, rfl, hr, h1⟩; have HR3 := Lib.hid hr; have H3 := Lib.hid h1; clear hr h1 H2)
    refine hK.out _ _ ?_ (fun hHeld => ?_)
  · exact blk_cell H3.out.snd.held 0 rfl
  clear hK K
  (try simp only [Act.put, List.setIfInBounds_toArray, List.set_cons_zero, List.set_cons_succ])
  refine wpAnyH_ready (rs := [12]) (by kernel_rfl) (by simp) (AllReadyH.cons (o := ?o12_11) ?h12_11 (fun K hK => ?s12_11) AllReadyH.nil)
  case h12_11 => (simp only [List.getElem?_toArray, List.getElem?_cons_succ, List.getElem?_cons_zero]; rfl)
  case' s12_11 =>
    (go_simp; refine (rd_u64 H3.out).mono ?_; rintro r w4 ⟨x4, y4, b4, rfl, hx4, hr, h1⟩; have HR4 := Lib.hid hr; have H4 := Lib.hid h1; clear hr h1 H3)
    refine hK.out _ _ ?_ (fun hHeld => ?_)
  · exact blk_cell H4.out.snd.held 0 rfl
  clear hK K
  (try simp only [Act.put, List.setIfInBounds_toArray, List.set_cons_zero, List.set_cons_succ])
  refine wpAnyH_ready (rs := [15]) (by kernel_rfl) (by simp) (AllReadyH.cons (o := ?o15_12) ?h15_12 (fun K hK => ?s15_12) AllReadyH.nil)
  case h15_12 => (simp only [List.getElem?_toArray, List.getElem?_cons_succ, List.getElem?_cons_zero]; rfl)
  case' s15_12 =>
    (go_simp; refine (rd_text H4.out).mono ?_; rintro r w5 ⟨S5, y5, b5, rfl, hr, h1⟩; have HR5 := Lib.hid hr; have H5 := Lib.hid h1; clear hr h1 H4)
    refine hK.out _ _ ?_ (fun hHeld => ?_)
  · exact blk_cell H5.out.snd.held 0 rfl
  clear hK K
  (try simp only [Act.put, List.setIfInBounds_toArray, List.set_cons_zero, List.set_cons_succ])
  refine wpAnyH_ready (rs := [18]) (by kernel_rfl) (by simp) (AllReadyH.cons (o := ?o18_13) ?h18_13 (fun K hK => ?s18_13) AllReadyH.nil)
  case h18_13 => (simp only [List.getElem?_toArray, List.getElem?_cons_succ, List.getElem?_cons_zero]; rfl)
  case' s18_13 =>
    (go_simp; refine (rd_u16 H5.out).mono ?_; rintro r w6 ⟨x6, y6, b6, rfl, hx6, hr, h1⟩; have HR6 := Lib.hid hr; have H6 := Lib.hid h1; clear hr h1 H5; have hw6 : IntKind.i64.wrap (x6 : Int) = (x6 : Int) := IntWalk.i64_in _ (by omega))
    refine hK.out _ _ ?_ (fun hHeld => ?_)
  · exact blk_cell H6.out.snd.held 0 rfl
  clear hK K
  (try simp only [Act.put, List.setIfInBounds_toArray, List.set_cons_zero, List.set_cons_succ])
  refine wpAnyH_take (i := 19) (oi := ?_) (v := ?_) ?_ (by kernel_rfl) (by kernel_rfl) (by kernel_rfl) ?_ (Or.inl ⟨?_, ?_⟩) (by assumption) ?_
  rotate_left 2
  · (simp only [List.getElem?_toArray, List.getElem?_cons_succ, List.getElem?_cons_zero]; rfl)
  · exact fun _ _ _ h => h
  · rfl
  · (intro w hSw; (try dsimp only at hSw); go_simp <;> with_reducible rfl)
  (try simp only [Act.put, List.setIfInBounds_toArray, List.set_cons_zero, List.set_cons_succ])
  refine wpAnyH_ready (rs := [22]) (by kernel_rfl) (by simp) (AllReadyH.cons (o := ?o22_14) ?h22_14 (fun K hK => ?s22_14) AllReadyH.nil)
  case h22_14 => (simp only [List.getElem?_toArray, List.getElem?_cons_succ, List.getElem?_cons_zero]; rfl)
  case' s22_14 =>
    (go_simp; refine (rd_u64 H6.out).mono ?_; rintro r w7 ⟨x7, y7, b7, rfl, hx7, hr, h1⟩; have HR7 := Lib.hid hr; have H7 := Lib.hid h1; clear hr h1 H6)
    refine hK.out _ _ ?_ (fun hHeld => ?_)
  · exact blk_cell H7.out.snd.held 0 rfl
  clear hK K
  (try simp only [Act.put, List.setIfInBounds_toArray, List.set_cons_zero, List.set_cons_succ])
  refine wpAnyH_take (i := 23) (oi := ?_) (v := ?_) ?_ (by kernel_rfl) (by kernel_rfl) (by kernel_rfl) ?_ (Or.inl ⟨?_, ?_⟩) (by assumption) ?_
  rotate_left 2
  · (simp only [List.getElem?_toArray, List.getElem?_cons_succ, List.getElem?_cons_zero]; rfl)
  · exact fun _ _ _ h => h
  · rfl
  · (intro w hSw; (try dsimp only at hSw); go_simp <;> with_reducible rfl)
  (try simp only [Act.put, List.setIfInBounds_toArray, List.set_cons_zero, List.set_cons_succ])
  have HS := Lib.hid (own_set7 (H7.out.ac (by ac_rfl) : Own w0 w7 (Sep (Blk rb (.cells #[.int .u64 0, .int .i64 0, .string ⟨#[]⟩, .int .u64 0, .string ⟨#[]⟩, .int .i64 0, .int .u64 0] 57 (0, 0))) (Sep (Blk tb (.cells #[.pointer (some ⟨p, 0, none⟩)] 62 (0, 0))) (Sep (InR p y7 b7) J)))) (.int .u64 (x1 : Int)) (.int .i64 (x2 : Int)) (.string S3) (.int .u64 (x4 : Int)) (.string S5) (.int .i64 (x6 : Int)) (.int .u64 (x7 : Int)))
  obtain ⟨e0, e1, e2, e3, e4, e5, e6⟩ := blk7c H7.out.snd.snd.held
  have q0 := blk_free H7.out.snd.snd.held 0
  have q1 := blk_free H7.out.snd.snd.held 1
  have q2 := blk_free H7.out.snd.snd.held 2
  have q3 := blk_free H7.out.snd.snd.held 3
  have q4 := blk_free H7.out.snd.snd.held 4
  have q5 := blk_free H7.out.snd.snd.held 5
  have q6 := blk_free H7.out.snd.snd.held 6
  refine wpAnyH_ready (rs := [24]) (by kernel_rfl) (by simp) (AllReadyH.cons (o := ?o24_15) ?h24_15 (fun K hK => ?s24_15) AllReadyH.nil)
  case h24_15 => (simp only [List.getElem?_toArray, List.getElem?_cons_succ, List.getElem?_cons_zero]; rfl)
  case' s24_15 =>
    go_simp
    refine hK.out _ _ ?_ (fun hHeld => ?_)
  · exact blk_cell HS.out.snd.held 0 rfl
  clear hK K
  (try simp only [Act.put, List.setIfInBounds_toArray, List.set_cons_zero, List.set_cons_succ])
  refine wpAnyH_done (by kernel_rfl) ?_ _
  clear e0 q0 e1 q1 e2 q2 e3 q3 e4 q4 e5 q5 e6 q6 H7
  generalize World.setCell (World.setCell (World.setCell (World.setCell (World.setCell (World.setCell (World.setCell w7 _ _) _ _) _ _) _ _) _ _) _ _) _ _ = w8 at *
  obtain ⟨e0, e1, e2, e3, e4, e5, e6⟩ := blk7c HS.out.held
  go_wp2_with fail
  refine bodyPost_ret (v := msv ⟨(x1 : Int), (x2 : Int), S3, (x4 : Int), S5, (x6 : Int), (x7 : Int)⟩) (by simp [results, Try.results95, go_sem, e0, e1, e2, e3, e4, e5, e6]) rfl ?_
  refine ⟨⟨(x1 : Int), (x2 : Int), S3, (x4 : Int), S5, (x6 : Int), (x7 : Int)⟩, y7, b7, rfl, ?_, HS.out.snd.snd⟩
  exact HR1.out.bind (HR2.out.bind (HR3.out.bind (HR4.out.bind (HR5.out.bind (HR6.out.bind (HR7.out.bind (Rd.ret _ _ _)))))))

end Go.Proofs.Ytookbmpaoljelaa
