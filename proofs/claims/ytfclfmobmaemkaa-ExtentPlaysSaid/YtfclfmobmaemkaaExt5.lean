/-
  Package extent: Alloc.
-/
import Derived.Test.YtfclfmobmaemkaaExt4
import Derived.Test.YtfclfmobmaemkaaSepAc
import Derived.Test.YtfclfmobmaemkaaRoundRegion
namespace Go.Proofs.Ytfclfmobmaemkaa
open Go Go.RowKit
set_option linter.unusedVariables false
set_option linter.unusedSimpArgs false
set_option maxRecDepth 100000
attribute [local go_sem] Oper.semAt_some

/-- What Alloc answers, and what it leaves of the flags. -/
def allocE (l : List Bool) (n : Int) : Nat := if n < 1 then 1 else if (low n.toNat l).isSome then 0 else 3
def allocV (a : Nat) (l : List Bool) (n : Int) : Nat := if n < 1 then 0 else match low n.toNat l with | some d => a + d | none => 0
def allocL (l : List Bool) (n : Int) : List Bool := if n < 1 then l else match low n.toNat l with | some d => setL l d n.toNat true | none => l
theorem alloc_full {l : List Bool} {n : Int} (hn : 1 ≤ n) (h : low n.toNat l = none) (a : Nat) : allocE l n = 3 ∧ allocV a l n = 0 ∧ allocL l n = l := by
  have : ¬ n < 1 := by omega
  simp [allocE, allocV, allocL, this, h]
theorem alloc_some {l : List Bool} {n : Int} (hn : 1 ≤ n) {d : Nat} (h : low n.toNat l = some d) (a : Nat) : allocE l n = 0 ∧ allocV a l n = a + d ∧ allocL l n = setL l d n.toNat true := by
  have : ¬ n < 1 := by omega
  simp [allocE, allocV, allocL, this, h]
/-- What Take makes of the place that Alloc chose. -/
theorem low_taken {l : List Bool} {m d : Nat} (hm : 1 ≤ m) (h : low m l = some d) (a : Nat) : turnE a l ((a : Int) + d) m true = 0 ∧ turnL a l ((a : Int) + d) m true = setL l d m true := by
  have h1 := low_fits h
  have h2 := low_bound h
  have e0 : ((a : Int) + d - a).toNat = d := by omega
  have e1 : hasB a l.length ((a : Int) + d) m = true := by simp [hasB]; omega
  have e2 : ¬ true ∈ (l.drop d).take m := by
    intro hm'
    obtain ⟨j, hj, e⟩ := List.mem_iff_getElem.1 hm'
    simp at hj
    have := runLen_lt (x := false) (l := l.drop d) (j := j) (by omega)
    simp at e this
    rw [List.getElem?_eq_getElem (by omega), e] at this
    simp at this
  have e3 : turnE a l ((a : Int) + d) m true = 0 := by simp [turnE, e1, e0, e2]
  refine ⟨e3, ?_⟩
  rw [turnL, if_pos e3, e0]
  simp

set_option maxHeartbeats 400000 in
theorem ext_alloc_nil (w : World) (n : Int) :
    Calls Try.prog 10 #[.pointer none, .int .i64 n] w fun e w' => e = .returned (.tuple #[.int .i64 0, .int .i64 11]) ∧ Only (fun _ => False) w w' := by
  go_enter Try.func10, Try.ntmps10
  go_wp2
  refine bodyPost_ret (v := .tuple #[.int .i64 0, .int .i64 11]) (by simp [results, Try.f10, go_sem]) rfl ⟨rfl, ?_⟩
  exact ((((Only.refl _ _).alloc _).alloc _).alloc _).alloc _
set_option maxHeartbeats 400000 in
theorem ext_alloc_bad (w : World) (p : Nat) (n : Int) (hn : n < 1) :
    Calls Try.prog 10 #[.pointer (some ⟨p, 0, none⟩), .int .i64 n] w fun e w' => e = .returned (.tuple #[.int .i64 0, .int .i64 1]) ∧ Only (fun _ => False) w w' := by
  go_enter Try.func10, Try.ntmps10
  go_wp2
  refine bodyPost_ret (v := .tuple #[.int .i64 0, .int .i64 1]) (by simp [results, Try.f10, go_sem]) rfl ⟨rfl, ?_⟩
  exact ((((Only.refl _ _).alloc _).alloc _).alloc _).alloc _

/-- The variables of the call: the space, how many, the two results. -/
def allocB (p : Nat) (n : Int) (b : Nat) (v e : Int) : Res :=
  Sep (Blk b (.cells #[.pointer (some ⟨p, 0, none⟩)] 24 (0, 0))) (Sep (Blk (b + 1) (.cells #[.int .i64 n] 3 (0, 0))) (Sep (Blk (b + 1 + 1) (.cells #[.int .i64 v] 3 (0, 0))) (Blk (b + 1 + 1 + 1) (.cells #[.int .i64 e] 25 (0, 0)))))
instance {p : Nat} {n : Int} {b : Nat} {v e : Int} : Stab (allocB p n b v e) := inferInstanceAs (Stab (Sep _ _))
structure AllocCells (w : World) (p : Nat) (n : Int) (b : Nat) (v e : Int) : Prop where
  c0 : w.heap[b]? = some (.cells #[.pointer (some ⟨p, 0, none⟩)] 24 (0, 0))
  c1 : w.heap[b + 1]? = some (.cells #[.int .i64 n] 3 (0, 0))
  c2 : w.heap[b + 1 + 1]? = some (.cells #[.int .i64 v] 3 (0, 0))
  c3 : w.heap[b + 1 + 1 + 1]? = some (.cells #[.int .i64 e] 25 (0, 0))
theorem allocB.cells {p : Nat} {n : Int} {b : Nat} {v e : Int} {w0 w : World} (h : Own w0 w (allocB p n b v e)) : AllocCells w p n b v e := by
  obtain ⟨F, ⟨A, B, hA, ⟨A1, B1, hA1, ⟨A2, B2, hA2, hB2, _⟩, _⟩, _⟩, _⟩ := h
  exact ⟨hA.1, hA1.1, hA2.1, hB2.1⟩
theorem allocB.turn {p : Nat} {n : Int} {b : Nat} {v e : Int} {w0 w : World} {J : Res} [Stab J] (h : Own w0 w (Sep (allocB p n b v e) J)) (v' e' : Int) : Own w0 ((w.setCell ⟨b + 1 + 1, 0, none⟩ (.int .i64 v')).setCell ⟨b + 1 + 1 + 1, 0, none⟩ (.int .i64 e')) (Sep (allocB p n b v' e') J) := by
  unfold allocB at h ⊢
  have h1 : Own w0 w (Sep (Blk (b + 1 + 1) (.cells #[.int .i64 v] 3 (0, 0))) (Sep (Blk (b + 1 + 1 + 1) (.cells #[.int .i64 e] 25 (0, 0))) (Sep J (Sep (Blk b (.cells #[.pointer (some ⟨p, 0, none⟩)] 24 (0, 0))) (Blk (b + 1) (.cells #[.int .i64 n] 3 (0, 0))))))) := h.ac (by ac_rfl)
  have h2 := ((h1.store 0 (.int .i64 v')).swap.store 0 (.int .i64 e'))
  exact h2.ac (by simp only [List.setIfInBounds_toArray, List.set_cons_zero]; ac_rfl)

def AllocS (c b p : Nat) (s m : Int) (w : World) : Prop := w.cell? ⟨c, 0, none⟩ = some (.int .i64 s) ∧ w.cell? ⟨b, 0, none⟩ = some (.pointer (some ⟨p, 0, none⟩)) ∧ w.cell? ⟨b + 1, 0, none⟩ = some (.int .i64 m)
/-- Behind Take: the two results are stored. -/
theorem alloc_after {w0 w1 : World} {S X : Res} [Stab S] [Stab X] {c b p : Nat} {s n m : Int} {v e : Int} (hT : Own w0 w1 (Sep S (Sep (Blk c (.cells #[.int .i64 s, .int .i64 n] 43 (0, 0))) (Sep (allocB p m b v e) X)))) (E : Int) :
    AllocS c b p s m w1 ∧ AllocS c b p s m (w1.setCell ⟨b + 1 + 1, 0, none⟩ (.int .i64 s)) ∧ AllocS c b p s m ((w1.setCell ⟨b + 1 + 1, 0, none⟩ (.int .i64 s)).setCell ⟨b + 1 + 1 + 1, 0, none⟩ (.int .i64 E)) ∧
      Own w0 ((w1.setCell ⟨b + 1 + 1, 0, none⟩ (.int .i64 s)).setCell ⟨b + 1 + 1 + 1, 0, none⟩ (.int .i64 E)) (Sep (allocB p m b s E) (Sep S X)) := by
  have hU : Own w0 w1 (Sep (Blk (b + 1 + 1) (.cells #[.int .i64 v] 3 (0, 0))) (Sep (Blk (b + 1 + 1 + 1) (.cells #[.int .i64 e] 25 (0, 0))) (Sep (Blk c (.cells #[.int .i64 s, .int .i64 n] 43 (0, 0))) (Sep (Blk b (.cells #[.pointer (some ⟨p, 0, none⟩)] 24 (0, 0))) (Sep (Blk (b + 1) (.cells #[.int .i64 m] 3 (0, 0))) (Sep S X)))))) := hT.ac (by unfold allocB; ac_rfl)
  have hV := hU.store 0 (.int .i64 s)
  have hW := hV.swap.store 0 (.int .i64 E)
  have f : ∀ {w' : World} {A B : Res}, Own w0 w' (Sep A (Sep B (Sep (Blk c (.cells #[.int .i64 s, .int .i64 n] 43 (0, 0))) (Sep (Blk b (.cells #[.pointer (some ⟨p, 0, none⟩)] 24 (0, 0))) (Sep (Blk (b + 1) (.cells #[.int .i64 m] 3 (0, 0))) (Sep S X)))))) → AllocS c b p s m w' := fun h => by
    have h0 := h.snd.snd.held
    have h1 := h.snd.snd.snd.held
    have h2 := h.snd.snd.snd.snd.held
    exact ⟨blk_cell h0 0 rfl, blk_cell h1 0 rfl, blk_cell h2 0 rfl⟩
  refine ⟨f hU, f hV, f hW, ?_⟩
  have h3 : Own w0 _ (Sep (Sep (Blk b (.cells #[.pointer (some ⟨p, 0, none⟩)] 24 (0, 0))) (Sep (Blk (b + 1) (.cells #[.int .i64 m] 3 (0, 0))) (Sep (Blk (b + 1 + 1) (.cells #[.int .i64 s] 3 (0, 0))) (Blk (b + 1 + 1 + 1) (.cells #[.int .i64 E] 25 (0, 0)))))) (Sep (Sep S X) (Blk c (.cells #[.int .i64 s, .int .i64 n] 43 (0, 0))))) := hW.ac (by simp only [List.setIfInBounds_toArray, List.set_cons_zero]; ac_rfl)
  exact h3.assoc'.fst

def allocI (p a : Nat) (l : List Bool) (J : Res) (m b : Nat) (pre : List (Nat × Nat)) : Res := AndR (∀ h ∈ pre, h.2 < m) (Sep (allocB p m b 0 0) (Sep (SpR 51 p a l) J))
instance {p a : Nat} {l : List Bool} {J : Res} [Stab J] {m b : Nat} {pre : List (Nat × Nat)} : Stab (allocI p a l J m b pre) := inferInstanceAs (Stab (AndR _ _))
def allocX (p a : Nat) (l : List Bool) (J : Res) (m b : Nat) (pre : List (Nat × Nat)) : Res :=
  ExR fun x : Nat × Nat => AndR (∃ pre', pre = pre' ++ [x] ∧ (∀ h ∈ pre', h.2 < m) ∧ m ≤ x.2) (Sep (allocB p m b (x.1 : Int) (turnE a l x.1 m true : Nat)) (Sep (SpR 51 p a (turnL a l x.1 m true)) J))
instance {p a : Nat} {l : List Bool} {J : Res} [Stab J] {m b : Nat} {pre : List (Nat × Nat)} : Stab (allocX p a l J m b pre) := inferInstanceAs (Stab (ExR _))
def allocA (p a : Nat) (l : List Bool) (J : Res) (m b : Nat) (x : Nat × Nat) (a' : Act) (pre : List (Nat × Nat)) : Res :=
  ExR fun c => AndR (a' = { tmps := #[.pointer (some ⟨p, 0, none⟩), .int .i64 m, .pointer (some ⟨b, 0, none⟩), .pointer (some ⟨b + 1, 0, none⟩), .pointer (some ⟨b + 1 + 1, 0, none⟩), .pointer (some ⟨b + 1 + 1 + 1, 0, none⟩), .pointer (some ⟨c, 0, none⟩), .pointer (some ⟨p, 0, none⟩), .bool false, .int .i64 m, .bool false, .pointer (some ⟨p, 0, none⟩), .func (.func 21) #[.pointer (some ⟨p, 0, none⟩)] #[], encH x, undef, undef, undef, undef, undef, undef, undef, undef, undef, undef, undef], defers := [] })
    (Sep (Blk c (.cells #[.int .i64 (x.1 : Int), .int .i64 (x.2 : Int)] 43 (0, 0))) (allocI p a l J m b pre))
instance {p a : Nat} {l : List Bool} {J : Res} [Stab J] {m b : Nat} {x : Nat × Nat} {a' : Act} {pre : List (Nat × Nat)} : Stab (allocA p a l J m b x a' pre) := inferInstanceAs (Stab (ExR _))

set_option maxRecDepth 100000 in
set_option maxHeartbeats 4000000 in
theorem xown_alloc_ok {w0 w : World} {p a : Nat} {l : List Bool} {J : Res} [Stab J] (h : Own w0 w (Sep (SpR 51 p a l) J)) (m : Nat) (hm : 1 ≤ m) (hmr : (m : Int) ≤ 9223372036854775807) :
    Calls Try.prog 10 #[.pointer (some ⟨p, 0, none⟩), .int .i64 m] w fun e w' => e = .returned (.tuple #[.int .i64 (allocV a l m), .int .i64 (allocE l m)]) ∧ Own w0 w' (Sep (SpR 51 p a (allocL l m)) J) := by
  refine (callsIn_wide (n := 5)).1 ?_
  have hm1 : ¬ (m : Int) < 1 := by omega
  have H := Lib.hid h
  have HF := Lib.hid (first_hole hm a l)
  have hfit : a + l.length ≤ 4096 := by obtain ⟨g, hS⟩ := h.space; exact hS.fits
  have HB := Lib.hid (hol_bounds a l)
  clear h
  refine callsIn_of_wp_marks Try.func10 rfl trivial ?_ rfl
  simp only [Try.ntmps10, List.size_toArray, List.length_cons, List.length_nil, Nat.reduceAdd, Nat.reduceSub, Array.replicate_succ, Array.replicate_zero, List.push_toArray, List.append_toArray, List.nil_append, List.cons_append]
  gi_wp2
  have H4 := (((H.out.alloc (.cells #[.pointer (some ⟨p, 0, none⟩)] 24)).alloc (.cells #[.int .i64 (m : Int)] 3)).alloc (.cells #[.int .i64 0] 3)).alloc (.cells #[.int .i64 0] 25)
  simp only [World.size_alloc] at H4
  have H1 : Hid (Own w0 _ (allocI p a l J m w.heap.size [])) := Lib.hid (H4.imp fun F hF => ⟨by simp, by
    have e : Sep (Blk (w.heap.size + 1 + 1 + 1) (.cells #[.int .i64 0] 25)) (Sep (Blk (w.heap.size + 1 + 1) (.cells #[.int .i64 0] 3)) (Sep (Blk (w.heap.size + 1) (.cells #[.int .i64 (m : Int)] 3)) (Sep (Blk w.heap.size (.cells #[.pointer (some ⟨p, 0, none⟩)] 24)) (Sep (SpR 51 p a l) J)))) = Sep (allocB p m w.heap.size 0 0) (Sep (SpR 51 p a l) J) := by unfold allocB; ac_rfl
    exact e ▸ hF⟩)
  clear H4
  refine wp_range (m := 3) (gf := 21) (fst := #[.pointer (some ⟨p, 0, none⟩)]) (enc := encH) rfl (Go.Proofs.enters_of Try.func21 (by kernel_rfl) rfl) rfl (each_gives 3 p a l)
    (allocI p a l J m w.heap.size) (allocX p a l J m w.heap.size) (allocA p a l J m w.heap.size) (fun pre W I hW => (hW.andR.2.assoc.snd.assoc).space) H1.out ?assign ?body ?done ?stop
  case assign =>
    intro ly pre x W I _ hpre hW
    have HW := Lib.hid hW
    clear hW
    obtain ⟨s, n⟩ := x
    simp only [encH]
    gi_wp2
    have h2 := (HW.out.alloc (.cells #[.int .i64 (s : Int), .int .i64 (n : Int)] 43)).assoc'
    exact h2.imp fun F hF => hF.imp (fun A hA => ⟨_, rfl, hA⟩) (fun _ h => h)
  case body =>
    intro ly pre x a' W I _ hpre hW
    obtain ⟨c, hW1⟩ := hW.exR
    obtain ⟨ha, hW2⟩ := hW1.andR
    clear hW hW1
    subst ha
    have hxm : x ∈ hol a l := hpre.subset (by simp)
    obtain ⟨hx1, hx2, hx3⟩ := HB.out x hxm
    obtain ⟨hlt, hI⟩ := hW2.assoc.snd.andR
    have hC := allocB.cells hI.fst.fst
    have hc := hW2.fst.held
    have HL := Lib.hid hlt
    obtain ⟨s, n⟩ := x
    simp only [encH] at hx1 hx2 hx3 hc ⊢
    have k0 : W.cell? ⟨c, 0, none⟩ = some (.int .i64 (s : Int)) := blk_cell hc 0 rfl
    have k1 : W.cell? ⟨c, 1, none⟩ = some (.int .i64 (n : Int)) := blk_cell hc 1 rfl
    have c0 : W.cell? ⟨w.heap.size, 0, none⟩ = some (.pointer (some ⟨p, 0, none⟩)) := blk_cell hC.c0 0 rfl
    have c1 : W.cell? ⟨w.heap.size + 1, 0, none⟩ = some (.int .i64 (m : Int)) := blk_cell hC.c1 0 rfl
    have HA : Hid (Own w0 W (Sep (SpR 51 p a l) (Sep (Blk c (.cells #[.int .i64 (s : Int), .int .i64 (n : Int)] 43 (0, 0))) (Sep (allocB p m w.heap.size 0 0) (Sep J I))))) := Lib.hid (by
      have h3 := hW2.imp fun F hF => hF.imp (fun A hA => hA.imp (fun _ h => h) (fun B hB => hB.2)) (fun _ h => h)
      exact h3.ac (by ac_rfl))
    clear hW2 hI hC hc hlt
    by_cases hmn : m ≤ n
    · have hmn' : (m : Int) ≤ (n : Int) := by omega
      have hs1 : i64R' (s : Int) := by unfold i64R'; omega
      have hm2 : i64R' (m : Int) := by unfold i64R'; omega
      have HT : Hid (∀ w', Only (fun _ => False) W w' → Calls Try.prog 11 #[.pointer (some ⟨p, 0, none⟩), .int .i64 (s : Int), .int .i64 (m : Int)] w' fun e w'' => e = .returned (.int .i64 (turnE a l s m true)) ∧ Own w0 w'' (Sep (SpR 51 p a (turnL a l s m true)) (Sep (Blk c (.cells #[.int .i64 (s : Int), .int .i64 (n : Int)] 43 (0, 0))) (Sep (allocB p m w.heap.size 0 0) (Sep J I))))) := Lib.hid (fun w' ho => xown_take (HA.out.quiet ho) s m hs1 hm2)
      have hmx : Try.prog.follows .mixedOrders = true := by kernel_rfl
      have hx4 : 0 ≤ (s : Int) := by omega
      clear hs1 hm2
      have HS0 : Hid (AllocS c w.heap.size p s m W.drew) := Lib.hid ⟨k0, c0, c1⟩
      gi_wp2
      refine wp_round_held (S := fun w' => w'.cell? ⟨c, 0, none⟩ = some (.int .i64 (s : Int)) ∧ w'.cell? ⟨w.heap.size, 0, none⟩ = some (.pointer (some ⟨p, 0, none⟩)) ∧ w'.cell? ⟨w.heap.size + 1, 0, none⟩ = some (.int .i64 (m : Int))) hmx (by kernel_rfl) (fun ⟨_, _, h⟩ => h) HS0.out (fun hHeld => ?_)
      clear k0 k1 c0 c1
      refine wpAnyH_take (i := 0) (oi := ?_) (v := ?_) ?_ (by kernel_rfl) (by kernel_rfl) (by kernel_rfl) ?_ (Or.inl ⟨?_, ?_⟩) (by assumption) ?_
      rotate_left 2
      · (simp only [List.getElem?_toArray, List.getElem?_cons_zero]; rfl)
      · exact fun _ _ _ h => h
      · rfl
      · (intro w hSw; (try dsimp only at hSw); go_simp <;> with_reducible rfl)
      (try simp only [Act.put, List.setIfInBounds_toArray, List.set_cons_zero, List.set_cons_succ])
      refine wpAnyH_take (i := 1) (oi := ?_) (v := ?_) ?_ (by kernel_rfl) (by kernel_rfl) (by kernel_rfl) ?_ (Or.inl ⟨?_, ?_⟩) (by assumption) ?_
      rotate_left 2
      · (simp only [List.getElem?_toArray, List.getElem?_cons_succ, List.getElem?_cons_zero]; rfl)
      · exact fun _ _ _ h => h
      · rfl
      · (intro w hSw; (try dsimp only at hSw); go_simp <;> with_reducible rfl)
      (try simp only [Act.put, List.setIfInBounds_toArray, List.set_cons_zero, List.set_cons_succ])
      refine wpAnyH_take (i := 2) (oi := ?_) (v := ?_) ?_ (by kernel_rfl) (by kernel_rfl) (by kernel_rfl) ?_ (Or.inl ⟨?_, ?_⟩) (by assumption) ?_
      rotate_left 2
      · (simp only [List.getElem?_toArray, List.getElem?_cons_succ, List.getElem?_cons_zero]; rfl)
      · exact fun _ _ _ h => h
      · rfl
      · (intro w hSw; (try dsimp only at hSw); go_simp <;> with_reducible rfl)
      (try simp only [Act.put, List.setIfInBounds_toArray, List.set_cons_zero, List.set_cons_succ])
      refine wpAnyH_take (i := 3) (oi := ?_) (v := ?_) ?_ (by kernel_rfl) (by kernel_rfl) (by kernel_rfl) ?_ (Or.inl ⟨?_, ?_⟩) (by assumption) ?_
      rotate_left 2
      · (simp only [List.getElem?_toArray, List.getElem?_cons_succ, List.getElem?_cons_zero]; rfl)
      · exact fun _ _ _ h => h
      · rfl
      · (intro w hSw; (try dsimp only at hSw); go_simp <;> with_reducible rfl)
      (try simp only [Act.put, List.setIfInBounds_toArray, List.set_cons_zero, List.set_cons_succ])
      refine wpAnyH_take (i := 4) (oi := ?_) (v := ?_) ?_ (by kernel_rfl) (by kernel_rfl) (by kernel_rfl) ?_ (Or.inl ⟨?_, ?_⟩) (by assumption) ?_
      rotate_left 2
      · (simp only [List.getElem?_toArray, List.getElem?_cons_succ, List.getElem?_cons_zero]; rfl)
      · exact fun _ _ _ h => h
      · rfl
      · (intro w hSw; (try dsimp only at hSw); go_simp <;> with_reducible rfl)
      (try simp only [Act.put, List.setIfInBounds_toArray, List.set_cons_zero, List.set_cons_succ])
      refine wpAnyH_take (i := 5) (oi := ?_) (v := ?_) ?_ (by kernel_rfl) (by kernel_rfl) (by kernel_rfl) ?_ (Or.inl ⟨?_, ?_⟩) (by assumption) ?_
      rotate_left 2
      · (simp only [List.getElem?_toArray, List.getElem?_cons_succ, List.getElem?_cons_zero]; rfl)
      · exact fun _ _ _ h => h
      · rfl
      · (intro w hSw; (try dsimp only at hSw); go_simp <;> with_reducible rfl)
      (try simp only [Act.put, List.setIfInBounds_toArray, List.set_cons_zero, List.set_cons_succ])
      refine wpAnyH_ready (rs := [6]) (by kernel_rfl) (by simp) (AllReadyH.cons (o := ?o6_1) ?h6_1 (fun K hK => ?s6_1) AllReadyH.nil)
      case h6_1 => (simp only [List.getElem?_toArray, List.getElem?_cons_succ, List.getElem?_cons_zero]; rfl)
      case' s6_1 =>
        (go_simp; refine (HT.out _ (Only.refl _ _).drew).mono ?_; rintro e w1 ⟨rfl, hT⟩; have HT1 := Lib.hid (alloc_after hT (turnE a l s m true : Nat)); have hC1 := allocB.cells hT.snd.snd.fst; clear hT; have q2 : w1.cell? ⟨w.heap.size + 1 + 1, 0, none⟩ = some (.int .i64 0) := blk_cell hC1.c2 0 rfl; have q3 : w1.cell? ⟨w.heap.size + 1 + 1 + 1, 0, none⟩ = some (.int .i64 0) := blk_cell hC1.c3 0 rfl; have g2 : w1.frozen? ⟨w.heap.size + 1 + 1, 0, none⟩ = false := blk_free hC1.c2 0; have g3 : w1.frozen? ⟨w.heap.size + 1 + 1 + 1, 0, none⟩ = false := blk_free hC1.c3 0; clear hC1)
        refine hK.out _ _ ?_ (fun hHeld => ?_)
        · exact HT1.out.1
        clear hK K
        (try simp only [Act.put, List.setIfInBounds_toArray, List.set_cons_zero, List.set_cons_succ])
        refine wpAnyH_ready (rs := [7]) (by kernel_rfl) (by simp) (AllReadyH.cons (o := ?o7_2) ?h7_2 (fun K hK => ?s7_2) AllReadyH.nil)
        case h7_2 => (simp only [List.getElem?_toArray, List.getElem?_cons_succ, List.getElem?_cons_zero]; rfl)
        case' s7_2 =>
          go_simp
          refine hK.out _ _ ?_ (fun hHeld => ?_)
          · exact HT1.out.2.1
          clear hK K
          (try simp only [Act.put, List.setIfInBounds_toArray, List.set_cons_zero, List.set_cons_succ])
          refine wpAnyH_ready (rs := [8]) (by kernel_rfl) (by simp) (AllReadyH.cons (o := ?o8_3) ?h8_3 (fun K hK => ?s8_3) AllReadyH.nil)
          case h8_3 => (simp only [List.getElem?_toArray, List.getElem?_cons_succ, List.getElem?_cons_zero]; rfl)
          case' s8_3 =>
            go_simp
            refine hK.out _ _ ?_ (fun hHeld => ?_)
            · exact HT1.out.2.2.1
            clear hK K
            (try simp only [Act.put, List.setIfInBounds_toArray, List.set_cons_zero, List.set_cons_succ])
            refine wpAnyH_done (by kernel_rfl) ?_ _
            gi_wp2
            have h3 : Own w0 _ (Sep (Sep (allocB p m w.heap.size s (turnE a l s m true : Nat)) (Sep (SpR 51 p a (turnL a l s m true)) J)) I) := HT1.out.2.2.2.ac (by ac_rfl)
            show Own w0 _ (Sep (allocX p a l J m w.heap.size (pre ++ [(s, n)])) I)
            exact h3.imp fun F hF => hF.imp (fun A hA => ⟨(s, n), ⟨pre, rfl, HL.out, hmn⟩, hA⟩) (fun _ h => h)
    · have hmn' : (n : Int) < (m : Int) := by omega
      have hmd : ¬ (m : Int) ≤ (n : Int) := by omega
      gi_wp2
      show Own w0 W (Sep (allocI p a l J m w.heap.size (pre ++ [(s, n)])) I)
      have h3 : Own w0 W (Sep (Sep (allocB p m w.heap.size 0 0) (Sep (SpR 51 p a l) J)) I) := HA.out.drop2.ac (by ac_rfl)
      exact h3.imp fun F hF => hF.imp (fun A hA => ⟨fun h hh => by
        rcases List.mem_append.1 hh with hh | hh
        · exact HL.out h hh
        · simp at hh; subst hh; exact Nat.lt_of_not_le hmn, hA⟩) (fun _ h => h)
  case done =>
    intro D W hW
    obtain ⟨hlt, hI⟩ := hW.andR
    have hC := allocB.cells hI.fst.fst
    have c2 : W.cell? ⟨w.heap.size + 1 + 1, 0, none⟩ = some (.int .i64 0) := blk_cell hC.c2 0 rfl
    have c3 : W.cell? ⟨w.heap.size + 1 + 1 + 1, 0, none⟩ = some (.int .i64 0) := blk_cell hC.c3 0 rfl
    have f2 : W.frozen? ⟨w.heap.size + 1 + 1, 0, none⟩ = false := blk_free hC.c2 0
    have f3 : W.frozen? ⟨w.heap.size + 1 + 1 + 1, 0, none⟩ = false := blk_free hC.c3 0
    have hN : low m l = none := by
      have h1 := HF.out
      have h2 : (hol a l).find? (fun h => decide (m ≤ h.2)) = none := List.find?_eq_none.2 fun x hx => by have := hlt x hx; simp; omega
      rw [h2] at h1
      cases hl : low m l with
      | none => rfl
      | some d => rw [hl] at h1; simp at h1
    obtain ⟨e1, e2, e3⟩ := alloc_full (n := (m : Int)) (by omega) hN a
    have HE := Lib.hid (And.intro e1 (And.intro e2 e3))
    have HT := Lib.hid (allocB.turn (hI.ac (Sep.assoc_eq _ _ _)) 0 3)
    clear hW hlt hI hC hN e1 e2 e3
    unfold Marked
    gi_wp2
    have h2 := HT.out
    have h3 := allocB.cells h2.fst
    have h4 : Own w0 _ (Sep (Blk D (.deferred (some []))) (Sep (allocB p m w.heap.size 0 3) (Sep (SpR 51 p a l) J))) := h2.ac (by ac_rfl)
    refine ⟨by simp, .inl ⟨_, _, rfl, run_takeDeferred h4.held, ?_⟩⟩
    have h5 := h4.put (.deferred none)
    have h6 := allocB.cells h5.snd.fst
    have d2 := blk_cell h6.c2 0 rfl
    have d3 := blk_cell h6.c3 0 rfl
    rw [HE.out.1, HE.out.2.1, HE.out.2.2]
    refine ⟨.tuple #[.int .i64 0, .int .i64 3], ?_, rfl, h5.snd.snd⟩
    simp [results, Try.f10, go_sem, d2, d3]
  case stop =>
    intro D pre W hpre hW
    obtain ⟨x, hW1⟩ := hW.exR
    obtain ⟨⟨pre', rfl, hlt, hmx⟩, hI⟩ := hW1.andR
    have hC := allocB.cells hI.fst.fst
    have hf : (hol a l).find? (fun h => decide (m ≤ h.2)) = some x := by
      obtain ⟨t, ht⟩ := hpre
      rw [← ht, List.append_assoc, List.find?_append]
      have : pre'.find? (fun h => decide (m ≤ h.2)) = none := List.find?_eq_none.2 fun y hy => by have := hlt y hy; simp; omega
      simp [this, hmx]
    obtain ⟨d, hd, hxd⟩ : ∃ d, low m l = some d ∧ (x.1 : Int) = (a : Int) + d := by
      have h1 := HF.out
      rw [hf] at h1
      cases hl : low m l with
      | none => rw [hl] at h1; simp at h1
      | some d => rw [hl] at h1; simp at h1; exact ⟨d, rfl, by omega⟩
    obtain ⟨t1, t2⟩ := low_taken hm hd a
    rw [hxd, t1] at hI hC
    rw [t2] at hI
    obtain ⟨e1, e2, e3⟩ := alloc_some (n := (m : Int)) (by omega) hd a
    have HE := Lib.hid (And.intro e1 (And.intro e2 e3))
    have HI := Lib.hid hI
    clear hW hW1 hI hC e1 e2 e3 hf hlt hmx hd hxd t1 t2
    unfold Marked
    gi_wp2
    have h4 : Own w0 W (Sep (Blk D (.deferred (some []))) (Sep (allocB p m w.heap.size ((a : Int) + d) (0 : Nat)) (Sep (SpR 51 p a (setL l d m true)) J))) := HI.out.ac (by ac_rfl)
    refine ⟨by simp, .inl ⟨_, _, rfl, run_takeDeferred h4.held, ?_⟩⟩
    have h5 := h4.put (.deferred none)
    have h6 := allocB.cells h5.snd.fst
    have d2 := blk_cell h6.c2 0 rfl
    have d3 := blk_cell h6.c3 0 rfl
    rw [HE.out.1, HE.out.2.1, HE.out.2.2]
    refine ⟨.tuple #[.int .i64 ((a : Int) + d), .int .i64 0], ?_, by simp, h5.snd.snd⟩
    simp [results, Try.f10, go_sem, d2, d3]

theorem xown_alloc {w0 w : World} {p a : Nat} {l : List Bool} {J : Res} [Stab J] (h : Own w0 w (Sep (SpR 51 p a l) J)) (n : Int) (hn : i64R' n) :
    Calls Try.prog 10 #[.pointer (some ⟨p, 0, none⟩), .int .i64 n] w fun e w' => e = .returned (.tuple #[.int .i64 (allocV a l n), .int .i64 (allocE l n)]) ∧ Own w0 w' (Sep (SpR 51 p a (allocL l n)) J) := by
  by_cases h1 : n < 1
  · have e1 : allocE l n = 1 := by simp [allocE, h1]
    have e2 : allocV a l n = 0 := by simp [allocV, h1]
    have e3 : allocL l n = l := by simp [allocL, h1]
    rw [e1, e2, e3]
    refine (ext_alloc_bad w p n h1).mono ?_
    rintro e w' ⟨rfl, ho⟩
    exact ⟨rfl, h.quiet ho⟩
  · obtain ⟨m, rfl⟩ : ∃ m : Nat, n = m := ⟨n.toNat, by omega⟩
    exact xown_alloc_ok h m (by omega) hn.2

end Go.Proofs.Ytfclfmobmaemkaa
