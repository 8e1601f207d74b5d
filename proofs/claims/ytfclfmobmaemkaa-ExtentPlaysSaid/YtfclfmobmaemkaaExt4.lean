/-
  Package extent's calls on a space that the statement has made, beside what else it has made: New, Take, Free; Left.
-/
import Derived.Test.YtfclfmobmaemkaaExt3
import Derived.Shelf.Abstract
namespace Go.Proofs.Ytfclfmobmaemkaa
open Go Go.RowKit
set_option linter.unusedVariables false
set_option linter.unusedSimpArgs false
set_option maxRecDepth 100000
attribute [local go_sem] Oper.semAt_some

def SpR (t : TypeId) (p a : Nat) (l : List Bool) : Res := fun w F => ∃ g, SpaceAt t w p g a l ∧ ∀ k, F k ↔ k = p ∨ k = g
instance {t : TypeId} {p a : Nat} {l : List Bool} : Stab (SpR t p a l) where
  lt := by
    rintro w F ⟨g, h, hF⟩ k hk
    rcases (hF k).1 hk with rfl | rfl
    · exact lt_of_some h.at'
    · exact lt_of_some h.row
  keep := by
    rintro w w' F ⟨g, h, hF⟩ hk
    exact ⟨g, h.keep (fun k e => hk k ((hF k).2 e)), hF⟩
def No : Res := fun _ _ => False
instance : Stab No where
  lt := fun h => h.elim
  keep := fun h => h.elim
theorem Own.space {t : TypeId} {w0 w : World} {p a : Nat} {l : List Bool} {J : Res} (h : Own w0 w (Sep (SpR t p a l) J)) : ∃ g, SpaceAt t w p g a l := by
  obtain ⟨F, ⟨g, h1, _⟩, _⟩ := h.fst
  exact ⟨g, h1⟩

theorem xown_new {w0 w : World} {I : Res} [Stab I] (h : Own w0 w I) (a n : Nat) (y : Int) (hy : y = (a : Int) + n) (hfit : a + n ≤ 4096) :
    Calls Try.prog 8 #[.int .i64 a, .int .i64 y] w fun e w' => ∃ p, e = .returned (.tuple #[.pointer (some ⟨p, 0, none⟩), .int .i64 0]) ∧ Own w0 w' (Sep (SpR 51 p a (List.replicate n false)) I) := by
  refine (ext_new a n y hy w hfit).mono ?_
  rintro e w' ⟨rfl, hS, ho⟩
  refine ⟨_, rfl, h.fresh ho (B := fun k => k = w.heap.size + 1 ∨ k = w.heap.size) ⟨_, hS, fun _ => Iff.rfl⟩ ?_⟩
  rintro k (rfl | rfl) <;> omega

/-- A call that turns the flags alone. -/
theorem xown_turned {t : TypeId} {w0 w : World} {p a : Nat} {l l' : List Bool} {J : Res} [Stab J] {f : FuncId} {args : Array Value} {E : Value} (h : Own w0 w (Sep (SpR t p a l) J))
    (c : ∀ g, SpaceAt t w p g a l → Calls Try.prog f args w fun e w' => e = .returned E ∧ SpaceAt t w' p g a l' ∧ Only (fun k => k = g) w w') :
    Calls Try.prog f args w fun e w' => e = .returned E ∧ Own w0 w' (Sep (SpR t p a l') J) := by
  refine (Own.call (val := fun _ : Unit => E) (Q := fun _ => SpR t p a l') h ?_).mono ?_
  · rintro F B ⟨g, hS, hF⟩ hJ hd h0
    refine (c g hS).mono ?_
    rintro e w' ⟨rfl, h1, ho⟩
    exact ⟨(), F, rfl, ⟨g, h1, hF⟩, fun k hk => .inl hk, ho.mono (fun k _ e => (hF k).2 (.inr e))⟩
  · rintro e w' ⟨_, rfl, hq⟩
    exact ⟨rfl, hq⟩
theorem xown_take {w0 w : World} {p a : Nat} {l : List Bool} {J : Res} [Stab J] (h : Own w0 w (Sep (SpR 51 p a l) J)) (start n : Int) (hs : i64R' start) (hn : i64R' n) :
    Calls Try.prog 11 #[.pointer (some ⟨p, 0, none⟩), .int .i64 start, .int .i64 n] w fun e w' => e = .returned (.int .i64 (turnE a l start n true)) ∧ Own w0 w' (Sep (SpR 51 p a (turnL a l start n true)) J) :=
  xown_turned h fun g hS => ext_take hS start n hs hn
theorem xown_free {w0 w : World} {p a : Nat} {l : List Bool} {J : Res} [Stab J] (h : Own w0 w (Sep (SpR 51 p a l) J)) (start n : Int) (hs : i64R' start) (hn : i64R' n) :
    Calls Try.prog 12 #[.pointer (some ⟨p, 0, none⟩), .int .i64 start, .int .i64 n] w fun e w' => e = .returned (.int .i64 (turnE a l start n false)) ∧ Own w0 w' (Sep (SpR 51 p a (turnL a l start n false)) J) :=
  xown_turned h fun g hS => ext_free hS start n hs hn

theorem Own.exR {α : Type} {w0 w : World} {I : α → Res} {J : Res} (h : Own w0 w (Sep (ExR I) J)) : ∃ x, Own w0 w (Sep (I x) J) := by
  obtain ⟨F, ⟨A, B, ⟨x, hA⟩, hB, hd, hF⟩, h2, h3⟩ := h
  exact ⟨x, F, ⟨A, B, hA, hB, hd, hF⟩, h2, h3⟩
theorem Own.andR {p : Prop} {w0 w : World} {I J : Res} (h : Own w0 w (Sep (AndR p I) J)) : p ∧ Own w0 w (Sep I J) := by
  obtain ⟨F, ⟨A, B, ⟨hp, hA⟩, hB, hd, hF⟩, h2, h3⟩ := h
  exact ⟨hp, F, ⟨A, B, hA, hB, hd, hF⟩, h2, h3⟩
theorem Own.no {w0 w : World} {J : Res} (h : Own w0 w (Sep No J)) : False := by
  obtain ⟨F, ⟨A, B, hA, _⟩, _⟩ := h
  exact hA
theorem sumH_snoc (pre : List (Nat × Nat)) (x : Nat × Nat) : sumH (pre ++ [x]) = sumH pre + x.2 := by simp [sumH]
theorem sumH_pre {pre all : List (Nat × Nat)} (h : pre <+: all) : sumH pre ≤ sumH all := by
  obtain ⟨t, rfl⟩ := h
  simp [sumH]
theorem blk_cell {w : World} {b : Nat} {cs : Array Value} {t : TypeId} {v : Value} (h : w.heap[b]? = some (.cells cs t (0, 0))) (j : Nat) (hv : cs[j]? = some v) : w.cell? ⟨b, j, none⟩ = some v := by simp [World.cell?, h, hv]
theorem blk_free {w : World} {b : Nat} {cs : Array Value} {t : TypeId} (h : w.heap[b]? = some (.cells cs t (0, 0))) (j : Nat) : w.frozen? ⟨b, j, none⟩ = false := by simp [World.frozen?, h]
/-- A store into a block of one's own. -/
theorem Own.store {w0 w : World} {k : Nat} {cs : Array Value} {t : TypeId} {J : Res} [Stab J] (h : Own w0 w (Sep (Blk k (.cells cs t (0, 0))) J)) (j : Nat) (u : Value) : Own w0 (w.setCell ⟨k, j, none⟩ u) (Sep (Blk k (.cells (cs.setIfInBounds j u) t (0, 0))) J) := by
  obtain ⟨F, ⟨A, B, hA, hB, hd, hF⟩, h2, h3⟩ := h
  have hk : A k := (hA.2 k).2 rfl
  refine ⟨F, ⟨A, B, ⟨heap_set hA.1 j u, hA.2⟩, Stab.keep hB (fun i hi => Below.heap_setCell _ _ _ _ (fun e => hd k hk (by have e : i = k := e; rwa [e] at hi))), hd, hF⟩, h2, ?_⟩
  refine h3.setCell (fun hlt => ?_) u
  have := h2 k ((hF k).2 (.inl hk))
  exact absurd hlt (by simp; omega)

def leftI (S : Res) (b : Nat) (pre : List (Nat × Nat)) : Res := Sep (Blk b (.cells #[.int .i64 (sumH pre : Int)] 3 (0, 0))) S
instance {S : Res} [Stab S] {b : Nat} {pre : List (Nat × Nat)} : Stab (leftI S b pre) := inferInstanceAs (Stab (Sep _ _))
def leftA (po : Option Addr) (S : Res) (b : Nat) (x : Nat × Nat) (a' : Act) (pre : List (Nat × Nat)) : Res :=
  ExR fun c => AndR (a' = { tmps := #[.pointer po, undef, .int .i64 0, .pointer (some ⟨b, 0, none⟩), .pointer (some ⟨c, 0, none⟩), .pointer po, .func (.func 21) #[.pointer po] #[], encH x, undef, undef, undef, undef, undef], defers := [] })
    (Sep (Blk c (.cells #[.int .i64 (x.1 : Int), .int .i64 (x.2 : Int)] 43 (0, 0))) (leftI S b pre))
instance {po : Option Addr} {S : Res} [Stab S] {b : Nat} {x : Nat × Nat} {a' : Act} {pre : List (Nat × Nat)} : Stab (leftA po S b x a' pre) := inferInstanceAs (Stab (ExR _))

set_option maxRecDepth 100000 in
set_option maxHeartbeats 2000000 in
theorem left_gen {w0 w : World} {po : Option Addr} {S : Res} [Stab S] {Rd : World → Prop} {all : List (Nat × Nat)} (h : Own w0 w S) (hit : Gives Try.prog 3 21 #[.pointer po] encH Rd all) (hRd : ∀ W I, Own w0 W (Sep S I) → Rd W) (hsum : sumH all ≤ 4096) :
    Calls Try.prog 13 #[.pointer po] w fun e w' => e = .returned (.int .i64 (sumH all : Nat)) ∧ Own w0 w' S := by
  refine (callsIn_wide (n := 5)).1 ?_
  have H := Lib.hid h
  have HS := Lib.hid hsum
  have HG := Lib.hid hit
  have HD := Lib.hid hRd
  clear h hsum hit hRd
  refine callsIn_of_wp_marks Try.func13 rfl trivial ?_ rfl
  simp only [Try.ntmps13, List.size_toArray, List.length_cons, List.length_nil, Nat.reduceAdd, Nat.reduceSub, Array.replicate_succ, Array.replicate_zero, List.push_toArray, List.append_toArray, List.nil_append, List.cons_append]
  gi_wp2
  have H1 := Lib.hid (H.out.alloc (.cells #[.int .i64 0] 3))
  refine wp_range (m := 3) (gf := 21) (fst := #[.pointer po]) (enc := encH) rfl (Go.Proofs.enters_of Try.func21 (by kernel_rfl) rfl) rfl HG.out
    (leftI S w.heap.size) (fun _ => No) (leftA po S w.heap.size) (fun pre W I hW => HD.out W _ hW.assoc.snd) H1.out ?assign ?body ?done ?stop
  case assign =>
    intro ly pre x W I _ hpre hW
    have HW := Lib.hid hW
    clear hW
    obtain ⟨s, n⟩ := x
    simp only [encH]
    gi_wp2
    have h2 := (HW.out.alloc (.cells #[.int .i64 (s : Int), .int .i64 (n : Int)] 43)).assoc'
    exact h2.imp fun F hF => hF.imp (fun A hA => ⟨_, rfl, hA⟩) (fun _ h => h)
  case body =>
    intro ly pre x a' W I _ hpre hW
    obtain ⟨c, hW1⟩ := hW.exR
    obtain ⟨ha, hW2⟩ := hW1.andR
    clear hW hW1
    subst ha
    have hW := hW2
    clear hW2
    have hb : sumH pre + x.2 ≤ 4096 := by have := sumH_pre hpre; rw [sumH_snoc] at this; have := HS.out; omega
    have hsn := sumH_snoc pre x
    obtain ⟨s, n⟩ := x
    simp only [encH] at hb hsn ⊢
    have hc := hW.fst.held
    have cx : W.cell? ⟨c, 1, none⟩ = some (.int .i64 (n : Int)) := blk_cell hc 1 rfl
    have hI := hW.assoc.snd.assoc
    have cs : W.cell? ⟨w.heap.size, 0, none⟩ = some (.int .i64 (sumH pre : Int)) := blk_cell hI.held 0 rfl
    have fs : W.frozen? ⟨w.heap.size, 0, none⟩ = false := blk_free hI.held 0
    have HI := Lib.hid (hI.store 0 (.int .i64 ((sumH pre : Int) + (n : Int))))
    have HN := Lib.hid hsn
    clear hW hI hsn hc
    generalize sumH pre = s0 at *
    gi_wp2
    have h2 := HI.out.assoc'
    show Own w0 _ (Sep (leftI S w.heap.size (pre ++ [(s, n)])) I)
    unfold leftI
    rw [HN.out, Int.natCast_add]
    exact h2
  case done =>
    intro D W hW
    have cs : W.cell? ⟨w.heap.size, 0, none⟩ = some (.int .i64 ((sumH all : Nat) : Int)) := blk_cell hW.fst.held 0 rfl
    obtain ⟨s, hs⟩ : ∃ s, s = sumH all := ⟨_, rfl⟩
    rw [← hs] at cs
    have HQ := Lib.hid hs
    have HW := Lib.hid hW
    clear hW hs
    unfold Marked
    gi_wp2
    have h2 := HW.out.comm
    refine ⟨by simp, .inl ⟨_, _, rfl, run_takeDeferred h2.held, ?_⟩⟩
    exact ⟨_, results_tmp rfl _ _ _, by rw [← HQ.out]; rfl, (h2.put _).snd.snd⟩
  case stop =>
    intro D pre W _ hW
    exact hW.no.elim

theorem xown_left {w0 w : World} {p a : Nat} {l : List Bool} {J : Res} [Stab J] (h : Own w0 w (Sep (SpR 51 p a l) J)) :
    Calls Try.prog 13 #[.pointer (some ⟨p, 0, none⟩)] w fun e w' => e = .returned (.int .i64 (l.count false : Nat)) ∧ Own w0 w' (Sep (SpR 51 p a l) J) := by
  have hfit : l.length ≤ 4096 := by obtain ⟨g, hS⟩ := h.space; have := hS.fits; omega
  rw [← sumH_hol a l]
  exact left_gen h (each_gives 3 p a l) (fun W I hW => hW.fst.space) (by rw [sumH_hol]; exact Nat.le_trans List.count_le_length hfit)
theorem each_none (n : Nat) : Gives Try.prog n 21 #[.pointer none] encH (fun _ => True) [] := by
  intro l J Jx W _ _ h0
  refine (each_nil W _).mono ?_
  rintro e w' ⟨rfl, rfl⟩
  exact ⟨⟨_, rfl⟩, .inl h0⟩
theorem xown_left_nil {w0 w : World} {J : Res} [Stab J] (h : Own w0 w J) :
    Calls Try.prog 13 #[.pointer none] w fun e w' => e = .returned (.int .i64 0) ∧ Own w0 w' J :=
  left_gen h (each_none 3) (fun _ _ _ => trivial) (by decide)

end Go.Proofs.Ytfclfmobmaemkaa
