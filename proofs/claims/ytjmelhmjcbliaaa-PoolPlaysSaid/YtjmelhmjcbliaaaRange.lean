/-
  A range over a method of a value ('for x := range s.each'), by parts of memory: what the rounds keep is a part of its own; the loop's record and the block for deferred calls are two more, which the rounds never see. Plain laws; nothing of a program is walked here.
-/
import Derived.Test.YtjmelhmjcbliaaaMem
import Derived.RangeFuncRecord
import Derived.RangeFuncLeaves
import Derived.RangeFuncCalls
import Derived.RangeFuncKeeps
import Derived.OwnWalkIn
import Derived.TacticsInMore
import Derived.LoopNIn
import Derived.LoopIn
namespace Go.Proofs.Ytjmelhmjcbliaaa
open Go Go.RowKit
set_option linter.unusedVariables false
set_option linter.unusedSimpArgs false
set_option maxRecDepth 100000

/-- One block of a part is turned. -/
theorem Own.put {w0 w : World} {k : Nat} {o : Obj} {J : Res} [Stab J] (h : Own w0 w (Sep (Blk k o) J)) (o' : Obj) : Own w0 (w.putObj k o') (Sep (Blk k o') J) := by
  obtain ⟨F, ⟨A, B, hA, hB, hd, hF⟩, h2, h3⟩ := h
  have hk : A k := (hA.2 k).2 rfl
  have hlt := lt_of_some hA.1
  refine ⟨F, ⟨A, B, ⟨World.putObj_heap_same hlt, hA.2⟩, Stab.keep hB (fun i hi => World.putObj_heap_other (fun e => hd k hk (e ▸ hi))), hd, hF⟩, h2, ?_⟩
  refine h3.trans (T := fun i => i = k) ⟨rfl, rfl, rfl, by simp, fun i _ hi => World.putObj_heap_other hi⟩ (fun i hi e => ?_)
  have := h2 k ((hF k).2 (.inl hk))
  omega
theorem Own.held {w0 w : World} {k : Nat} {o : Obj} {J : Res} (h : Own w0 w (Sep (Blk k o) J)) : w.heap[k]? = some o := by
  obtain ⟨F, ⟨A, B, hA, _⟩, _⟩ := h
  exact hA.1

/-- The loop's record and its block for deferred calls, behind a part. -/
abbrev Held (R : Res) (l D : Nat) (r : Loop) : Res := Sep R (Sep (Blk l (.loop r)) (Blk D (.deferred (some []))))
theorem Held.turn {w0 w : World} {R : Res} [Stab R] {l D : Nat} {r : Loop} (h : Own w0 w (Held R l D r)) (r' : Loop) : Own w0 (w.putObj l (.loop r')) (Held R l D r') :=
  (h.swap.put (.loop r')).swap
theorem Held.rec {w0 w : World} {R : Res} {l D : Nat} {r : Loop} (h : Own w0 w (Held R l D r)) : w.heap[l]? = some (.loop r) := h.swap.held

def YR {α : Type} (J Jx : List α → World → Prop) (xs : List α) (e : Ending) (W' : World) : Prop := (e = .returned (.bool true) ∧ J xs W') ∨ (e = .returned (.bool false) ∧ Jx xs W')
/-- What an iterator gives: all of 'all', one by one, as long as the rounds go on; between two rounds it finds what Rd says. -/
def Gives {α : Type} (P : Program) (n : Nat) (gf : Nat) (fst : Array Value) (enc : α → Value) (Rd : World → Prop) (all : List α) : Prop :=
  ∀ (l : Nat) (J Jx : List α → World → Prop) (W : World), (∀ pre W, J pre W → Rd W) →
    (∀ pre x W1, J pre W1 → pre ++ [x] <+: all → YieldAt Fence.wide n P l #[enc x] W1 (YR J Jx (pre ++ [x]))) →
    J [] W → Calls P gf (fst ++ #[.func (.yield l) #[] #[]]) W fun e W' => (∃ v, e = .returned v) ∧ (J all W' ∨ ∃ pre, pre <+: all ∧ Jx pre W')

/-- How a round may be left: at its end, or by a return. -/
def RoundPost {α : Type} (w0 : World) (R X : List α → Res) (xs : List α) (I : Res) : Exit → Act → World → Prop
  | .normal, _, W => Own w0 W (Sep (R xs) I)
  | .ret, _, W => Own w0 W (Sep (X xs) I)
  | _, _, _ => False

def Marked (a : Act) (D : Nat) : Act := { a with defers := { target := .collected D, args := #[] } :: a.defers }

theorem wp_range {α : Type} {P : Program} {n m : Nat} {Q : Exit → Act → World → Prop} {a : Act} {w0 w : World} {g : Operand} {ps : Array Tmp} {assign body : Code} {gf : Nat} {fst : Array Value} {enc : α → Value} {Rd : World → Prop} {all : List α}
    (hg : a.eval g = .func (.func gf) fst #[]) (eg : ∀ args w, (callFunc gf args).run P w = .ok (.enter gf args) w) (hps : ps.size = 1) (hit : Gives P m gf fst enc Rd all)
    (R X : List α → Res) (A : α → Act → List α → Res) [∀ l, Stab (R l)] [∀ l, Stab (X l)] [∀ x a' l, Stab (A x a' l)]
    (hRd : ∀ pre W I, Own w0 W (Sep (R pre) I) → Rd W) (h0 : Own w0 w (R []))
    (hassign : ∀ (l : Nat) (pre : List α) (x : α) (W : World) (I : Res) [Stab I], pre ++ [x] <+: all → Own w0 W (Sep (R pre) I) →
      assign.wpIn (Fence.wide.inRound l) m P (Exit.then (fun a' W' => Own w0 W' (Sep (A x a' pre) I)) (fun _ _ _ => False)) { tmps := (ps.zip #[enc x]).foldl (fun t (p, v) => t.setIfInBounds p v) a.tmps, defers := [] } W)
    (hbody : ∀ (l : Nat) (pre : List α) (x : α) (a' : Act) (W : World) (I : Res) [Stab I], pre ++ [x] <+: all → Own w0 W (Sep (A x a' pre) I) →
      body.wpIn (Fence.wide.inRound l) m P (RoundPost w0 R X (pre ++ [x]) I) a' W)
    (hdone : ∀ (D : Nat) (W : World), Own w0 W (Sep (R all) (Blk D (.deferred (some [])))) → Q .normal (Marked a D) W)
    (hstop : ∀ (D : Nat) (pre : List α) (W : World), pre <+: all → Own w0 W (Sep (X pre) (Blk D (.deferred (some [])))) → Q .ret (Marked a D) W) :
    (Code.rangeFunc g ps assign body).wpIn Fence.wide n P Q a w := by
  refine wpIn_rangeFunc fun fn _ => ?_
  obtain ⟨rc, hrc⟩ : ∃ rc : LoopState → Option Code → Loop, rc = fun st pe => { state := st, pending := pe, fn, tmps := a.tmps, params := ps, assign, body, defers := w.heap.size } := ⟨_, rfl⟩
  have hown : Own w0 ((w.alloc (.deferred (some []))).alloc (.loop (rc .ready none))) (Held (R []) (w.heap.size + 1) w.heap.size (rc .ready none)) := by
    have h1 := (h0.alloc (.deferred (some []))).alloc (.loop (rc .ready none))
    rw [World.size_alloc] at h1
    exact h1.assoc'.comm
  refine ⟨w.heap.size + 1, [{ target := .collected w.heap.size, args := #[] }], (w.alloc (.deferred (some []))).alloc (.loop (rc .ready none)), { target := .fn (.func gf) #[], args := fst ++ #[.func (.yield (w.heap.size + 1)) #[] #[]] }, (w.alloc (.deferred (some []))).alloc (.loop (rc .ready none)), gf,
    fst ++ #[.func (.yield (w.heap.size + 1)) #[] #[]], (w.alloc (.deferred (some []))).alloc (.loop (rc .ready none)), ?_, ?_, fun _ _ => trivial, ?_, (fun h => by cases h), ?_⟩
  · rw [hrc]; exact run_enterLoop_outer _ _ _ _ _
  · simp only [resolve, hg]
    simp [go_sem]
  · simp [invoke, go_sem, eg]
  refine (callsIn_wide (n := n - 1)).2 ((hit (w.heap.size + 1)
    (fun pre W => Own w0 W (Held (R pre) (w.heap.size + 1) w.heap.size (rc .ready none)))
    (fun pre W => Own w0 W (Held (X pre) (w.heap.size + 1) w.heap.size (rc .done (some .ret)))) _
    (fun pre W h => hRd pre W _ h) ?_ hown).mono ?_)
  · intro pre x W hJ hpre
    have hl := Held.rec hJ
    have hy := run_yield (P := P) (args := #[enc x]) hl (by rw [hrc]; simp [hps])
    rw [hrc] at hy
    refine ⟨fn, _, assign, body, hy, roundIn_of_wpIn trivial ?_⟩
    refine Code.wpIn_mono ?_ (hassign (w.heap.size + 1) pre x W _ hpre hJ)
    intro e a1 W1 h1
    cases e <;> try exact h1.elim
    have h1 : Own w0 W1 (Held (A x a1 pre) (w.heap.size + 1) w.heap.size (rc .ready none)) := h1
    refine ⟨_, run_beginRound (Held.rec h1) (by rw [hrc]), ?_⟩
    refine Code.wpIn_mono ?_ (hbody (w.heap.size + 1) pre x a1 _ _ hpre (Held.turn h1 { rc .ready none with state := .busy }))
    intro e a2 W2 h2
    cases e <;> try exact h2.elim
    · have h2 : Own w0 W2 (Held (R (pre ++ [x])) (w.heap.size + 1) w.heap.size { rc .ready none with state := .busy }) := h2
      refine ⟨_, _, run_endRound none (Held.rec h2), .inl ⟨rfl, ?_⟩⟩
      have h3 := Held.turn h2 (rc .ready none)
      rw [hrc] at h3 ⊢
      exact h3
    · have h2 : Own w0 W2 (Held (X (pre ++ [x])) (w.heap.size + 1) w.heap.size { rc .ready none with state := .busy }) := h2
      refine ⟨_, _, run_endRound (some .ret) (Held.rec h2), .inr ⟨rfl, ?_⟩⟩
      have h3 := Held.turn h2 (rc .done (some .ret))
      rw [hrc] at h3 ⊢
      exact h3
  · rintro e W ⟨⟨v, rfl⟩, hJ | ⟨pre, hpre, hJ⟩⟩
    · have he := run_endLoop (P := P) (Held.rec hJ) (by rw [hrc]; simp)
      have h3 := Held.turn hJ { rc .ready none with state := .exhausted }
      rw [hrc] at he h3
      exact ⟨none, _, he, hdone _ _ h3.drop2⟩
    · have he := run_endLoop (P := P) (Held.rec hJ) (by rw [hrc]; simp)
      have h3 := Held.turn hJ { rc .done (some .ret) with state := .exhausted }
      rw [hrc] at he h3
      exact ⟨some .ret, _, he, wpIn_ret (hstop _ pre _ hpre h3.drop2)⟩

end Go.Proofs.Ytjmelhmjcbliaaa
