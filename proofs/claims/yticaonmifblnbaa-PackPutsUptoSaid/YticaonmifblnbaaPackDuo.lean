/-
  The program's Out and the document's, side by side: what a put into the one leaves of the other.
-/
import Derived.Test.YticaonmifblnbaaPackROut2
import Derived.Test.YticaonmifblnbaaPackArg
namespace Go.Proofs.Yticaonmifblnbaa
open Go Go.RowKit Go.Lib
set_option linter.unusedVariables false

theorem R.OutV.rowne {w : World} {p b : Nat} {v : Value} {xs : List UInt8} (h : R.OutV w p v xs) {cs : Array Value} {t : TypeId} {fr : Nat × Nat} (hb : w.heap[b]? = some (.cells cs t fr)) (ht : t ≠ 5) : v.ownBlock ≠ some b := by
  intro e
  rcases h.own.2 with ⟨rfl, _⟩ | ⟨g, cap, cur, rfl, _, hg, _⟩
  · simp [Value.ownBlock] at e
  · simp [Value.ownBlock] at e
    subst e
    rw [hg] at hb
    simp at hb
    exact ht hb.2.1.symm
theorem R.OutV.keep {S : Nat → Prop} {w w' : World} {p : Nat} {v : Value} {xs : List UInt8} (h : R.OutV w p v xs) (ho : Only S w w') (hp : ¬ S p) (hv : ∀ g, v.ownBlock = some g → ¬ S g) : R.OutV w' p v xs := by
  refine ⟨ho.keep h.at' hp, h.own.1, ?_⟩
  rcases h.own.2 with h0 | ⟨g, cap, cur, rfl, hb, hg, rest⟩
  · exact .inl h0
  · exact .inr ⟨g, cap, cur, rfl, hb, ho.keep hg (hv g rfl), rest⟩

/-- The program's Out in block p holds xs, the document's in block r holds ys; both made since w0. -/
structure Duo (w0 w : World) (p : Nat) (xs : List UInt8) (r : Nat) (ys : List UInt8) : Prop where
  ex : ∃ vp vr, OutV w p vp xs ∧ R.OutV w r vr ys ∧ (∀ g, vp.ownBlock = some g → w0.heap.size ≤ g) ∧ (∀ g, vr.ownBlock = some g → w0.heap.size ≤ g) ∧ (∀ g, vp.ownBlock = some g → vr.ownBlock ≠ some g)
  gp : w0.heap.size ≤ p
  gr : w0.heap.size ≤ r
  only : Only (fun _ => False) w0 w

theorem Duo.quiet {w0 w w' : World} {p r : Nat} {xs ys : List UInt8} (h : Duo w0 w p xs r ys) (ho : Only (fun _ => False) w w') : Duo w0 w' p xs r ys := by
  obtain ⟨vp, vr, hP, hR, h1, h2, h3⟩ := h.ex
  exact ⟨⟨vp, vr, hP.keep ho (fun h => h) (fun _ _ h => h), hR.keep ho (fun h => h) (fun _ _ h => h), h1, h2, h3⟩, h.gp, h.gr, h.only.trans ho (fun _ _ h => h)⟩

theorem duo_new (w : World) : Duo w ((w.alloc (.cells #[.slice none 0 0] 42)).alloc (.cells #[.slice none 0 0] 65)) w.heap.size [] (w.heap.size + 1) [] := by
  have hs : (w.alloc (.cells #[.slice none 0 0] 42)).heap.size = w.heap.size + 1 := by simp
  have hb : R.OutV ((w.alloc (.cells #[.slice none 0 0] 42)).alloc (.cells #[.slice none 0 0] 65)) (w.alloc (.cells #[.slice none 0 0] 42)).heap.size (.slice none 0 0) [] := ⟨heap_alloc_new _ _, World.ownsRow_nil _ _ _ _⟩
  rw [hs] at hb
  refine ⟨⟨_, _, (OutV.new w).keep ((Only.refl (fun _ => False) _).alloc _) (fun h => h) (fun _ _ h => h), hb, ?_, ?_, ?_⟩, Nat.le_refl _, by omega, ((Only.refl (fun _ => False) w).alloc _).alloc _⟩
  all_goals (intro g hg; simp [Value.ownBlock] at hg)

theorem Duo.putP {w0 w w' : World} {p r : Nat} {xs ys zs : List UInt8} {vp vr v' : Value} (h : Duo w0 w p xs r ys) (hP : OutV w p vp xs) (hR : R.OutV w r vr ys)
    (h1 : ∀ g, vp.ownBlock = some g → w0.heap.size ≤ g) (h2 : ∀ g, vr.ownBlock = some g → w0.heap.size ≤ g) (h3 : ∀ g, vp.ownBlock = some g → vr.ownBlock ≠ some g)
    (hV : OutV w' p v' zs) (hr : v'.ownBlock = vp.ownBlock ∨ ∃ g, v'.ownBlock = some g ∧ w.heap.size ≤ g) (ho : Only (OutS p vp) w w') : Duo w0 w' p zs r ys := by
  have hne : r ≠ p := fun e => by have a := hP.at'; have b := hR.at'; rw [e, a] at b; simp at b
  have hrl : ∀ g, vr.ownBlock = some g → g < w.heap.size := fun g hg => (hR.own.lt g hg).2
  refine ⟨⟨v', vr, hV, hR.keep ho (fun hs => ?_) (fun g hg hs => ?_), fun g hg => ?_, h2, fun g hg e => ?_⟩, h.gp, h.gr, h.only.trans ho (fun k hk hs => ?_)⟩
  · rcases hs with e | hs
    · exact hne e
    · exact hP.rowne hR.at' (by decide) hs
  · rcases hs with rfl | hs
    · exact hR.rowne hP.at' (by decide) hg
    · exact h3 g hs hg
  · rcases hr with hr | ⟨g', hg', hge⟩
    · exact h1 g (hr ▸ hg)
    · rw [hg'] at hg; simp at hg; have := h.only.size; omega
  · rcases hr with hr | ⟨g', hg', hge⟩
    · exact h3 g (hr ▸ hg) e
    · rw [hg'] at hg; simp at hg; have := hrl g e; omega
  · rcases hs with rfl | hs
    · have := h.gp; omega
    · have := h1 k hs; omega

theorem Duo.putR {w0 w w' : World} {p r : Nat} {xs ys zs : List UInt8} {vp vr v' : Value} (h : Duo w0 w p xs r ys) (hP : OutV w p vp xs) (hR : R.OutV w r vr ys)
    (h1 : ∀ g, vp.ownBlock = some g → w0.heap.size ≤ g) (h2 : ∀ g, vr.ownBlock = some g → w0.heap.size ≤ g) (h3 : ∀ g, vp.ownBlock = some g → vr.ownBlock ≠ some g)
    (hV : R.OutV w' r v' zs) (hr : v'.ownBlock = vr.ownBlock ∨ ∃ g, v'.ownBlock = some g ∧ w.heap.size ≤ g) (ho : Only (OutS r vr) w w') : Duo w0 w' p xs r zs := by
  have hne : p ≠ r := fun e => by have a := hP.at'; have b := hR.at'; rw [← e, a] at b; simp at b
  have hpl : ∀ g, vp.ownBlock = some g → g < w.heap.size := fun g hg => (hP.own.lt g hg).2
  refine ⟨⟨vp, v', hP.keep ho (fun hs => ?_) (fun g hg hs => ?_), hV, h1, fun g hg => ?_, fun g hg e => ?_⟩, h.gp, h.gr, h.only.trans ho (fun k hk hs => ?_)⟩
  · rcases hs with e | hs
    · exact hne e
    · exact hR.rowne hP.at' (by decide) hs
  · rcases hs with rfl | hs
    · exact hP.rowne hR.at' (by decide) hg
    · exact h3 g hg hs
  · rcases hr with hr | ⟨g', hg', hge⟩
    · exact h2 g (hr ▸ hg)
    · rw [hg'] at hg; simp at hg; have := h.only.size; omega
  · rcases hr with hr | ⟨g', hg', hge⟩
    · exact h3 g hg (hr ▸ e)
    · rw [hg'] at e; simp at e; have := hpl g hg; omega
  · rcases hs with rfl | hs
    · have := h.gr; omega
    · have := h2 k hs; omega

/-- A put into the program's Out, with the document's beside it. -/
theorem Duo.callP {w0 w : World} {p r : Nat} {xs ys zs : List UInt8} (h : Duo w0 w p xs r ys) {f : FuncId} {args : Array Value} (hc : ∀ v, OutV w p v xs → Calls Try.prog f args w (PutPost w p v zs)) :
    Calls Try.prog f args w fun e w' => e = .returned (.tuple #[]) ∧ Duo w0 w' p zs r ys := by
  obtain ⟨vp, vr, hP, hR, h1, h2, h3⟩ := h.ex
  refine (hc vp hP).mono ?_
  rintro e w' ⟨rfl, v', hV, hr, ho⟩
  exact ⟨rfl, h.putP hP hR h1 h2 h3 hV hr ho⟩
theorem Duo.callR {w0 w : World} {p r : Nat} {xs ys zs : List UInt8} (h : Duo w0 w p xs r ys) {f : FuncId} {args : Array Value} (hc : ∀ v, R.OutV w r v ys → Calls Try.prog f args w (R.PutPost w r v zs)) :
    Calls Try.prog f args w fun e w' => e = .returned (.tuple #[]) ∧ Duo w0 w' p xs r zs := by
  obtain ⟨vp, vr, hP, hR, h1, h2, h3⟩ := h.ex
  refine (hc vr hR).mono ?_
  rintro e w' ⟨rfl, v', hV, hr, ho⟩
  exact ⟨rfl, h.putR hP hR h1 h2 h3 hV hr ho⟩

/-- The text's answer and what it leaves, short or long, on both sides alike. -/
def fitB (s : ByteArray) : Bool := decide (s.size ≤ 65535)
def txF (s : ByteArray) : List UInt8 := if fitB s then txtB s.data.toList else []
theorem Duo.textP {w0 w : World} {p r : Nat} {xs ys : List UInt8} (h : Duo w0 w p xs r ys) (s : ByteArray) (hl : xs.length + 2 + s.size ≤ 140737488355328) :
    Calls Try.prog 25 #[.pointer (some ⟨p, 0, none⟩), .string s] w fun e w' => e = .returned (.bool (fitB s)) ∧ Duo w0 w' p (xs ++ txF s) r ys := by
  obtain ⟨vp, vr, hP, hR, h1, h2, h3⟩ := h.ex
  by_cases hs : s.size ≤ 65535
  · have e1 : fitB s = true := decide_eq_true hs
    refine (outText p s vp xs w hP hs hl).mono ?_
    rintro e w' ⟨rfl, v', hV, hr, ho⟩
    exact ⟨by rw [e1], by rw [txF, e1, if_pos rfl]; exact h.putP hP hR h1 h2 h3 hV hr ho⟩
  · have e1 : fitB s = false := decide_eq_false hs
    refine (outText_long p s w (by omega)).mono ?_
    rintro e w' ⟨rfl, rfl⟩
    exact ⟨by rw [e1], by rw [txF, e1]; simpa using h⟩
theorem Duo.textR {w0 w : World} {p r : Nat} {xs ys : List UInt8} (h : Duo w0 w p xs r ys) (s : ByteArray) (hl : ys.length + 2 + s.size ≤ 140737488355328) :
    Calls Try.prog 37 #[.pointer (some ⟨r, 0, none⟩), .string s] w fun e w' => e = .returned (.bool (fitB s)) ∧ Duo w0 w' p xs r (ys ++ txF s) := by
  obtain ⟨vp, vr, hP, hR, h1, h2, h3⟩ := h.ex
  by_cases hs : s.size ≤ 65535
  · have e1 : fitB s = true := decide_eq_true hs
    refine (R.outText r s vr ys w hR hs hl).mono ?_
    rintro e w' ⟨rfl, v', hV, hr, ho⟩
    exact ⟨by rw [e1], by rw [txF, e1, if_pos rfl]; exact h.putR hP hR h1 h2 h3 hV hr ho⟩
  · have e1 : fitB s = false := decide_eq_false hs
    refine (R.outText_long r s w (by omega)).mono ?_
    rintro e w' ⟨rfl, rfl⟩
    exact ⟨by rw [e1], by rw [txF, e1]; simpa using h⟩

end Go.Proofs.Yticaonmifblnbaa
