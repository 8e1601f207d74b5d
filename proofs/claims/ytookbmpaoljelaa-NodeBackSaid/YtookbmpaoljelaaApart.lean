/-
  Contract of the statements' Apart, for two slices that lie in rows of their own: it answers true, and changes nothing else.
-/
import Derived.Test.YtookbmpaoljelaaMemP
import Derived.Test.YtookbmpaoljelaaMem2
import Derived.ArgAppend
import Derived.OwnWalk
import Derived.Deep.DeepCutAuto
import Derived.Deep.CutBlock
namespace Go.Proofs.Ytookbmpaoljelaa
open Go Go.RowKit
set_option linter.unusedVariables false
set_option linter.unusedSimpArgs false
set_option maxRecDepth 100000

/-- Bytes in a row of their own, with its spare room. -/
def OwnB (v : Value) (xs : List UInt8) : Res := fun w F => w.ownsRow 0 5 1 v xs.length (u8s xs) ∧ ∀ k, F k ↔ v.ownBlock = some k
instance {v : Value} {xs : List UInt8} : Stab (OwnB v xs) where
  lt := fun h k hk => own_lt h.1 ((h.2 k).1 hk)
  keep := fun h hk => ⟨own_keepAt h.1 (fun k e => hk k ((h.2 k).2 e)), h.2⟩
/-- A slice whose n bytes are all c, and another one, of m, that has grown out of it. -/
def PairB (v : Value) (n : Nat) (x : Value) (m : Nat) (c : UInt8) : Res := fun w F => w.ownsRow 0 5 1 x m (u8s (List.replicate m c)) ∧ SlC w v (List.replicate n c) ∧ n ≤ m ∧
  ((v = .slice none 0 0 ∧ n = 0) ∨ ∃ g cv, v = .slice (some ⟨g, 0, none⟩) n cv ∧ g < w.heap.size) ∧ ∀ k, F k ↔ x.ownBlock = some k ∨ v.ownBlock = some k
theorem own_at {v : Value} {k : Nat} (h : v.ownBlock = some k) : ∃ a n c, v = .slice (some a) n c ∧ a.block = k := by
  unfold Value.ownBlock at h
  split at h
  · simp at h; exact ⟨_, _, _, rfl, h⟩
  · cases h
instance {v x : Value} {n m : Nat} {c : UInt8} : Stab (PairB v n x m c) where
  lt := by
    rintro w F ⟨h1, h2, h3, h4, h5⟩ k hk
    rcases (h5 k).1 hk with hk | hk
    · exact own_lt h1 hk
    · rcases h4 with ⟨rfl, _⟩ | ⟨g, cv, rfl, hg⟩
      · cases hk
      · simp [Value.ownBlock] at hk; omega
  keep := by
    rintro w w' F ⟨h1, h2, h3, h4, h5⟩ hk
    have hv : ∀ k, v.ownBlock = some k → w'.heap[k]? = w.heap[k]? := fun k e => hk k ((h5 k).2 (.inr e))
    refine ⟨own_keepAt h1 (fun k e => hk k ((h5 k).2 (.inl e))), ?_, h3, ?_, h5⟩
    · rcases h2 with h2 | ⟨a, cap, rfl, hc⟩
      · exact .inl h2
      · refine .inr ⟨a, cap, rfl, fun j hj => ?_⟩
        exact (World.cell?_of_block (show w'.heap[(a.add j).block]? = w.heap[(a.add j).block]? by rw [add_block]; exact hv a.block rfl)).trans (hc j hj)
    · rcases h4 with h4 | ⟨g, cv, rfl, hg⟩
      · exact .inl h4
      · have e := hv g rfl
        rw [Array.getElem?_eq_getElem hg] at e
        exact .inr ⟨g, cv, rfl, lt_of_some e⟩

theorem rep_drop (xs : List UInt8) (c : UInt8) {k : Nat} (hk : k < xs.length) : (List.replicate k c ++ xs.drop k).set k c = List.replicate (k + 1) c ++ xs.drop (k + 1) := by
  rw [List.set_append_right _ _ (by simp), List.length_replicate, Nat.sub_self, List.drop_eq_getElem_cons hk, List.set_cons_zero, List.replicate_succ', List.append_assoc]
  rfl
/-- A byte of such a row is written over. -/
theorem own_put {w0 w : World} {v : Value} {ys : List UInt8} {J : Res} [Stab J] (h : Own w0 w (Sep (OwnB v ys) J)) {k : Nat} (hk : k < ys.length) (c : UInt8) :
    ∃ g cap, v = .slice (some ⟨g, 0, none⟩) ys.length cap ∧ ys.length ≤ cap ∧ (∃ u, w.cell? ⟨g, k, none⟩ = some u) ∧ w.frozen? ⟨g, k, none⟩ = false ∧ Own w0 (w.setCell ⟨g, k, none⟩ (.int .u8 c.toNat)) (Sep (OwnB v (ys.set k c)) J) := by
  obtain ⟨F, ⟨A, B, hA, hB, hd, hF⟩, h2, h3⟩ := h
  have hA' := hA
  rcases hA.1.2 with ⟨rfl, h0⟩ | ⟨g, cap, cur, rfl, _, hg, hc, hm, hs, ht⟩
  · omega
  · have hAg : A g := (hA.2 g).2 rfl
    have hcell : w.cell? ⟨g, k, none⟩ = some (cur[k]'(by omega)) := by simp [World.cell?, hg]
    have hj : ∀ i, i ≠ g → (w.setCell ⟨g, k, none⟩ (.int .u8 c.toNat)).heap[i]? = w.heap[i]? := fun i hi => Below.heap_setCell _ _ _ _ hi
    refine ⟨g, cap, rfl, hc, ⟨_, hcell⟩, by simp [World.frozen?, hg], F, ⟨A, B, ⟨⟨by simp [u8s], .inr ⟨g, cap, cur.setIfInBounds k (.int .u8 c.toNat), by simp, Nat.zero_le _, heap_set hg k _, by simpa using hc, hm, by simpa using hs, ?_⟩⟩, hA.2⟩,
      Stab.keep hB (fun i hi => hj i (fun e => hd g hAg (e ▸ hi))), hd, hF⟩, h2, h3.trans (Only.cell w g k _) (fun i hi e => by have := h2 g ((hF g).2 (.inl hAg)); omega)⟩
    simp only [Nat.mul_one] at ht ⊢
    simp only [List.length_set, Array.toList_setIfInBounds]
    rw [List.take_set, ht]
    simp [u8s, List.map_set]
theorem pair_start {v : Value} {n : Nat} {c : UInt8} {w : World} {F : Nat → Prop} (h : OwnB v (List.replicate n c) w F) : PairB v n v n c w F := by
  obtain ⟨h1, h2⟩ := h
  simp only [List.length_replicate] at h1
  refine ⟨h1, ?_, Nat.le_refl _, ?_, fun k => by rw [h2]; simp⟩
  · rcases h1.2 with ⟨rfl, h0⟩ | ⟨g, cap, cur, rfl, _, hg, hc, hm, hs, ht⟩
    · subst h0; exact .inl ⟨rfl, rfl⟩
    · refine .inr ⟨⟨g, 0, none⟩, cap, by simp, fun j hj => ?_⟩
      simp at hj
      rw [add_lit, Nat.zero_add, h1.cellAt j (by simpa using hj)]
      exact u8s_at (by simpa using hj)
  · rcases h1.2 with ⟨rfl, h0⟩ | ⟨g, cap, cur, rfl, _, hg, _⟩
    · exact .inl ⟨rfl, h0⟩
    · exact .inr ⟨g, cap, rfl, lt_of_some hg⟩
/-- The longer one has grown by one: in its own row, or in a new one. -/
theorem pair_fits {w0 w w1 : World} {v : Value} {n m g cap : Nat} {c : UInt8} {J : Res} [Stab J] {o : Obj} (h : Own w0 w (Sep (PairB v n (.slice (some ⟨g, 0, none⟩) m cap) m c) J))
    (hown : w1.ownsRow 0 5 1 (.slice (some ⟨g, 0, none⟩) (m + 1) cap) (m + 1) (u8s (List.replicate (m + 1) c))) (hg : (w.alloc o).grownBy w1 (some g)) : Own w0 w1 (Sep (PairB v n (.slice (some ⟨g, 0, none⟩) (m + 1) cap) (m + 1) c) J) := by
  obtain ⟨F, ⟨A, B, ⟨a1, a2, a3, a4, a5⟩, hB, hd, hF⟩, h2, h3⟩ := h
  have ho : Only (fun k => k = g) w w1 := (((Only.refl (fun _ => False) w).alloc o).mono (T := fun k => k = g) (fun _ _ h => h.elim)).grown hg (fun k _ e => by simp at e; exact e.symm)
  have hAg : A g := (a5 g).2 (.inl rfl)
  refine ⟨F, ⟨A, B, ⟨hown, ?_, by omega, ?_, a5⟩, Stab.keep hB (fun i hi => ho.block i (Stab.lt hB i hi) (fun e => hd g hAg (e ▸ hi))), hd, hF⟩, h2, h3.trans ho (fun i hi e => by have := h2 g ((hF g).2 (.inl hAg)); omega)⟩
  · rcases a4 with ⟨rfl, rfl⟩ | ⟨gv, cv, rfl, hgv⟩
    · exact .inl ⟨rfl, rfl⟩
    · by_cases e : gv = g
      · subst e
        refine .inr ⟨⟨gv, 0, none⟩, cv, by simp, fun j hj => ?_⟩
        simp at hj
        rw [add_lit, Nat.zero_add, hown.cellAt j (by omega), u8s_at (by simp; omega)]
        simp [List.getD_eq_getElem?_getD, List.getElem?_replicate, hj, show j < m + 1 by omega]
      · rcases a2 with a2 | ⟨a, cap', e2, hc⟩
        · exact .inl a2
        · simp at e2
          obtain ⟨rfl, _, _⟩ := e2
          refine .inr ⟨⟨gv, 0, none⟩, cv, by simp, fun j hj => ?_⟩
          exact (World.cell?_of_block (show w1.heap[((⟨gv, 0, none⟩ : Addr).add j).block]? = w.heap[((⟨gv, 0, none⟩ : Addr).add j).block]? by rw [add_block]; exact ho.block gv hgv e)).trans (hc j hj)
  · rcases a4 with a4 | ⟨gv, cv, rfl, hgv⟩
    · exact .inl a4
    · exact .inr ⟨gv, cv, rfl, ho.lt hgv⟩
theorem pair_grows {w0 w w1 : World} {v x x' : Value} {n m : Nat} {c : UInt8} {J : Res} [Stab J] {o : Obj} (h : Own w0 w (Sep (PairB v n x m c) J))
    (hown : w1.ownsRow (w.alloc o).heap.size 5 1 x' (m + 1) (u8s (List.replicate (m + 1) c))) (hg : (w.alloc o).grownBy w1 none) : Own w0 w1 (Sep (PairB v n x' (m + 1) c) J) := by
  obtain ⟨F, ⟨A, B, ⟨a1, a2, a3, a4, a5⟩, hB, hd, hF⟩, h2, h3⟩ := h
  have ho : Only (fun _ => False) w w1 := ((Only.refl (fun _ => False) w).alloc o).grown hg (fun k _ e => by cases e)
  have hx : ∀ k, x'.ownBlock = some k → w.heap.size ≤ k := fun k e => by
    rcases hown.2 with ⟨rfl, _⟩ | ⟨g, cap, cur, rfl, hb, _⟩
    · cases e
    · simp [Value.ownBlock] at e; simp at hb; omega
  have hown0 : w1.ownsRow 0 5 1 x' (m + 1) (u8s (List.replicate (m + 1) c)) := by
    refine ⟨hown.1, ?_⟩
    rcases hown.2 with h0 | ⟨g, cap, cur, e, hb, rest⟩
    · exact .inl h0
    · exact .inr ⟨g, cap, cur, e, Nat.zero_le _, rest⟩
  refine ⟨fun k => (x'.ownBlock = some k ∨ v.ownBlock = some k) ∨ B k, ⟨fun k => x'.ownBlock = some k ∨ v.ownBlock = some k, B, ⟨hown0, a2.keep ho, by omega, ?_, fun _ => Iff.rfl⟩, Stab.keep hB (fun i hi => ho.block i (Stab.lt hB i hi) (fun h => h)), ?_, fun _ => Iff.rfl⟩, ?_, h3.trans ho (fun _ _ h => h)⟩
  · rcases a4 with a4 | ⟨gv, cv, rfl, hgv⟩
    · exact .inl a4
    · exact .inr ⟨gv, cv, rfl, ho.lt hgv⟩
  · rintro k (e | e) hk
    · have := hx k e; have := Stab.lt hB k hk; omega
    · exact hd k ((a5 k).2 (.inr e)) hk
  · rintro k ((e | e) | hk)
    · have := hx k e; have := h3.size; omega
    · exact h2 k ((hF k).2 (.inl ((a5 k).2 (.inr e))))
    · exact h2 k ((hF k).2 (.inr hk))
/-- A cell of a block of one's own is written over. -/
theorem blk_put {w0 w : World} {g : Nat} {cs : Array Value} {t : TypeId} {J : Res} [Stab J] (h : Own w0 w (Sep (Blk g (.cells cs t)) J)) (k : Nat) (u : Value) :
    Own w0 (w.setCell ⟨g, k, none⟩ u) (Sep (Blk g (.cells (cs.setIfInBounds k u) t)) J) := by
  obtain ⟨F, ⟨A, B, hA, hB, hd, hF⟩, h2, h3⟩ := h
  have hAg : A g := (hA.2 g).2 rfl
  exact ⟨F, ⟨A, B, ⟨heap_set hA.1 k u, hA.2⟩, Stab.keep hB (fun i hi => Below.heap_setCell _ _ _ _ (fun e => hd g hAg (by have e' : i = g := e; exact e' ▸ hi))), hd, hF⟩, h2, h3.trans (Only.cell w g k u) (fun i hi e => by have := h2 g ((hF g).2 (.inl hAg)); omega)⟩
theorem Own.blk {w0 w : World} {g : Nat} {o : Obj} {J : Res} (h : Own w0 w (Sep (Blk g o) J)) : w.heap[g]? = some o := by
  obtain ⟨F, h1, _⟩ := h.fst
  exact h1.1

/-- Where the walk stands: which of the two slices have been written over and grown. -/
def ApSt (w0 : World) (gl gL : Nat) (ol : Obj) (J : Res) (va : Value) (xs : List UInt8) (vb : Value) (ys : List UInt8) (s : Nat) (w : World) : Prop :=
  ∃ cs : Array Value, cs.size = 2 ∧
    ((s = 0 ∧ Own w0 w (Sep (OwnB va xs) (Sep (Blk gL (.cells cs 29)) (Sep (OwnB vb ys) (Sep (Blk gl ol) J))))) ∨
     (s = 1 ∧ ∃ xa, cs[0]? = some xa ∧ Own w0 w (Sep (OwnB vb ys) (Sep (Blk gL (.cells cs 29)) (Sep (PairB va xs.length xa (xs.length + 20) 1) (Sep (Blk gl ol) J))))) ∨
     (s = 2 ∧ ∃ xa xb, cs[0]? = some xa ∧ cs[1]? = some xb ∧ Own w0 w (Sep (PairB vb ys.length xb (ys.length + 20) 2) (Sep (Blk gL (.cells cs 29)) (Sep (PairB va xs.length xa (xs.length + 20) 1) (Sep (Blk gl ol) J))))))
theorem ApSt.round {w0 w : World} {gl gL s : Nat} {fr : Nat × Nat} {J : Res} {va vb : Value} {xs ys : List UInt8} (h : ApSt w0 gl gL (.cells #[va, vb] 29 fr) J va xs vb ys s w) (hs : s < 2) (hx : xs.length ≤ 1000000000) (hy : ys.length ≤ 1000000000) :
    ∃ (v : Value) (zs : List UInt8) (c : UInt8) (M : Res) (_ : Stab M) (cs : Array Value), cs.size = 2 ∧ (#[va, vb] : Array Value)[s]? = some v ∧ c.toNat = s + 1 ∧ zs.length ≤ 1000000000 ∧
      Own w0 w (Sep (OwnB v zs) (Sep (Blk gL (.cells cs 29)) (Sep M (Sep (Blk gl (.cells #[va, vb] 29 fr)) J)))) ∧
      ∀ w' x, Own w0 w' (Sep (PairB v zs.length x (zs.length + 20) c) (Sep (Blk gL (.cells (cs.setIfInBounds s x) 29)) (Sep M (Sep (Blk gl (.cells #[va, vb] 29 fr)) J)))) → ApSt w0 gl gL (.cells #[va, vb] 29 fr) J va xs vb ys (s + 1) w' := by
  obtain ⟨cs, hcs, ⟨rfl, h⟩ | ⟨rfl, xa, h0, h⟩ | ⟨rfl, _⟩⟩ := h
  · refine ⟨va, xs, 1, OwnB vb ys, inferInstance, cs, hcs, rfl, rfl, hx, h, fun w' x hw => ⟨cs.setIfInBounds 0 x, by simpa using hcs, .inr (.inl ⟨rfl, x, by simp [hcs], ?_⟩)⟩⟩
    exact hw.rot.swap.rot
  · refine ⟨vb, ys, 2, PairB va xs.length xa (xs.length + 20) 1, inferInstance, cs, hcs, rfl, rfl, hy, h, fun w' x hw => ⟨cs.setIfInBounds 1 x, by simpa using hcs, .inr (.inr ⟨rfl, xa, x, by rw [Array.getElem?_setIfInBounds_ne (by decide)]; exact h0, by simp [hcs], hw⟩)⟩⟩
  · omega
theorem ApSt.reads {w0 w : World} {gl gL s : Nat} {fr : Nat × Nat} {J : Res} {va vb : Value} {xs ys : List UInt8} (h : ApSt w0 gl gL (.cells #[va, vb] 29 fr) J va xs vb ys 2 w) (hs : s < 2) (hx : xs.length ≤ 1000000000) (hy : ys.length ≤ 1000000000) :
    ∃ (v x : Value) (n : Nat) (c : UInt8), n ≤ 1000000000 ∧ w.cell? ⟨gl, s, none⟩ = some v ∧ w.cell? ⟨gL, s, none⟩ = some x ∧ SlC w v (List.replicate n c) ∧ SlC w x (List.replicate (n + 20) c) ∧ c.toNat = s + 1 := by
  obtain ⟨cs, hcs, ⟨h0, _⟩ | ⟨h0, _⟩ | ⟨_, xa, xb, ha, hb, h⟩⟩ := h
  · omega
  · omega
  · have hl := h.snd.snd.snd.blk
    have hL := h.snd.blk
    obtain ⟨Fb, pb, _⟩ := h.fst
    obtain ⟨Fa, pa, _⟩ := h.snd.snd.fst
    have row : ∀ {x : Value} {m : Nat} {c : UInt8}, w.ownsRow 0 5 1 x m (u8s (List.replicate m c)) → SlC w x (List.replicate m c) := fun {x m c} ho => by
      rcases ho.2 with ⟨rfl, rfl⟩ | ⟨g, cap, cur, rfl, _⟩
      · exact .inl ⟨rfl, rfl⟩
      · refine .inr ⟨⟨g, 0, none⟩, cap, by simp, fun j hj => ?_⟩
        simp at hj
        rw [add_lit, Nat.zero_add, ho.cellAt j (by simpa using hj)]
        exact u8s_at (by simpa using hj)
    match s, hs with
    | 0, _ => exact ⟨va, xa, xs.length, 1, hx, by simp [World.cell?, hl], by simp [World.cell?, hL, ha], pa.2.1, row pa.1, rfl⟩
    | 1, _ => exact ⟨vb, xb, ys.length, 2, hy, by simp [World.cell?, hl], by simp [World.cell?, hL, hb], pb.2.1, row pb.1, rfl⟩

theorem ApSt.only {w0 w : World} {gl gL s : Nat} {ol : Obj} {J : Res} {va vb : Value} {xs ys : List UInt8} (h : ApSt w0 gl gL ol J va xs vb ys s w) : Only (fun _ => False) w0 w := by
  obtain ⟨cs, _, ⟨_, h⟩ | ⟨_, _, _, h⟩ | ⟨_, _, _, _, _, h⟩⟩ := h
  · exact h.only
  · exact h.only
  · exact h.only
/-- What lies beside both slices stays. -/
theorem ApSt.left {w0 w : World} {gl gL s : Nat} {ol : Obj} {J : Res} {va vb : Value} {xs ys : List UInt8} (h : ApSt w0 gl gL ol J va xs vb ys s w) : Own w0 w J := by
  obtain ⟨cs, _, ⟨_, h⟩ | ⟨_, _, _, h⟩ | ⟨_, _, _, _, _, h⟩⟩ := h
  · exact h.snd.snd.snd.snd
  · exact h.snd.snd.snd.snd
  · exact h.snd.snd.snd.snd
theorem slc_rep {w : World} {ao : Option Addr} {n m cp : Nat} {c : UInt8} (h : SlC w (.slice ao m cp) (List.replicate n c)) {j : Nat} (hj : j < n) : ∃ g off, ao = some ⟨g, off, none⟩ ∧ w.cell? ⟨g, off + j, none⟩ = some (.int .u8 (c.toNat : Int)) := by
  rcases h with ⟨_, h0⟩ | ⟨a, cap, e, hc⟩
  · have := congrArg List.length h0
    simp at this
    omega
  · simp at e
    obtain ⟨rfl, _, _⟩ := e
    have h0 := hc 0 (by simp; omega)
    have h1 := hc j (by simpa using hj)
    obtain ⟨b, off, spot⟩ := a
    have hspot : spot = none := by simpa [Addr.add] using World.cell?_spot h0
    subst hspot
    refine ⟨b, off, rfl, ?_⟩
    rw [← add_lit, h1]
    simp [List.getD_eq_getElem?_getD, List.getElem?_replicate, hj]

theorem Try.infoSlB : (Try.prog.info? 29).map (fun i => (i.zero, i.size, i.bytes)) = some (some (.slice none 0 0), 1, 24) := by kernel_rfl
theorem run_make2 (w : World) : (Instr.makeSlice 67 (.int .i64 2) (.int .i64 2)).run Try.prog w = .ok (.slice (some ⟨w.heap.size, 0, none⟩) 2 2) (w.alloc (.cells #[.slice none 0 0, .slice none 0 0] 29)) := by
  obtain ⟨i, hi, hz, hs, hb⟩ := info_parts Try.infoSlB
  have := run_make (P := Try.prog) w 67 29 i (.slice none 0 0) Try.underlying67 hi hz .i64 .i64 2 2 (by omega) (Int.le_refl _) (by rw [hb]; omega) (by omega)
  have e : madeCells #[Value.slice none 0 0] 2 = #[.slice none 0 0, .slice none 0 0] := Array.toList_inj.1 (by rw [toList_madeCells_one]; rfl)
  rw [this]
  simp only [hs, Value.cells, Nat.mul_one]
  exact congrArg (fun c => Result.ok (Value.slice (some ⟨w.heap.size, 0, none⟩) 2 2) (w.alloc (.cells c 29))) e

set_option maxRecDepth 100000 in
set_option maxHeartbeats 2000000 in
theorem apart_keep {w0 w : World} (va vb : Value) (xs ys : List UInt8) (gl : Nat) (fr : Nat × Nat) (J : Res) [Stab J] (h : Own w0 w (Sep (OwnB va xs) (Sep (OwnB vb ys) (Sep (Blk gl (.cells #[va, vb] 29 fr)) J)))) (hx : xs.length ≤ 1000000000) (hy : ys.length ≤ 1000000000) :
    Calls Try.prog 20 #[.slice (some ⟨gl, 0, none⟩) 2 2] w fun e w' => e = .returned (.bool true) ∧ Own w0 w' J := by
  have HS0 : Hid (ApSt w0 gl w.heap.size (.cells #[va, vb] 29 fr) J va xs vb ys 0 (w.alloc (.cells #[.slice none 0 0, .slice none 0 0] 29))) :=
    Lib.hid ⟨_, rfl, .inl ⟨rfl, (h.alloc (.cells #[.slice none 0 0, .slice none 0 0] 29)).swap⟩⟩
  have hmk := run_make2
  clear h
  go_enter Try.func20, Try.ntmps20
  go_upto_block 0 with fail
  obtain ⟨gL, hgL⟩ : ∃ gL, gL = w.heap.size := ⟨_, rfl⟩
  rw [← hgL] at HS0 ⊢
  clear hgL
  generalize w.alloc (.cells #[.slice none 0 0, .slice none 0 0] 29) = w1 at *
  clear hmk
  go_wp2_with fail
  go_loopw [4] (fun i wr => ∃ s : Nat, s ≤ 2 ∧ i = .int .i64 s ∧ Hid (ApSt w0 gl gL (.cells #[va, vb] 29 fr) J va xs vb ys s wr)) (fun i _ => 2 - (intOf i).toNat)
  case atStart => exact ⟨0, by omega, rfl, HS0⟩
  case round =>
    clear HS0
    obtain ⟨s, hs, rfl, HS⟩ := hrel
    by_cases hs2 : s < 2
    · obtain ⟨v, zs, c, M, iM, cs, hcs, hv, hc, hz, hO, hfin⟩ := HS.out.round hs2 hx hy
      have HFIN := Lib.hid hfin
      have HCS := Lib.hid hcs
      have HV := Lib.hid hv
      have hsI : (s : Int) < 2 := by omega
      have hs0 : (0 : Int) ≤ (s : Int) := by omega
      obtain ⟨n, hn⟩ : ∃ n, n = zs.length := ⟨_, rfl⟩
      have HN := Lib.hid hn
      rw [← hn] at hz
      have hw8 : IntKind.u8.wrap ((s : Int) + 1) = ((c.toNat : Nat) : Int) := by rw [IntKind.wrap_u8']; omega
      have HO0 := Lib.hid (show Own w0 wr (Sep (OwnB v (List.replicate 0 c ++ zs.drop 0)) (Sep (Blk gL (.cells cs 29)) (Sep M (Sep (Blk gl (.cells #[va, vb] 29 fr)) J)))) by simpa using hO)
      have HC := Lib.hid hc
      clear hfin hcs hv hn hO hc HS
      obtain ⟨FO, ⟨hown0, _⟩, _⟩ := HO0.out.fst
      have hlen0 : (List.replicate 0 c ++ zs.drop 0).length = n := by rw [HN.out]; simp
      rw [hlen0] at hown0
      obtain ⟨vo, vc, rfl⟩ := own_shape hown0
      clear hown0 hlen0
      have hlc := fun (W : World) (X : Res) (Y : Res) (Z : Res) (hW : Own w0 W (Sep X (Sep Y (Sep Z (Sep (Blk gl (.cells #[va, vb] 29 fr)) J))))) => (show W.cell? ⟨gl, s, none⟩ = some (.slice vo n vc) by
        have := hW.snd.snd.snd.blk
        simp only [World.cell?, this]
        rw [if_neg (by simp)]
        exact HV.out)
      have HLC := Lib.hid hlc
      clear hlc
      go_wp2_with fail
      go_loopw [5] (fun i wr => ∃ k : Nat, k ≤ n ∧ i = .int .i64 k ∧ Hid (Own w0 wr (Sep (OwnB (.slice vo n vc) (List.replicate k c ++ zs.drop k)) (Sep (Blk gL (.cells cs 29)) (Sep M (Sep (Blk gl (.cells #[va, vb] 29 fr)) J)))))) (fun i _ => n - (intOf i).toNat)
      case atStart => exact ⟨0, Nat.zero_le _, rfl, HO0⟩
      case round =>
        clear HO0
        obtain ⟨k, hk, rfl, HQ⟩ := hrel
        have hl := HLC.out _ _ _ _ HQ.out
        by_cases hlt : k < n
        · have hln : (List.replicate k c ++ zs.drop k).length = n := by rw [HN.out] at hlt ⊢; simp; omega
          obtain ⟨g, cap, hv, hcap, ⟨u, hu⟩, hf, hO⟩ := own_put HQ.out (k := k) (by omega) c
          rw [rep_drop zs c (by rw [← HN.out]; exact hlt)] at hO
          rw [hln] at hv hcap
          simp only [Value.slice.injEq] at hv
          obtain ⟨rfl, _, rfl⟩ := hv
          have hO' := Lib.hid hO
          have hltI : (k : Int) < (n : Int) := by omega
          have hk0 : (0 : Int) ≤ (k : Int) := by omega
          clear HQ hln hO
          go_wp2_with fail
          go_roundw
          case rel => exact ⟨k + 1, by omega, by go_num, hO'⟩
          case measure => simp [intOf]; omega
        · obtain rfl : k = n := by omega
          have hp := HQ.out
          have e0 : List.replicate k c ++ zs.drop k = List.replicate k c := by rw [List.drop_of_length_le (by rw [← HN.out]; exact Nat.le_refl _), List.append_nil]
          rw [e0] at hp
          have hP := (hp.imp fun _ h => h.imp (fun _ h => pair_start h) (fun _ h => h)).swap
          have hLc : wr.cell? ⟨gL, s, none⟩ = some (cs[s]'(by rw [HCS.out]; exact hs2)) := by
            have := hP.blk
            simp only [World.cell?, this]
            rw [if_neg (by simp), Array.getElem?_eq_getElem]
          have hLf : wr.frozen? ⟨gL, s, none⟩ = false := by simp [World.frozen?, hP.blk]
          have HP := Lib.hid (blk_put hP s (.slice vo k vc)).swap
          clear HQ hp e0 hP hlt hk
          go_upto_region 10 with fail
          have hfin2 := HFIN.out
          rw [← HN.out] at hfin2
          have HFIN2 := Lib.hid hfin2
          have HPQ : Hid (Own w0 (wr.setCell ⟨gL, s, none⟩ (.slice vo k vc)) (Sep (PairB (.slice vo k vc) k (.slice vo (k + 0) vc) (k + 0) c) (Sep (Blk gL (.cells (cs.setIfInBounds s (.slice vo (k + 0) vc)) 29)) (Sep M (Sep (Blk gl (.cells #[va, vb] 29 fr)) J))))) := HP
          clear hfin2 HFIN HP hLc hLf hl HLC HV
          generalize wr.setCell ⟨gL, s, none⟩ (.slice vo k vc) = w2 at *
          go_wp2_with fail
          go_loopw [6] (fun i wr => ∃ (q : Nat) (xo : Option Addr) (xc : Nat), q ≤ 20 ∧ i = .int .i64 q ∧ Hid (Own w0 wr (Sep (PairB (.slice vo k vc) k (.slice xo (k + q) xc) (k + q) c) (Sep (Blk gL (.cells (cs.setIfInBounds s (.slice xo (k + q) xc)) 29)) (Sep M (Sep (Blk gl (.cells #[va, vb] 29 fr)) J)))))) (fun i _ => 20 - (intOf i).toNat)
          case atStart => exact ⟨0, vo, vc, by omega, rfl, HPQ⟩
          case round =>
            clear HPQ
            obtain ⟨q, xo, xc, hq, rfl, HQ⟩ := hrel
            by_cases hq20 : q < 20
            · have hqI : (q : Int) < 20 := by omega
              have hq0 : (0 : Int) ≤ (q : Int) := by omega
              have hb := HQ.out.snd.blk
              have hsz : s < (cs.setIfInBounds s (Value.slice xo (k + q) xc)).size := by simp [HCS.out]; omega
              have hLx : wr.cell? ⟨gL, s, none⟩ = some (.slice xo (k + q) xc) := by
                simp only [World.cell?, hb]
                rw [if_neg (by simp)]
                simp [HCS.out, hs2]
              obtain ⟨FO, ⟨hown, _⟩, _⟩ := HQ.out.fst
              have HOWN := Lib.hid hown
              obtain ⟨i0, hi0, hz0, hz1, hz2⟩ := info_parts Try.infoU8
              have hnews : u8s (List.replicate (k + q) c) ++ [Value.int .u8 (c.toNat : Int)] = u8s (List.replicate (k + q + 1) c) := by rw [List.replicate_succ', u8s_append]; rfl
              have HNEWS := Lib.hid hnews
              have hput : ∀ (W : World) (y : Value), Own w0 W (Sep (PairB (.slice vo k vc) k y (k + (q + 1)) c) (Sep (Blk gL (.cells (cs.setIfInBounds s (.slice xo (k + q) xc)) 29)) (Sep M (Sep (Blk gl (.cells #[va, vb] 29 fr)) J)))) →
                  W.cell? ⟨gL, s, none⟩ = some (.slice xo (k + q) xc) ∧ W.frozen? ⟨gL, s, none⟩ = false ∧ Own w0 (W.setCell ⟨gL, s, none⟩ y) (Sep (PairB (.slice vo k vc) k y (k + (q + 1)) c) (Sep (Blk gL (.cells (cs.setIfInBounds s y) 29)) (Sep M (Sep (Blk gl (.cells #[va, vb] 29 fr)) J)))) := by
                intro W y hW
                have hbW := hW.snd.blk
                refine ⟨?_, by simp [World.frozen?, hbW], ?_⟩
                · simp only [World.cell?, hbW]
                  rw [if_neg (by simp)]
                  simp [HCS.out, hs2]
                · have := (blk_put hW.swap s y).swap
                  rw [Array.setIfInBounds_setIfInBounds] at this
                  exact this
              have HPUT := Lib.hid hput
              clear hb hsz hown hnews hput
              by_cases hfit : k + q + 1 ≤ xc
              · obtain ⟨gx, rfl⟩ : ∃ gx, xo = some ⟨gx, 0, none⟩ := by
                  rcases HOWN.out.2 with ⟨e, _⟩ | ⟨gx, cap, cur, e, _⟩
                  · simp at e; omega
                  · simp at e; exact ⟨gx, e.1⟩
                go_wp2_with (at_builtin; refine wpList_append_fits _ rfl (.tmp 53) (.tmp 57) 29 rfl 0 5 i0 1 Try.underlying29 hi0 hz1 gx (k + q) xc (u8s (List.replicate (k + q) c)) rfl (HOWN.out.alloc _) ⟨wr.heap.size, 0, none⟩ 1 1 [.int .u8 (c.toNat : Int)] rfl rfl (World.news_of_block (heap_alloc_new wr _)) (by intro u hu; rw [List.mem_singleton.1 hu]; rfl) hfit ?_; intro w5 hown5 hg5; rw [HNEWS.out] at hown5; have HN5 := Lib.hid (HPUT.out w5 _ (pair_fits HQ.out hown5 hg5)); have h5a := HN5.out.1; have h5b := HN5.out.2.1; clear hown5 hg5)
                go_roundw
                case rel => exact ⟨q + 1, some ⟨gx, 0, none⟩, xc, by omega, by go_num, Lib.hid HN5.out.2.2⟩
                case measure => simp [intOf]; omega
              · have hholds : ∀ b, xo = some b → ∀ j u, (u8s (List.replicate (k + q) c))[j]? = some u → (wr.alloc (.cells #[.int .u8 (c.toNat : Int)] 5)).cell? (b.add j) = some u := by
                  intro b e j u hu
                  have hal := HOWN.out.alloc (.cells #[.int .u8 (c.toNat : Int)] 5)
                  rcases HOWN.out.2 with ⟨e2, _⟩ | ⟨gx, cap, cur, e2, _⟩
                  · simp at e2; rw [e2.1] at e; cases e
                  · simp at e2
                    rw [e2.1] at e
                    simp at e
                    subst e
                    obtain ⟨rfl, rfl⟩ := e2
                    have hj : j < k + q := by
                      have := (List.getElem?_eq_some_iff.1 hu).1
                      simpa [u8s] using this
                    rw [add_lit, Nat.zero_add, hal.cellAt j (by simpa using hj)]
                    exact hu
                have hnone : xo = none → k + q = 0 ∧ xc = 0 := by
                  rintro rfl
                  rcases HOWN.out.2 with ⟨e2, h0⟩ | ⟨gx, cap, cur, e2, _⟩
                  · simp at e2; omega
                  · simp at e2
                have HH := Lib.hid hholds
                have HNN := Lib.hid hnone
                clear hholds hnone
                go_wp2_with (at_builtin; refine wpList_append_grows _ rfl (.tmp 53) (.tmp 57) 29 rfl 5 i0 (.int .u8 0) 1 1 Try.underlying29 hi0 hz0 hz1 hz2 rfl (by decide) xo (k + q) xc (u8s (List.replicate (k + q) c)) rfl HNN.out (by simp [u8s]) HH.out ⟨wr.heap.size, 0, none⟩ 1 1 [.int .u8 (c.toNat : Int)] rfl rfl (World.news_of_block (heap_alloc_new wr _)) (by intro u hu; rw [List.mem_singleton.1 hu]; rfl) (by omega) (by unfold maxLen; omega) (by omega) ?_; intro v' w5 hown5 hg5; rw [HNEWS.out] at hown5; obtain ⟨yo, yc, rfl⟩ := own_shape hown5; have HN5 := Lib.hid (HPUT.out w5 _ (pair_grows HQ.out hown5 hg5)); have h5a := HN5.out.1; have h5b := HN5.out.2.1; clear hown5 hg5)
                go_roundw
                case rel => exact ⟨q + 1, yo, yc, by omega, by go_num, Lib.hid HN5.out.2.2⟩
                case measure => simp [intOf]; omega
            · obtain rfl : q = 20 := by omega
              have HE := Lib.hid (HFIN2.out _ _ HQ.out)
              clear HQ HFIN2
              go_wp2_with fail
              go_roundw
              case rel => exact ⟨s + 1, by omega, by go_num, HE⟩
              case measure => simp [intOf]; omega
    · obtain rfl : s = 2 := by omega
      clear hs2 hs
      rw [show ((2 : Nat) : Int) = (2 : Int) from rfl]
      go_wp2_with fail
      go_loop [7] (fun i => ∃ s : Nat, s ≤ 2 ∧ i = .int .i64 s) (fun i => 2 - (intOf i).toNat)
      case atStart => exact ⟨0, by omega, rfl⟩
      case round =>
        obtain ⟨s, hs, rfl⟩ := hrel
        by_cases hs2 : s < 2
        · obtain ⟨v, x, n, c, hn, hl, hL, hv, hxx, hc⟩ := HS.out.reads hs2 hx hy
          have hw8 : IntKind.u8.wrap ((s : Int) + 1) = ((c.toNat : Nat) : Int) := by rw [IntKind.wrap_u8']; omega
          obtain ⟨vo, vc, rfl⟩ := hv.shape
          obtain ⟨xo, xc, rfl⟩ := hxx.shape
          rw [List.length_replicate] at hl hL
          have HV := Lib.hid hv
          have HX := Lib.hid hxx
          have hsI : (s : Int) < 2 := by omega
          have hs0 : (0 : Int) ≤ (s : Int) := by omega
          clear hv hxx hc
          go_wp2_with fail
          go_loop [8] (fun i => ∃ k : Nat, k ≤ n + 20 ∧ i = .int .i64 k) (fun i => n + 20 - (intOf i).toNat)
          case atStart => exact ⟨0, by omega, rfl⟩
          case round =>
            obtain ⟨k, hk, rfl⟩ := hrel
            by_cases hlt : k < n + 20
            · obtain ⟨g, off, rfl, hc⟩ := slc_rep HX.out hlt
              have hltI : (k : Int) < ((n + 20 : Nat) : Int) := by omega
              have hk0 : (0 : Int) ≤ (k : Int) := by omega
              go_wp2_with fail
              all_goals
                go_round
                case rel => exact ⟨k + 1, by omega, by go_num⟩
                case measure => simp [intOf]; omega
            · obtain rfl : k = n + 20 := by omega
              go_wp2_with fail
              go_loop [9] (fun i => ∃ k : Nat, k ≤ n ∧ i = .int .i64 k) (fun i => n - (intOf i).toNat)
              case atStart => exact ⟨0, by omega, rfl⟩
              case round =>
                obtain ⟨k, hk, rfl⟩ := hrel
                by_cases hlt2 : k < n
                · obtain ⟨g, off, rfl, hc⟩ := slc_rep HV.out hlt2
                  have hltI : (k : Int) < (n : Int) := by omega
                  have hk0 : (0 : Int) ≤ (k : Int) := by omega
                  go_wp2_with fail
                  all_goals
                    go_round
                    case rel => exact ⟨k + 1, by omega, by go_num⟩
                    case measure => simp [intOf]; omega
                · obtain rfl : k = n := by omega
                  go_wp2_with fail
                  go_round
                  case rel => exact ⟨s + 1, by omega, by go_num⟩
                  case measure => simp [intOf]; omega
        · obtain rfl : s = 2 := by omega
          have HO := Lib.hid HS.out.left
          go_wp2_with fail
          go_ret
          exact ⟨rfl, HO.out⟩
theorem apart_two {w0 w : World} (va vb : Value) (xs ys : List UInt8) (gl : Nat) (fr : Nat × Nat) (J : Res) [Stab J] (h : Own w0 w (Sep (OwnB va xs) (Sep (OwnB vb ys) (Sep (Blk gl (.cells #[va, vb] 29 fr)) J)))) (hx : xs.length ≤ 1000000000) (hy : ys.length ≤ 1000000000) :
    Calls Try.prog 20 #[.slice (some ⟨gl, 0, none⟩) 2 2] w fun e w' => e = .returned (.bool true) ∧ Only (fun _ => False) w0 w' :=
  (apart_keep va vb xs ys gl fr J h hx hy).mono fun e w' ⟨h1, h2⟩ => ⟨h1, h2.only⟩

end Go.Proofs.Ytookbmpaoljelaa
