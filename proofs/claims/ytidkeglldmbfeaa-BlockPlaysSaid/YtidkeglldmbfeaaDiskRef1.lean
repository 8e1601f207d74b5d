/-
  What the reference's disk looks like in memory: the two pictures, the writes that wait, and the sectors that they share; its calls Read and Fuse.
-/
import Derived.Test.YtidkeglldmbfeaaDiskCoh
import Derived.Test.YtidkeglldmbfeaaRaw
namespace Go.Proofs.Ytidkeglldmbfeaa
open Go Go.RowKit
set_option linter.unusedVariables false
set_option linter.unusedSimpArgs false
set_option maxRecDepth 100000

/-- A sector's slice. -/
def sl64 (b : Nat) : Value := .slice (some ⟨b, 0, none⟩) 64 64
def wputs (L : List (Nat × Nat)) : List Value := L.flatMap fun x => [.int .i64 x.1, sl64 x.2]
/-- Block b holds the bytes s. -/
def HasB (w : World) (b : Nat) (s : List UInt8) : Prop := w.heap[b]? = some (.cells (u8s s).toArray 5 (0, 0)) ∧ s.length = 64
theorem HasB.slc {w : World} {b : Nat} {s : List UInt8} (h : HasB w b s) : SlC w (sl64 b) s := by
  refine .inr ⟨⟨b, 0, none⟩, 64, by simp [sl64, h.2], fun j hj => ?_⟩
  rw [add_lit, Nat.zero_add]
  simp only [World.cell?, h.1]
  simpa using u8s_at hj

/-- The reference's disk in memory: its struct in block r, the rows of its two pictures (blocks gk and gs), the row of what waits; kb, sb and wb are the blocks of the sectors. -/
structure RefM (w : World) (r gk gs ck cs : Nat) (vw : Value) (f : Int) (dn : Bool) (wr sy n m : Nat) (kb sb : List Nat) (wb : List (Nat × Nat)) : Prop where
  at' : w.heap[r]? = some (.cells #[.slice (some ⟨gk, 0, none⟩) n ck, .slice (some ⟨gs, 0, none⟩) n cs, vw, .int .i64 f, .bool dn, .int .i64 wr, .int .i64 sy] 47 (0, 0))
  lk : kb.length = n
  ls : sb.length = n
  lw : wb.length = m
  kept : w.ownsRow 0 31 1 (.slice (some ⟨gk, 0, none⟩) n ck) n (kb.map sl64)
  seen : w.ownsRow 0 31 1 (.slice (some ⟨gs, 0, none⟩) n cs) n (sb.map sl64)
  row : w.ownsRow 0 73 2 vw m (wputs wb)
  ne : gk ≠ gs
structure RefAt (w : World) (r gk gs ck cs : Nat) (vw : Value) (f : Int) (kb sb : List Nat) (wb : List (Nat × Nat)) (D : DS) : Prop where
  ok : D.Ok
  m : RefM w r gk gs ck cs vw f D.down D.wr D.sy D.n D.W.length kb sb wb
  fuse : D.down = false → f = if D.fuse < 0 then -1 else D.fuse
  hk : ∀ j, j < D.n → HasB w (kb.getD j 0) (sec D.K j)
  hs : ∀ j, j < D.n → HasB w (sb.getD j 0) (sec D.N j)
  hw : ∀ j, j < D.W.length → (wb.getD j default).1 = (D.W.getD j default).1 ∧ HasB w (wb.getD j default).2 (D.W.getD j default).2

def RCore (r gk gs : Nat) (vw : Value) (k : Nat) : Prop := k = r ∨ k = gk ∨ k = gs ∨ vw.ownBlock = some k
theorem RefM.keep {w w' : World} {r gk gs ck cs : Nat} {vw : Value} {f : Int} {dn : Bool} {wr sy n m : Nat} {kb sb : List Nat} {wb : List (Nat × Nat)} (h : RefM w r gk gs ck cs vw f dn wr sy n m kb sb wb)
    (hk : ∀ k, RCore r gk gs vw k → w'.heap[k]? = w.heap[k]?) : RefM w' r gk gs ck cs vw f dn wr sy n m kb sb wb := by
  refine ⟨(hk r (.inl rfl)).trans h.at', h.lk, h.ls, h.lw, own_keepAt h.kept (fun k e => hk k ?_), own_keepAt h.seen (fun k e => hk k ?_), own_keepAt h.row (fun k e => hk k (.inr (.inr (.inr e)))), h.ne⟩
  · simp [Value.ownBlock] at e; exact .inr (.inl e.symm)
  · simp [Value.ownBlock] at e; exact .inr (.inr (.inl e.symm))
theorem RefM.lt {w : World} {r gk gs ck cs : Nat} {vw : Value} {f : Int} {dn : Bool} {wr sy n m : Nat} {kb sb : List Nat} {wb : List (Nat × Nat)} (h : RefM w r gk gs ck cs vw f dn wr sy n m kb sb wb) {k : Nat} (hk : RCore r gk gs vw k) : k < w.heap.size := by
  rcases hk with rfl | rfl | rfl | hk
  · exact lt_of_some h.at'
  · exact own_lt h.kept rfl
  · exact own_lt h.seen rfl
  · exact own_lt h.row hk
/-- A block of bytes is none of the struct's own. -/
theorem RefM.bytes {w : World} {r gk gs ck cs : Nat} {vw : Value} {f : Int} {dn : Bool} {wr sy n m : Nat} {kb sb : List Nat} {wb : List (Nat × Nat)} (h : RefM w r gk gs ck cs vw f dn wr sy n m kb sb wb) {k : Nat} {cu : Array Value} {fr : Nat × Nat} (hb : w.heap[k]? = some (.cells cu 5 fr)) : ¬ RCore r gk gs vw k := by
  rintro (rfl | rfl | rfl | hk)
  · rw [h.at'] at hb; simp at hb
  · exact own_type h.kept hb (by decide) rfl
  · exact own_type h.seen hb (by decide) rfl
  · exact own_type h.row hb (by decide) hk
theorem RefM.apart {w : World} {r gk gs ck cs : Nat} {vw : Value} {f : Int} {dn : Bool} {wr sy n m : Nat} {kb sb : List Nat} {wb : List (Nat × Nat)} (h : RefM w r gk gs ck cs vw f dn wr sy n m kb sb wb) : r ≠ gk ∧ r ≠ gs ∧ vw.ownBlock ≠ some r ∧ vw.ownBlock ≠ some gk ∧ vw.ownBlock ≠ some gs := by
  have hr := own_type h.kept h.at' (by decide)
  have hr2 := own_type h.seen h.at' (by decide)
  have hr3 := own_type h.row h.at' (by decide)
  refine ⟨fun e => hr (by simp [Value.ownBlock, e]), fun e => hr2 (by simp [Value.ownBlock, e]), hr3, ?_, ?_⟩
  · rcases h.kept.2 with ⟨e, _⟩ | ⟨g, cap, cur, e, _, hg, _⟩
    · cases e
    · simp at e
      obtain ⟨rfl, _⟩ := e
      exact own_type h.row hg (by decide)
  · rcases h.seen.2 with ⟨e, _⟩ | ⟨g, cap, cur, e, _, hg, _⟩
    · cases e
    · simp at e
      obtain ⟨rfl, _⟩ := e
      exact own_type h.row hg (by decide)
/-- A store of a number or a flag into the struct. -/
theorem RefM.set {w : World} {r gk gs ck cs : Nat} {vw : Value} {f f' : Int} {dn dn' : Bool} {wr sy wr' sy' n m : Nat} {kb sb : List Nat} {wb : List (Nat × Nat)} (h : RefM w r gk gs ck cs vw f dn wr sy n m kb sb wb) (j : Nat) (u : Value)
    (hc : (#[.slice (some ⟨gk, 0, none⟩) n ck, .slice (some ⟨gs, 0, none⟩) n cs, vw, .int .i64 f, .bool dn, .int .i64 wr, .int .i64 sy] : Array Value).setIfInBounds j u =
      #[.slice (some ⟨gk, 0, none⟩) n ck, .slice (some ⟨gs, 0, none⟩) n cs, vw, .int .i64 f', .bool dn', .int .i64 wr', .int .i64 sy']) : RefM (w.setCell ⟨r, j, none⟩ u) r gk gs ck cs vw f' dn' wr' sy' n m kb sb wb := by
  obtain ⟨n1, n2, n3, _, _⟩ := h.apart
  have hk : ∀ k, k ≠ r → (w.setCell ⟨r, j, none⟩ u).heap[k]? = w.heap[k]? := fun k hk => Below.heap_setCell _ _ _ _ hk
  refine ⟨by rw [heap_set h.at', hc], h.lk, h.ls, h.lw, own_keepAt h.kept (fun k e => hk k ?_), own_keepAt h.seen (fun k e => hk k ?_), own_keepAt h.row (fun k e => hk k (fun e2 => n3 (e2 ▸ e))), h.ne⟩
  · rintro rfl; simp [Value.ownBlock] at e; exact n1 e.symm
  · rintro rfl; simp [Value.ownBlock] at e; exact n2 e.symm
/-- What waits is put aside. -/
theorem RefM.calm {w : World} {r gk gs ck cs : Nat} {vw : Value} {f : Int} {dn : Bool} {wr sy n m : Nat} {kb sb : List Nat} {wb : List (Nat × Nat)} (h : RefM w r gk gs ck cs vw f dn wr sy n m kb sb wb) :
    RefM (w.setCell ⟨r, 2, none⟩ (.slice none 0 0)) r gk gs ck cs (.slice none 0 0) f dn wr sy n 0 kb sb [] := by
  obtain ⟨n1, n2, n3, _, _⟩ := h.apart
  have hk : ∀ k, k ≠ r → (w.setCell ⟨r, 2, none⟩ (.slice none 0 0)).heap[k]? = w.heap[k]? := fun k hk => Below.heap_setCell _ _ _ _ hk
  refine ⟨by rw [heap_set h.at']; rfl, h.lk, h.ls, rfl, own_keepAt h.kept (fun k e => hk k ?_), own_keepAt h.seen (fun k e => hk k ?_), ⟨rfl, .inl ⟨rfl, rfl⟩⟩, h.ne⟩
  · rintro rfl; simp [Value.ownBlock] at e; exact n1 e.symm
  · rintro rfl; simp [Value.ownBlock] at e; exact n2 e.symm
theorem own_cell_put {w : World} {B : Nat} {t : TypeId} {g n cap : Nat} {xs : List Value} (h : w.ownsRow B t 1 (.slice (some ⟨g, 0, none⟩) n cap) n xs) {k : Nat} (hk : k < n) (u : Value) :
    (w.setCell ⟨g, k, none⟩ u).ownsRow B t 1 (.slice (some ⟨g, 0, none⟩) n cap) n (xs.set k u) ∧ w.frozen? ⟨g, k, none⟩ = false := by
  obtain ⟨hl, hr⟩ := h
  rcases hr with ⟨e, _⟩ | ⟨g', cap', cur, e, hb, hg, hc, hm, hs, ht⟩
  · cases e
  · simp at e
    obtain ⟨rfl, rfl⟩ := e
    refine ⟨⟨by simpa using hl, .inr ⟨g, cap, cur.setIfInBounds k u, rfl, hb, heap_set hg k u, hc, hm, by simpa using hs, ?_⟩⟩, by simp [World.frozen?, hg]⟩
    simp only [Array.toList_setIfInBounds]
    rw [List.take_set, ht]
theorem RefM.putKept {w : World} {r gk gs ck cs : Nat} {vw : Value} {f : Int} {dn : Bool} {wr sy n m : Nat} {kb sb : List Nat} {wb : List (Nat × Nat)} (h : RefM w r gk gs ck cs vw f dn wr sy n m kb sb wb) {j : Nat} (hj : j < n) (b : Nat) :
    RefM (w.setCell ⟨gk, j, none⟩ (sl64 b)) r gk gs ck cs vw f dn wr sy n m (kb.set j b) sb wb ∧ w.frozen? ⟨gk, j, none⟩ = false := by
  obtain ⟨n1, n2, n3, n4, n5⟩ := h.apart
  have hk : ∀ k, k ≠ gk → (w.setCell ⟨gk, j, none⟩ (sl64 b)).heap[k]? = w.heap[k]? := fun k hk => Below.heap_setCell _ _ _ _ hk
  obtain ⟨h1, h2⟩ := own_cell_put h.kept hj (sl64 b)
  refine ⟨⟨(hk r n1).trans h.at', by simpa using h.lk, h.ls, h.lw, by rw [List.map_set]; exact h1, own_keepAt h.seen (fun k e => hk k ?_), own_keepAt h.row (fun k e => hk k (fun e2 => n4 (e2 ▸ e))), h.ne⟩, h2⟩
  rintro rfl; simp [Value.ownBlock] at e; exact h.ne e.symm
theorem RefM.putSeen {w : World} {r gk gs ck cs : Nat} {vw : Value} {f : Int} {dn : Bool} {wr sy n m : Nat} {kb sb : List Nat} {wb : List (Nat × Nat)} (h : RefM w r gk gs ck cs vw f dn wr sy n m kb sb wb) {j : Nat} (hj : j < n) (b : Nat) :
    RefM (w.setCell ⟨gs, j, none⟩ (sl64 b)) r gk gs ck cs vw f dn wr sy n m kb (sb.set j b) wb ∧ w.frozen? ⟨gs, j, none⟩ = false := by
  obtain ⟨n1, n2, n3, n4, n5⟩ := h.apart
  have hk : ∀ k, k ≠ gs → (w.setCell ⟨gs, j, none⟩ (sl64 b)).heap[k]? = w.heap[k]? := fun k hk => Below.heap_setCell _ _ _ _ hk
  obtain ⟨h1, h2⟩ := own_cell_put h.seen hj (sl64 b)
  refine ⟨⟨(hk r n2).trans h.at', h.lk, by simpa using h.ls, h.lw, own_keepAt h.kept (fun k e => hk k ?_), by rw [List.map_set]; exact h1, own_keepAt h.row (fun k e => hk k (fun e2 => n5 (e2 ▸ e))), h.ne⟩, h2⟩
  rintro rfl; simp [Value.ownBlock] at e; exact h.ne e

def RFoot (r gk gs : Nat) (vw : Value) (kb sb : List Nat) (wb : List (Nat × Nat)) (k : Nat) : Prop := k = r ∨ k = gk ∨ k = gs ∨ vw.ownBlock = some k ∨ k ∈ kb ∨ k ∈ sb ∨ k ∈ wb.map (·.2)
def RefR (r : Nat) (D : DS) : Res := fun w F => ∃ gk gs ck cs vw f kb sb wb, RefAt w r gk gs ck cs vw f kb sb wb D ∧ ∀ k, F k ↔ RFoot r gk gs vw kb sb wb k

theorem at_mem {α : Type} {l : List α} {x d : α} (h : x ∈ l) : ∃ j, j < l.length ∧ l.getD j d = x := by
  obtain ⟨j, hj, rfl⟩ := List.getElem_of_mem h
  exact ⟨j, hj, by simp [List.getD_eq_getElem?_getD, hj]⟩
theorem mem_at {α : Type} {l : List α} {j : Nat} {d : α} (h : j < l.length) : l.getD j d ∈ l := by
  simp [List.getD_eq_getElem?_getD, h]
theorem RefAt.keep {w w' : World} {r gk gs ck cs : Nat} {vw : Value} {f : Int} {kb sb : List Nat} {wb : List (Nat × Nat)} {D : DS} (h : RefAt w r gk gs ck cs vw f kb sb wb D)
    (hk : ∀ k, RFoot r gk gs vw kb sb wb k → w'.heap[k]? = w.heap[k]?) : RefAt w' r gk gs ck cs vw f kb sb wb D := by
  refine ⟨h.ok, h.m.keep (fun k e => hk k ?_), h.fuse, fun j hj => ⟨(hk _ ?_).trans (h.hk j hj).1, (h.hk j hj).2⟩, fun j hj => ⟨(hk _ ?_).trans (h.hs j hj).1, (h.hs j hj).2⟩, fun j hj => ⟨(h.hw j hj).1, (hk _ ?_).trans (h.hw j hj).2.1, (h.hw j hj).2.2⟩⟩
  · rcases e with e | e | e | e
    · exact .inl e
    · exact .inr (.inl e)
    · exact .inr (.inr (.inl e))
    · exact .inr (.inr (.inr (.inl e)))
  · exact .inr (.inr (.inr (.inr (.inl (mem_at (by rw [h.m.lk]; exact hj))))))
  · exact .inr (.inr (.inr (.inr (.inr (.inl (mem_at (by rw [h.m.ls]; exact hj)))))))
  · exact .inr (.inr (.inr (.inr (.inr (.inr (List.mem_map.2 ⟨_, mem_at (by rw [h.m.lw]; exact hj), rfl⟩))))))
theorem RefAt.lt {w : World} {r gk gs ck cs : Nat} {vw : Value} {f : Int} {kb sb : List Nat} {wb : List (Nat × Nat)} {D : DS} (h : RefAt w r gk gs ck cs vw f kb sb wb D) {k : Nat} (hk : RFoot r gk gs vw kb sb wb k) : k < w.heap.size := by
  rcases hk with rfl | rfl | rfl | hk | hk | hk | hk
  · exact lt_of_some h.m.at'
  · exact own_lt h.m.kept rfl
  · exact own_lt h.m.seen rfl
  · exact own_lt h.m.row hk
  · obtain ⟨j, hj, e⟩ := at_mem (d := 0) hk
    have := (h.hk j (by rw [← h.m.lk]; exact hj)).1
    rw [e] at this
    exact lt_of_some this
  · obtain ⟨j, hj, e⟩ := at_mem (d := 0) hk
    have := (h.hs j (by rw [← h.m.ls]; exact hj)).1
    rw [e] at this
    exact lt_of_some this
  · obtain ⟨x, hx, rfl⟩ := List.mem_map.1 hk
    obtain ⟨j, hj, e⟩ := at_mem (d := default) hx
    have := (h.hw j (by rw [← h.m.lw]; exact hj)).2.1
    rw [e] at this
    exact lt_of_some this
instance {r : Nat} {D : DS} : Stab (RefR r D) where
  lt := by
    rintro w F ⟨gk, gs, ck, cs, vw, f, kb, sb, wb, h, hF⟩ k hk
    exact h.lt ((hF k).1 hk)
  keep := by
    rintro w w' F ⟨gk, gs, ck, cs, vw, f, kb, sb, wb, h, hF⟩ hk
    exact ⟨gk, gs, ck, cs, vw, f, kb, sb, wb, h.keep (fun k e => hk k ((hF k).2 e)), hF⟩

theorem RefAt.cell {w : World} {r gk gs ck cs : Nat} {vw : Value} {f : Int} {kb sb : List Nat} {wb : List (Nat × Nat)} {D : DS} (h : RefAt w r gk gs ck cs vw f kb sb wb D) (j : Nat) :
    w.cell? ⟨r, j, none⟩ = (#[.slice (some ⟨gk, 0, none⟩) D.n ck, .slice (some ⟨gs, 0, none⟩) D.n cs, vw, .int .i64 f, .bool D.down, .int .i64 D.wr, .int .i64 D.sy] : Array Value)[j]? := by
  simp [World.cell?, h.m.at']
theorem RefAt.free {w : World} {r gk gs ck cs : Nat} {vw : Value} {f : Int} {kb sb : List Nat} {wb : List (Nat × Nat)} {D : DS} (h : RefAt w r gk gs ck cs vw f kb sb wb D) (j : Nat) : w.frozen? ⟨r, j, none⟩ = false := by
  simp [World.frozen?, h.m.at']
theorem RefAt.seenAt {w : World} {r gk gs ck cs : Nat} {vw : Value} {f : Int} {kb sb : List Nat} {wb : List (Nat × Nat)} {D : DS} (h : RefAt w r gk gs ck cs vw f kb sb wb D) {j : Nat} (hj : j < D.n) : w.cell? ⟨gs, j, none⟩ = some (sl64 (sb.getD j 0)) := by
  rw [h.m.seen.cellAt j (by simpa using hj)]
  simp [List.getD_eq_getElem?_getD, h.m.ls, hj]
theorem RefAt.keptAt {w : World} {r gk gs ck cs : Nat} {vw : Value} {f : Int} {kb sb : List Nat} {wb : List (Nat × Nat)} {D : DS} (h : RefAt w r gk gs ck cs vw f kb sb wb D) {j : Nat} (hj : j < D.n) : w.cell? ⟨gk, j, none⟩ = some (sl64 (kb.getD j 0)) := by
  rw [h.m.kept.cellAt j (by simpa using hj)]
  simp [List.getD_eq_getElem?_getD, h.m.lk, hj]

end Go.Proofs.Ytidkeglldmbfeaa
