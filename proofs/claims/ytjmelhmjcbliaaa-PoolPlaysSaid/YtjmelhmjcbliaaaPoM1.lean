/-
  Package pool: its places, its row, its map and its back as parts of memory.
-/
import Derived.Test.YtjmelhmjcbliaaaPoSt
namespace Go.Proofs.Ytjmelhmjcbliaaa
open Go Go.RowKit
open Go.Maps (Keyed int_keyed keyOf_int_mk)
set_option linter.unusedVariables false
set_option linter.unusedSimpArgs false
set_option maxRecDepth 100000

abbrev kd (i : Int) : Lit := .int .u64 i
/-- How a node in the map reads: as itself. -/
def Rv (v : Value) : Option (DataW Value × List MemPlace) := some (.held v, [])
theorem kU64 : Keyed Try.prog 34 := int_keyed Try.underlying34
theorem wf_kd {i : Int} (h0 : 0 ≤ i) (h1 : i < 18446744073709551616) : (kd i).wf = true := by
  unfold kd Lit.wf
  have e1 : IntKind.u64.min = 0 := by decide
  have e2 : IntKind.u64.max = 18446744073709551615 := by decide
  simp [e1, e2]
  omega
theorem key_kd {i : Int} (h0 : 0 ≤ i) (h1 : i < 18446744073709551616) : keyOf Try.prog 34 (.int .u64 i) = some (kd i) := keyOf_int_mk Try.underlying34 (wf_kd h0 h1)
def MapR (mb : Nat) (D : DataW Value) : Res := fun w F => w.ownsMap Try.prog 34 Rv mb (Maps.size D) D ∧ ∀ k, F k ↔ k = mb
instance {mb : Nat} {D : DataW Value} : Stab (MapR mb D) where
  lt := fun h k hk => by rw [(h.2 k).1 hk]; exact h.1.lt
  keep := fun h hk => by
    obtain ⟨⟨es, clock, hb, F, hs, hD⟩, h2⟩ := h
    exact ⟨⟨es, clock, (hk _ ((h2 _).2 rfl)).trans hb, F, hs, hD⟩, h2⟩
theorem Own.map {w0 w : World} {mb : Nat} {D : DataW Value} {J : Res} (h : Own w0 w (Sep (MapR mb D) J)) : w.ownsMap Try.prog 34 Rv mb (Maps.size D) D := by
  obtain ⟨F, ⟨A, B, hA, _⟩, _⟩ := h
  exact hA.1
theorem ownsMap_tight {w : World} {mb n : Nat} {D : DataW Value} (h : w.ownsMap Try.prog 34 Rv mb n D) : w.ownsMap Try.prog 34 Rv mb (Maps.size D) D := by
  obtain ⟨es, clock, hb, F, hs, rfl⟩ := h
  refine ⟨es, clock, hb, F, ?_, rfl⟩
  have := length_sorted (es.toList.map (WideElems.rg Try.prog 34 Rv))
  simp only [Maps.size]
  rw [this]
  simp
/-- The map is turned. -/
theorem Own.turned {w0 w w' : World} {mb n : Nat} {D D' : DataW Value} {J : Res} [Stab J] (h : Own w0 w (Sep (MapR mb D) J)) (h1 : w'.ownsMap Try.prog 34 Rv mb n D') (h2 : w.mapTurned w' mb) : Own w0 w' (Sep (MapR mb D') J) := by
  obtain ⟨F, ⟨A, B, hA, hB, hd, hF⟩, g2, g3⟩ := h
  have hg := h2.grown
  have hAm : A mb := (hA.2 mb).2 rfl
  refine ⟨F, ⟨A, B, ⟨ownsMap_tight h1, hA.2⟩, Stab.keep hB (fun k hk => hg.block k (Stab.lt hB k hk) (fun e => hd mb hAm (by simp only [Option.some.injEq] at e; rw [← e]; exact hk))), hd, hF⟩, g2, g3.grown hg (fun k hk e => ?_)⟩
  have := g2 mb ((hF mb).2 (.inl hAm))
  simp only [Option.some.injEq] at e
  omega
theorem kd_ne {i j : Int} (h : i ≠ j) : kd i ≠ kd j := fun e => h (by injection e)
theorem kd_key (i : Int) : WideAt.IsKeyLit (kd i) := by first | exact trivial | (unfold WideAt.IsKeyLit; simp)
theorem blk2T {w0 w : World} {b : Nat} {a0 a1 : Value} {t : TypeId} {J : Res} (h : Own w0 w (Sep (Blk b (.cells #[a0, a1] t)) J)) : (w.cell? ⟨b, 0, none⟩ = some a0 ∧ w.cell? ⟨b, 1, none⟩ = some a1) ∧ w.frozen? ⟨b, 0, none⟩ = false ∧ w.frozen? ⟨b, 1, none⟩ = false := blk2 h.blkT

/-! ### Count, Drop -/

theorem atKey_any {D : DataW Value} {k : Lit} (h : Maps.has D k = true) (z z' : DataW Value) : D.atKey k z = D.atKey k z' := by
  cases D <;> try (simp [Maps.has] at h; done)
  rename_i es
  rw [Maps.has_eq, List.any_eq_true] at h
  simp only [DataW.atKey]
  cases hf : es.find? (fun p => p.1.sameKey k) with
  | some p => rfl
  | none =>
    obtain ⟨p, hp, hk⟩ := h
    have := List.find?_eq_none.1 hf p hp
    exact absurd hk this
/-! ### Places -/
/-- A place in memory. -/
structure Pb where
  k : Nat
  ao : Option Addr
  c : Nat
  v : Pl
instance : Inhabited Pb := ⟨⟨0, none, 0, default⟩⟩
abbrev ptr (k : Nat) : Value := .pointer (some ⟨k, 0, none⟩)
instance : Cel Pb := ⟨1, fun x => [ptr x.k], fun _ => rfl, fun a u h => by
  simp only [List.mem_singleton] at h
  subst h; rfl, by decide⟩
theorem elPb : ElT Pb 64 67 8 := by
  obtain ⟨i, h1, h2, h3, h4⟩ := info_parts (show (Try.prog.info? 67).map (fun i => (i.zero, i.size, i.bytes)) = some (some (.pointer none), 1, 8) by kernel_rfl)
  exact ⟨Try.underlying64, i, _, h1, h2, h3, h4, rfl⟩
theorem SlG.pb {w : World} {ao : Option Addr} {l : List Pb} (h : SlG w ao l) {j : Nat} (hj : j < l.length) : ∃ g off, ao = some ⟨g, off, none⟩ ∧ w.cell? ⟨g, off + j, none⟩ = some (ptr (l.getD j default).k) := by
  obtain ⟨g, off, e, h⟩ := h j hj
  have h0 := h 0 (by decide)
  rw [show off + j * Cel.size Pb + 0 = off + j from by show off + j * 1 + 0 = _; omega] at h0
  exact ⟨g, off, e, h0⟩
abbrev plc (x : Pb) : Array Value := #[.int .u64 x.v.id, .slice x.ao x.v.b.length x.c, .bool x.v.d, .int .i64 (x.v.p : Int), .bool x.v.u]
abbrev PlB (x : Pb) : Res := Blk x.k (.cells (plc x) 71)
def PlsR : List Pb → Res
  | [] => Emp
  | x :: r => Sep (PlB x) (PlsR r)
instance plsStab : ∀ (l : List Pb), Stab (PlsR l)
  | [] => by unfold PlsR; infer_instance
  | x :: r => by
    have := plsStab r
    unfold PlsR
    infer_instance
theorem sep_emp (I : Res) : Sep I Emp = I := by
  funext w F
  refine propext ⟨?_, fun h => ⟨F, fun _ => False, h, fun _ h => h, fun _ _ h => h, fun k => by simp⟩⟩
  rintro ⟨A, B, hA, hB, hd, hF⟩
  have e : F = A := by
    funext k
    refine propext ⟨fun h => ((hF k).1 h).elim id (fun h => absurd h (hB k)), fun h => (hF k).2 (.inl h)⟩
  rw [e]
  exact hA
theorem emp_sep (I : Res) : Sep Emp I = I := by rw [Sep.comm_eq, sep_emp]
theorem PlsR.append : ∀ (A B : List Pb), PlsR (A ++ B) = Sep (PlsR A) (PlsR B)
  | [], B => by show PlsR B = Sep Emp (PlsR B); rw [emp_sep]
  | x :: A, B => by
    show Sep (PlB x) (PlsR (A ++ B)) = Sep (Sep (PlB x) (PlsR A)) (PlsR B)
    rw [PlsR.append A B, Sep.assoc_eq]
theorem PlsR.perm {A B : List Pb} (h : A.Perm B) : PlsR A = PlsR B := by
  induction h with
  | nil => rfl
  | cons x _ ih => show Sep (PlB x) _ = Sep (PlB x) _; rw [ih]
  | swap x y l =>
    show Sep (PlB y) (Sep (PlB x) (PlsR l)) = Sep (PlB x) (Sep (PlB y) (PlsR l))
    rw [← Sep.assoc_eq, Sep.comm_eq (PlB y), Sep.assoc_eq]
  | trans _ _ h1 h2 => rw [h1, h2]
/-- One of the places beside the others. -/
theorem PlsR.at : ∀ {L : List Pb} {i : Nat}, i < L.length → PlsR L = Sep (PlB (L.getD i default)) (PlsR (L.eraseIdx i))
  | [], i, h => by simp at h
  | x :: L, 0, h => rfl
  | x :: L, i + 1, h => by
    show Sep (PlB x) (PlsR L) = Sep (PlB (L.getD i default)) (Sep (PlB x) (PlsR (L.eraseIdx i)))
    rw [PlsR.at (L := L) (i := i) (by simpa using h), ← Sep.assoc_eq, Sep.comm_eq (PlB x), Sep.assoc_eq]
theorem getD_set_same {α : Type} {L : List α} {i : Nat} (h : i < L.length) (x d : α) : (L.set i x).getD i d = x := by
  simp [List.getD_eq_getElem?_getD, h]
theorem eraseIdx_set_self {α : Type} : ∀ (L : List α) (i : Nat) (x : α), (L.set i x).eraseIdx i = L.eraseIdx i
  | [], i, x => by simp
  | y :: L, 0, x => rfl
  | y :: L, i + 1, x => by simp [eraseIdx_set_self L i x]
theorem PlsR.set {L : List Pb} {i : Nat} (h : i < L.length) (x : Pb) : PlsR (L.set i x) = Sep (PlB x) (PlsR (L.eraseIdx i)) := by
  rw [PlsR.at (L := L.set i x) (i := i) (by rw [List.length_set]; exact h), getD_set_same h, eraseIdx_set_self]
def BytesOk (l : List Pb) (w : World) : Prop := ∀ x ∈ l, SlC w (.slice x.ao x.v.b.length x.c) x.v.b ∧ x.v.b.length ≤ 140737488351232
theorem BytesOk.mono {l l' : List Pb} {w : World} (h : BytesOk l w) (hs : ∀ x ∈ l', ∃ y ∈ l, y.ao = x.ao ∧ y.c = x.c ∧ y.v.b = x.v.b) : BytesOk l' w := fun x hx => by
  obtain ⟨y, hy, e1, e2, e3⟩ := hs x hx
  rw [← e1, ← e2, ← e3]
  exact h y hy
/-! ### A back -/
abbrev backV (bb : Nat) : Value := .iface 24 (ptr bb)
structure Hb where
  io : Option Addr
  ic : Nat
  ho : Option Addr
  hc : Nat
  qo : Option Addr
  qc : Nat
structure BkOk (b : Bk) (h : Hb) (hs : List Hd) : Prop where
  n : hs.length = b.bs.length
  m : b.ids.length = b.bs.length
  si : Shp h.io b.ids.length h.ic
  sb : Shp h.ho b.bs.length h.hc
  sq : Shp h.qo b.asked.length h.qc
  f0 : -9223372036854775808 ≤ b.full
  f1 : b.full < 9223372036854775808
def HdsOk (hs : List Hd) (bs : List (List UInt8)) (w : World) : Prop := ∀ j, j < bs.length → (hs.getD j default).n = (bs.getD j []).length ∧ SlC w (.slice (hs.getD j default).ao (bs.getD j []).length (hs.getD j default).c) (bs.getD j []) ∧ (bs.getD j []).length ≤ 140737488351232
abbrev bkc (b : Bk) (h : Hb) : Array Value := #[.slice h.io b.ids.length h.ic, .slice h.ho b.bs.length h.hc, .slice h.qo b.asked.length h.qc, .int .i64 b.full]
def BkS (bb : Nat) (b : Bk) (h : Hb) (hs : List Hd) : Res := Sep (Blk bb (.cells (bkc b h) 51)) (Sep (RowG 34 (.slice h.io b.ids.length h.ic) b.ids) (Sep (RowG 35 (.slice h.ho hs.length h.hc) hs) (Sep (RowG 34 (.slice h.qo b.asked.length h.qc) b.asked) (Fix (HdsOk hs b.bs)))))
instance {bb : Nat} {b : Bk} {h : Hb} {hs : List Hd} : Stab (BkS bb b h hs) := by unfold BkS; infer_instance
def BkR (bb : Nat) (b : Bk) : Res := ExR fun h => ExR fun hs => AndR (BkOk b h hs) (BkS bb b h hs)
instance {bb : Nat} {b : Bk} : Stab (BkR bb b) := by unfold BkR; infer_instance
theorem Own.openBk {w0 w : World} {bb : Nat} {b : Bk} {J : Res} (h : Own w0 w (Sep (BkR bb b) J)) : ∃ h hs, BkOk b h hs ∧
    Own w0 w (Sep (Blk bb (.cells (bkc b h) 51)) (Sep (RowG 34 (.slice h.io b.ids.length h.ic) b.ids) (Sep (RowG 35 (.slice h.ho hs.length h.hc) hs) (Sep (RowG 34 (.slice h.qo b.asked.length h.qc) b.asked) (Sep (Fix (HdsOk hs b.bs)) J))))) := by
  unfold BkR at h
  obtain ⟨hb, h1⟩ := h.exR
  obtain ⟨hs, h2⟩ := h1.exR
  obtain ⟨hk, h3⟩ := h2.andR
  unfold BkS at h3
  exact ⟨hb, hs, hk, h3.ac (by ac_rfl)⟩
theorem Own.exI {α : Type} {w0 w : World} {I : α → Res} {J : Res} (x : α) (h : Own w0 w (Sep (I x) J)) : Own w0 w (Sep (ExR I) J) := h.imp fun F hF => hF.imp (fun A hA => ⟨x, hA⟩) (fun _ h => h)
theorem Own.andI {p : Prop} {w0 w : World} {I J : Res} (hp : p) (h : Own w0 w (Sep I J)) : Own w0 w (Sep (AndR p I) J) := h.imp fun F hF => hF.imp (fun A hA => ⟨hp, hA⟩) (fun _ h => h)
theorem Own.shutBk {w0 w : World} {bb : Nat} {b : Bk} {hb : Hb} {hs : List Hd} {J : Res} (hk : BkOk b hb hs) (h : Own w0 w (Sep (Blk bb (.cells (bkc b hb) 51)) (Sep (RowG 34 (.slice hb.io b.ids.length hb.ic) b.ids) (Sep (RowG 35 (.slice hb.ho hs.length hb.hc) hs) (Sep (RowG 34 (.slice hb.qo b.asked.length hb.qc) b.asked) (Sep (Fix (HdsOk hs b.bs)) J)))))) : Own w0 w (Sep (BkR bb b) J) := by
  unfold BkR
  refine Own.exI hb (Own.exI hs (Own.andI hk ?_))
  unfold BkS
  exact h.ac (by ac_rfl)
/-! ### A pool -/
/-- What the map answers. -/
def lookP (id : Int) : List Pb → Value
  | [] => .pointer none
  | x :: r => if x.v.id = id then ptr x.k else lookP id r
structure PoM (D : DataW Value) (L : List Pb) (st : Po) : Prop where
  v : L.map (·.v) = st.L
  ok : PoOk st
  tidy : Maps.Tidy D
  has : ∀ id, 0 ≤ id → id < 18446744073709551616 → (Maps.has D (kd id) = true ↔ id ∈ st.ids)
  at' : ∀ id, 0 ≤ id → id < 18446744073709551616 → D.atKey (kd id) (.held (.pointer none)) = .held (lookP id L)
  size : Maps.size D = L.length
abbrev poc (bb mb : Nat) (ro : Option Addr) (rc : Nat) (L : List Pb) (st : Po) : Array Value := #[backV bb, .int .i64 (st.most : Int), .slice ro L.length rc, .map (some mb), .int .i64 (st.hand : Int)]
def PoS (p bb mb : Nat) (ro : Option Addr) (rc : Nat) (D : DataW Value) (L Z : List Pb) (st : Po) : Res := Sep (Blk p (.cells (poc bb mb ro rc L st) 66)) (Sep (RowG 67 (.slice ro L.length rc) L) (Sep (MapR mb D) (Sep (PlsR (L ++ Z)) (Sep (Fix (BytesOk (L ++ Z))) (BkR bb st.bk)))))
instance {p bb mb : Nat} {ro : Option Addr} {rc : Nat} {D : DataW Value} {L Z : List Pb} {st : Po} : Stab (PoS p bb mb ro rc D L Z st) := by unfold PoS; infer_instance
/-- A pool in memory: the places of its row, those that it had. -/
def PoR (p bb : Nat) (L Z : List Pb) (st : Po) : Res := ExR fun mb => ExR fun ro => ExR fun rc => ExR fun D => AndR (PoM D L st ∧ Shp ro L.length rc) (PoS p bb mb ro rc D L Z st)
instance {p bb : Nat} {L Z : List Pb} {st : Po} : Stab (PoR p bb L Z st) := by unfold PoR; infer_instance
theorem Own.openPo {w0 w : World} {p bb : Nat} {L Z : List Pb} {st : Po} {J : Res} (h : Own w0 w (Sep (PoR p bb L Z st) J)) : ∃ mb ro rc D, PoM D L st ∧ Shp ro L.length rc ∧
    Own w0 w (Sep (Blk p (.cells (poc bb mb ro rc L st) 66)) (Sep (RowG 67 (.slice ro L.length rc) L) (Sep (MapR mb D) (Sep (PlsR (L ++ Z)) (Sep (Fix (BytesOk (L ++ Z))) (Sep (BkR bb st.bk) J)))))) := by
  unfold PoR at h
  obtain ⟨mb, h⟩ := h.exR
  obtain ⟨ro, h⟩ := h.exR
  obtain ⟨rc, h⟩ := h.exR
  obtain ⟨D, h⟩ := h.exR
  obtain ⟨⟨hk, hs⟩, h⟩ := h.andR
  unfold PoS at h
  exact ⟨mb, ro, rc, D, hk, hs, h.ac (by ac_rfl)⟩
theorem Own.shutPo {w0 w : World} {p bb mb : Nat} {ro : Option Addr} {rc : Nat} {D : DataW Value} {L Z : List Pb} {st : Po} {J : Res} (hk : PoM D L st) (hs : Shp ro L.length rc)
    (h : Own w0 w (Sep (Blk p (.cells (poc bb mb ro rc L st) 66)) (Sep (RowG 67 (.slice ro L.length rc) L) (Sep (MapR mb D) (Sep (PlsR (L ++ Z)) (Sep (Fix (BytesOk (L ++ Z))) (Sep (BkR bb st.bk) J))))))) : Own w0 w (Sep (PoR p bb L Z st) J) := by
  unfold PoR
  refine Own.exI mb (Own.exI ro (Own.exI rc (Own.exI D (Own.andI ⟨hk, hs⟩ ?_))))
  unfold PoS
  exact h.ac (by ac_rfl)

end Go.Proofs.Ytjmelhmjcbliaaa
