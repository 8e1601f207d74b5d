/-
  Package pool's calls, with what they ask of the back: for the statement PoolAsks.
-/
import Derived.Test.YtjmelhmjcbliaaaPoAs
namespace Go.Proofs.Ytjmelhmjcbliaaa
open Go Go.RowKit
set_option linter.unusedVariables false
set_option linter.unusedSimpArgs false
set_option maxRecDepth 100000

theorem HoI.askNil {m : Nat} {nv : Int → List UInt8} {st : Po} (h : HoI m nv st) : HoI m nv { st with bk := { st.bk with asked := [] } } :=
  ⟨⟨h.s.i, h.s.n, h.s.f⟩, h.nd, h.r, h.b, fun x hx hd => h.c x hx hd, fun j j1 j6 hj => h.o j j1 j6 hj, h.m⟩
/-- What is read of the back's questions, one by one. -/
theorem Own.askRow {w0 w : World} {p bb : Nat} {L Z : List Pb} {st : Po} {J : Res} (h : Own w0 w (Sep (PoR p bb L Z st) J)) : ∃ qo qc, w.cell? ⟨bb, 2, none⟩ = some (.slice qo st.bk.asked.length qc) ∧ (st.bk.asked.length ≠ 0 → ∃ g, qo = some ⟨g, 0, none⟩ ∧ ∀ k, k < st.bk.asked.length → w.cell? ⟨g, k, none⟩ = some (.int .u64 (st.bk.asked.getD k default))) := by
  obtain ⟨mb, ro, rc, D, hm, hs, h1⟩ := h.openPo
  obtain ⟨hd, hs2, hk, h7⟩ := (h1.ac (by ac_rfl : _ = Sep (BkR bb st.bk) (Sep (Blk p (.cells (poc bb mb ro rc L st) 66)) (Sep (RowG 67 (.slice ro L.length rc) L) (Sep (MapR mb D) (Sep (PlsR (L ++ Z)) (Sep (Fix (BytesOk (L ++ Z))) J))))))).openBk
  refine ⟨hd.qo, hd.qc, h7.blk4c.1.2.2.1, fun h0 => ?_⟩
  have h8 := h7.snd.snd.snd
  obtain ⟨g, hg⟩ := own_addr h8 (by omega)
  rw [hg] at h8
  exact ⟨g, hg, fun k hk => (cellsNu h8 hk).1⟩
section
variable {w0 w : World} {p bb : Nat} {L Z : List Pb} {st : Po} {J : Res} [Stab J] {m : Nat} {nv : Int → List UInt8}
theorem asks_get (h : Own w0 w (Sep (PoR p bb L Z st) J)) (hs : HoI m nv st) (hz : st.sum = 0) (hl : st.L.length ≤ m) (ha : st.bk.asked = []) (a : Nat) (h1 : 1 ≤ a) (h6 : a ≤ 6) :
    Calls Try.prog 10 #[ptr p, .int .u64 (a : Int)] w fun e w' => ∃ v, e = .returned (.tuple #[v, .int .i64 0]) ∧ ∃ L' Z' st' ld, ld ≤ 1 ∧ AskI m ld st.dirty st' ∧ (ld = 0 → st'.L.length = st.L.length) ∧ Own w0 w' (Sep (PoR p bb L' Z' st') J) := by
  refine (pget_any h (a : Int) (by omega) (by omega) (hs.PoB (K := 0) (by rw [ha]; exact Nat.le_refl _) (by omega))).mono ?_
  rintro e w' ⟨L', Z', hor⟩
  obtain ⟨g1, g2, g3, g4⟩ := hs.get (id := (a : Int)) (by omega) (by omega)
  obtain ⟨ld, a1, a2, a3⟩ := ask_get hs hz hl ha (id := (a : Int)) (by omega) (by omega)
  rcases hor with ⟨b, v, hb, _, rfl, ho⟩ | ⟨hn, _, _⟩
  · exact ⟨v, rfl, L', Z', _, ld, a1, a2, a3, ho.snd⟩
  · rw [g1] at hn
    cases hn
theorem asks_put (h : Own w0 w (Sep (PoR p bb L Z st) J)) (hs : HoI m nv st) (hz : st.sum = 0) (hl : st.L.length ≤ m) (ha : st.bk.asked = []) (a : Nat) (h1 : 1 ≤ a) (h6 : a ≤ 6) (v : Value) (b : List UInt8) (hv : SlC w0 v b) (hvl : b.length ≤ 140737488351232) :
    Calls Try.prog 14 #[ptr p, .int .u64 (a : Int), v] w fun e w' => e = .returned (.tuple #[]) ∧ ∃ L' Z' st', AskI m 0 (st.dirty ++ [(a : Int)]) st' ∧ Own w0 w' (Sep (PoR p bb L' Z' st') J) := by
  refine (pput_any h (a : Int) (by omega) (by omega) v b hv hvl (hs.PoB (K := 0) (by rw [ha]; exact Nat.le_refl _) (by omega))).mono ?_
  rintro e w' ⟨L', Z', rfl, ho⟩
  exact ⟨rfl, L', Z', _, ask_put hs hz hl ha (by omega) (by omega) b, ho⟩
theorem asks_evict (h : Own w0 w (Sep (PoR p bb L Z st) J)) (hs : HoI m nv st) (hz : st.sum = 0) (hl : st.L.length ≤ m) (ha : st.bk.asked = []) :
    Calls Try.prog 22 #[ptr p] w fun e w' => ∃ a b, e = .returned (.tuple #[.int .u64 a, .int .i64 b]) ∧ ∃ L' Z' st', AskI m 0 st.dirty st' ∧ (st.L.length = 0 → st'.L.length = 0) ∧ (st.L.length ≠ 0 → st'.L.length + 1 = st.L.length) ∧ Own w0 w' (Sep (PoR p bb L' Z' st') J) := by
  refine (pevict_any h (hs.PoB (K := 0) (by rw [ha]; exact Nat.le_refl _) (by omega))).mono ?_
  rintro e w' ⟨L', Z', rfl, ho⟩
  obtain ⟨a1, a2, a3⟩ := ask_evict hs hz hl ha
  exact ⟨_, _, rfl, L', Z', _, a1, a2, a3, ho⟩
end

end Go.Proofs.Ytjmelhmjcbliaaa
