/-
  A slice of bytes of one's own, or a full one that is only read: append to it, and its string.
-/
import Derived.Test.YtcpfohjejhkgbaaDoorValR5
import Derived.Lib.SlBytesConst
import Derived.StillTailTactics
import Derived.Deep.RegionLaw
import Derived.Deep.AppendLies
namespace Go.Proofs.YtcpfohjejhkgbaaDoor
open Go Go.RowKit
set_option linter.unusedVariables false
set_option linter.unusedSimpArgs false
set_option maxRecDepth 100000

/-- The slice v of the bytes l: from block B on. -/
def RowB (B : Nat) (v : Value) (l : List UInt8) (W : World) : Prop :=
  (∃ b, v = .slice (some ⟨b, 0, none⟩) l.length l.length ∧ B ≤ b ∧ b < W.heap.size ∧ ∀ j u, (Lib.byteCells l)[j]? = some u → W.cell? ((⟨b, 0, none⟩ : Addr).add j) = some u) ∨
  W.ownsRow B 5 1 v l.length (Lib.byteCells l)
theorem RowB.cells {B : Nat} {v : Value} {l : List UInt8} {W : World} (h : RowB B v l W) (hl : l ≠ []) :
    ∃ b cap, v = .slice (some ⟨b, 0, none⟩) l.length cap ∧ B ≤ b ∧ b < W.heap.size ∧ ∀ j u, (Lib.byteCells l)[j]? = some u → W.cell? ((⟨b, 0, none⟩ : Addr).add j) = some u := by
  rcases h with ⟨b, hv, hb, hb2, hc⟩ | h
  · exact ⟨b, _, hv, hb, hb2, hc⟩
  · have h2 := h.2
    rcases h2 with ⟨_, h0⟩ | ⟨g, cap, cur, hv, hb, hg, _⟩
    · exact absurd (List.eq_nil_of_length_eq_zero h0) hl
    · subst hv
      exact ⟨g, cap, rfl, hb, (h.lt g rfl).2, h.cells rfl⟩
theorem RowB.conv {B : Nat} {v : Value} {l : List UInt8} {W : World} (h : RowB B v l W) (hl : l ≠ []) :
    (convert 43 9 v).run Tryd.prog W = .ok (.string ⟨l.toArray⟩) W := by
  obtain ⟨b, cap, rfl, _, _, hc⟩ := h.cells hl
  exact run_convert_bytes_back (P := Tryd.prog) W 43 9 5 ⟨b, 0, none⟩ cap l Tryd.underlying43 Tryd.underlying5 Tryd.underlying9 (fun j hj => hc j _ (by simp [Lib.byteCells, List.getElem?_eq_getElem hj]))
theorem RowB.alloc {B : Nat} {v : Value} {l : List UInt8} {W : World} (h : RowB B v l W) (o : Obj) : RowB B v l (W.alloc o) := by
  rcases h with ⟨b, hv, hb, hb2, hc⟩ | h
  · exact .inl ⟨b, hv, hb, by simp; omega, fun j u hj => keep0 (hc j u hj) ((Below.refl _ _).alloc (Nat.le_refl _) o)⟩
  · exact .inr (h.alloc o)
theorem RowB.drew {B : Nat} {v : Value} {l : List UInt8} {W : World} (h : RowB B v l W) : RowB B v l W.drew := by
  rcases h with ⟨b, hv, hb, hb2, hc⟩ | h
  · exact .inl ⟨b, hv, hb, by simpa using hb2, fun j u hj => keep0 (hc j u hj) ((Below.refl _ _).drew)⟩
  · exact .inr h
theorem ownsRow_base {W : World} {B B' : Nat} {e : TypeId} {size : Nat} {v : Value} {n : Nat} {xs : List Value} (h : W.ownsRow B' e size v n xs) (hB : B ≤ B') : W.ownsRow B e size v n xs := by
  refine ⟨h.1, ?_⟩
  rcases h.2 with h | ⟨g, cap, cur, hv, hb, r⟩
  · exact .inl h
  · exact .inr ⟨g, cap, cur, hv, Nat.le_trans hB hb, r⟩
theorem byteCells_append (l r : List UInt8) : Lib.byteCells (l ++ r) = Lib.byteCells l ++ Lib.byteCells r := by simp [Lib.byteCells]
theorem byteCells_one (l : List UInt8) : ∀ u ∈ Lib.byteCells l, u.oneCell' = true := by
  intro u hu
  simp only [Lib.byteCells, List.mem_map] at hu
  obtain ⟨b, _, rfl⟩ := hu
  rfl
/-- An append to it, for the walk. -/
theorem rowB_append {ops : Array Oper} {rest : List Oper} {o : Oper} {a : Act} {Q : Exit → Act → World → Prop} {w : World} (hgd : o.guard = none) (s x : Operand)
    (ho : o.op = .call { callee := .builtin .append, args := #[s, x], argTypes := #[43, 43] })
    (B : Nat) (v : Value) (l : List UInt8) (hs : a.eval s = v) (hR : RowB B v l w)
    (ad : Addr) (m c : Nat) (r : List UInt8) (hx : a.eval x = .slice (some ad) m c) (hm : r.length = m) (hm1 : 1 ≤ m) (hr : ∀ j u, (Lib.byteCells r)[j]? = some u → w.cell? (ad.add j) = some u)
    (hlen : l.length + m ≤ 140737488355328) (hB : B ≤ w.heap.size)
    (h : ∀ v' w', RowB B v' (l ++ r) w' → Below B w w' → wpList Tryd.prog ops Q rest (a.put o.dst v') w') : wpList Tryd.prog ops Q (o :: rest) a w := by
  obtain ⟨i0, hi, hz0, hz1, hz2⟩ := info_parts by_info
  subst hm
  have hlr : (Lib.byteCells (l ++ r)) = Lib.byteCells l ++ Lib.byteCells r := byteCells_append l r
  rcases hR with ⟨b, hv, hb, hb2, hc⟩ | hown
  · refine wpList_append_grows w hgd s x 43 ho 5 i0 (.int .u8 0) 1 1 Tryd.underlying43 hi hz0 hz1 hz2 rfl (by decide) (some ⟨b, 0, none⟩) l.length l.length (Lib.byteCells l) (hs.trans hv) (fun e => by cases e) (by rw [Lib.byteCells_length]; omega)
      (fun b' e j u hj => by cases e; exact hc j u hj) ad r.length c (Lib.byteCells r) hx (by rw [Lib.byteCells_length]; omega) hr (byteCells_one r) (by omega) (by unfold maxLen; omega) (by omega) ?_
    intro v' w' h1 h2
    refine h v' w' (.inr ?_) ((Below.refl B w).grown h2 hB (fun k hk => by cases hk))
    rw [hlr, List.length_append]
    exact ownsRow_base h1 hB
  · refine wpList_append_own w hgd s x 43 ho B 5 i0 (.int .u8 0) 1 1 Tryd.underlying43 hi hz0 hz1 hz2 rfl (by decide) v l.length (Lib.byteCells l) hs hown ad r.length c (Lib.byteCells r) hx (by rw [Lib.byteCells_length]; omega) hr (byteCells_one r) (by unfold maxLen; omega) (by omega) hB ?_
    intro v' w' h1 h2 _
    refine h v' w' (.inr ?_) ((Below.refl B w).grown h2 hB (fun k hk => (hown.lt k hk).1))
    rw [hlr, List.length_append]
    exact h1

/-- The same for a region that draws its order. -/
theorem rowB_step {ops : Array Oper} {o : Oper} {a : Act} {K : Act → World → Prop} {Q : Exit → Act → World → Prop} {E : Prop} (w : World) (hgd : o.guard = none) (s x : Operand)
    (ho : o.op = .call { callee := .builtin .append, args := #[s, x], argTypes := #[43, 43] })
    (B : Nat) (v : Value) (l : List UInt8) (hs : a.eval s = v) (hR : RowB B v l w)
    (ad : Addr) (m c : Nat) (r : List UInt8) (hx : a.eval x = .slice (some ad) m c) (hm : r.length = m) (hm1 : 1 ≤ m) (hr : ∀ j u, (Lib.byteCells r)[j]? = some u → w.cell? (ad.add j) = some u)
    (hlen : l.length + m ≤ 140737488355328) (hB : B ≤ w.heap.size)
    (h : ∀ v' w', RowB B v' (l ++ r) w' → Below B w w' → K (a.put o.dst v') w') : if Region.wanted o (yielded ops a.tmps) = true then Oper.wp Tryd.prog o a w K Q else E := by
  have hw : Region.wanted o (yielded ops a.tmps) = true := by simp [Region.wanted, hgd]
  rw [if_pos hw]
  obtain ⟨i0, hi, hz0, hz1, hz2⟩ := info_parts by_info
  subst hm
  have hlr : (Lib.byteCells (l ++ r)) = Lib.byteCells l ++ Lib.byteCells r := byteCells_append l r
  rcases hR with ⟨b, hv, hb, hb2, hc⟩ | hown
  · obtain ⟨v', w', hrun, r1, r2⟩ := run_append_arg_grows (P := Tryd.prog) w 43 o.type 5 i0 (.int .u8 0) 1 1 Tryd.underlying43 hi hz0 hz1 hz2 rfl (by decide) ⟨b, 0, none⟩ l.length l.length (Lib.byteCells l) (by rw [Lib.byteCells_length]; omega) hc ad r.length c (Lib.byteCells r) (by rw [Lib.byteCells_length]; omega) hr (by omega) (by unfold maxLen; omega) (by omega)
    have hs2 := hs.trans hv
    unfold Oper.wp
    simp [execOp, ho, resolve, invoke, builtin, hs2, hx, hrun, Result.andThen]
    refine h v' w' (.inr ?_) ((Below.refl B w).grown r2 hB (fun k hk => by cases hk))
    rw [hlr, List.length_append]
    exact ownsRow_base r1 hB
  · refine wp_append_own w s x 43 ho B 5 i0 (.int .u8 0) 1 1 Tryd.underlying43 hi hz0 hz1 hz2 rfl (by decide) v l.length (Lib.byteCells l) hs hown ad r.length c (Lib.byteCells r) hx (by rw [Lib.byteCells_length]; omega) hr (byteCells_one r) (by unfold maxLen; omega) (by omega) hB ?_
    intro v' w' h1 h2 _
    refine h v' w' (.inr ?_) ((Below.refl B w).grown h2 hB (fun k hk => (hown.lt k hk).1))
    rw [hlr, List.length_append]
    exact h1

end Go.Proofs.YtcpfohjejhkgbaaDoor
