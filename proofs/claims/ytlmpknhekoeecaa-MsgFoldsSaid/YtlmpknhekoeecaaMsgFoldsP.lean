/-
  MsgFolds: the two parts of a list of messages in new memory; where its last line stands.
-/
import Derived.Test.YtlmpknhekoeecaaMsgApp
import Derived.Test.YtlmpknhekoeecaaMsgFold
namespace Go.Proofs.Ytlmpknhekoeecaa
open Go Go.RowKit
set_option linter.unusedVariables false
set_option linter.unusedSimpArgs false
set_option maxRecDepth 100000

theorem front_ms {ao : Option Addr} {n c q : Nat} (hs : Shp ao n c) (hq : q ≤ n) (W : World) : (Instr.slice 23 (.slice ao n c) none (some (.int .i64 (q : Int))) none).run Try.prog W = .ok (.slice ao q c) W := by
  obtain ⟨i0, hi, _⟩ := info_parts infoMs
  exact run_front _ 28 i0 Try.underlying23 hi ao n c q hs hq W
theorem Shp.front {ao : Option Addr} {n c q : Nat} (hs : Shp ao n c) (hq : q ≤ n) : Shp ao q c := by
  rcases hs with ⟨h1, h2, h3⟩ | ⟨a, h1, h2⟩
  · exact .inl ⟨h1, by omega, h3⟩
  · exact .inr ⟨a, h1, by omega⟩
theorem back_ms {ao : Option Addr} {n c q : Nat} (hs : Shp ao n c) (hq : q ≤ n) : ∃ bo, (∀ W, (Instr.slice 23 (.slice ao n c) (some (.int .i64 (q : Int))) none none).run Try.prog W = .ok (.slice bo (n - q) (c - q)) W) ∧ Shp bo (n - q) (c - q) ∧
    ∀ (W : World) (l : List Ms), l.length = n → SlM W ao l → SlM W bo (l.drop q) := by
  obtain ⟨i, hi, _, hsz, _⟩ := info_parts infoMs
  have hc := hs.le
  have hb : ∀ W, (Instr.sliceBounds true n c (some (.int .i64 (q : Int))) none none).run Try.prog W = .ok (q, n, c) W := fun W => by
    simp [Instr.sliceBounds, run_sliceBound, (by omega : (0 : Int) ≤ q), (by omega : (q : Int) ≤ c), (by omega : (q : Int) ≤ n), (by omega : (n : Int) ≤ c)]
  have shift : ∀ (W : World) (g off off' : Nat) (l : List Ms), l.length = n → (q < n → off' = off + q * 7) → SlM W (some ⟨g, off, none⟩) l → SlM W (some ⟨g, off', none⟩) (l.drop q) := by
    intro W g off off' l hl ho h j hj
    have hj2 : q + j < l.length := by simp at hj; omega
    obtain ⟨g2, off2, h1, h2⟩ := h (q + j) hj2
    simp only [Option.some.injEq, Addr.mk.injEq, and_true] at h1
    obtain ⟨rfl, rfl⟩ := h1
    refine ⟨g, off', rfl, ?_⟩
    rw [ho (by omega), show (l.drop q).getD j default = l.getD (q + j) default by simp [List.getD_eq_getElem?_getD, List.getElem?_drop]]
    rw [show off + q * 7 + j * 7 = off + (q + j) * 7 by omega]
    exact h2
  rcases hs with ⟨rfl, rfl, rfl⟩ | ⟨⟨g, off, sp⟩, rfl, hnc⟩
  · obtain rfl : q = 0 := by omega
    refine ⟨none, fun W => ?_, .inl ⟨rfl, rfl, rfl⟩, fun W l hl h => by rw [List.drop_zero]; exact h⟩
    simp only [Instr.slice, Sem.run_bind, run_underlying Try.underlying23, Result.andThen, hb]
    simp [sizeOf, typeInfo, hi]
  · by_cases h : q < c
    · refine ⟨some ((⟨g, off, sp⟩ : Addr).add (q * 7)), fun W => ?_, .inr ⟨_, rfl, by omega⟩, fun W l hl hs => ?_⟩
      · simp only [Instr.slice, Sem.run_bind, run_underlying Try.underlying23, Result.andThen, hb]
        simp [sizeOf, typeInfo, hi, hsz, Addr.add, h]
        intro hcq
        omega
      · intro j hj
        have hj2 : q + j < l.length := by simp at hj; omega
        obtain ⟨g2, off2, h1, _⟩ := hs (q + j) hj2
        simp only [Option.some.injEq, Addr.mk.injEq] at h1
        obtain ⟨rfl, rfl, rfl⟩ := h1
        rw [add_lit]
        exact shift W g off _ l hl (fun _ => rfl) hs j hj
    · refine ⟨some ⟨g, off, sp⟩, fun W => ?_, .inr ⟨_, rfl, by omega⟩, fun W l hl hs j hj => ?_⟩
      · simp only [Instr.slice, Sem.run_bind, run_underlying Try.underlying23, Result.andThen, hb]
        simp [sizeOf, typeInfo, hi, hsz, Addr.add, h]
        intros
        omega
      · simp at hj; omega
/-- Where the last line of MsgFolds stands: the entry, what it became, the list, the messages for the entry, the two parts in new memory. -/
structure FlAt (w W : World) (pa : Nat) (e a : En) (ao oo : Option Addr) (l own : List Ms) (q : Nat) (s1 s2 : Option Nat) : Prop where
  e : HasE W w.heap.size e
  r : HasE W pa a
  only : Only (fun _ => False) w W
  sl : SlM W ao l
  so : SlM W oo own
  t1 : ∀ g, s1 = some g → SlM W (some ⟨g, 0, none⟩) (l.take q)
  t2 : ∀ g, s2 = some g → SlM W (some ⟨g, 0, none⟩) (l.drop q)
section
variable {w W W' : World} {pa : Nat} {e a : En} {ao oo : Option Addr} {l own : List Ms} {q : Nat} {s1 s2 : Option Nat}
theorem FlAt.keep (H : FlAt w W pa e a ao oo l own q s1 s2) (ho : Only (fun _ => False) W W') : FlAt w W' pa e a ao oo l own q s1 s2 :=
  ⟨qkeep ho H.e, qkeep ho H.r, H.only.trans ho (fun _ _ h => h), H.sl.keep ho, H.so.keep ho, fun g e => (H.t1 g e).keep ho, fun g e => (H.t2 g e).keep ho⟩
theorem FlAt.cells (H : FlAt w W pa e a ao oo l own q s1 s2) (ho : Only (fun _ => False) W W') :
    W'.cell? ⟨w.heap.size, 0, none⟩ = some (.string e.k) ∧ W'.cell? ⟨w.heap.size, 1, none⟩ = some (.bool e.h) ∧ W'.cell? ⟨w.heap.size, 2, none⟩ = some (.string e.v) ∧ W'.cell? ⟨w.heap.size, 3, none⟩ = some (.int .u64 e.x) ∧ W'.cell? ⟨w.heap.size, 4, none⟩ = some (.bool e.n) ∧ W'.cell? ⟨w.heap.size, 5, none⟩ = some (.string e.nv) ∧
      W'.cell? ⟨pa, 0, none⟩ = some (.string a.k) ∧ W'.cell? ⟨pa, 1, none⟩ = some (.bool a.h) ∧ W'.cell? ⟨pa, 2, none⟩ = some (.string a.v) ∧ W'.cell? ⟨pa, 3, none⟩ = some (.int .u64 a.x) ∧ W'.cell? ⟨pa, 4, none⟩ = some (.bool a.n) ∧ W'.cell? ⟨pa, 5, none⟩ = some (.string a.nv) := by
  obtain ⟨⟨z0, z1, z2, z3, z4, z5⟩, _⟩ := blk6 (H.keep ho).e
  obtain ⟨⟨y0, y1, y2, y3, y4, y5⟩, _⟩ := blk6 (H.keep ho).r
  exact ⟨z0, z1, z2, z3, z4, z5, y0, y1, y2, y3, y4, y5⟩
end
section
variable {ops : Array Oper} {o : Oper} {A : Act} {w W W' : World} {pa : Nat} {e a : En} {ao oo : Option Addr} {l own : List Ms} {q : Nat} {s1 s2 : Option Nat} {K : Act → World → Prop} {Q : Exit → Act → World → Prop} {E : Prop}
/-- append([]Msg{}, l[:n]...). -/
theorem fl_app1 (H : FlAt w W pa e a ao oo l own q none s2) (hgd : o.guard = none) (s x : Operand) (c : Nat)
    (ho : o.op = .call { callee := .builtin .append, args := #[s, x], argTypes := #[23, 23] }) (hq : q ≤ l.length) (hb : l.length * 72 ≤ 140737488351232) (hsh : Shp ao q c)
    (hs : ∃ b, A.eval s = .slice (some ⟨b, 0, none⟩) 0 0) (hx : A.eval x = .slice ao q c) (hO : Only (fun _ => False) W W')
    (h : ∀ g cap w', Hid (FlAt w w' pa e a ao oo l own q (some g) s2) → K (A.put o.dst (.slice (some ⟨g, 0, none⟩) q cap)) w') :
    if Region.wanted o (yielded ops A.tmps) = true then Oper.wp Try.prog o A W' K Q else E := by
  obtain ⟨b, hs⟩ := hs
  have hl : (l.take q).length = q := by rw [List.length_take]; omega
  refine step_msgs hgd s x ho b hs ao q c (l.take q) hl.symm (by omega) ((H.keep hO).sl.take q) hsh hx ?_
  intro g cap w' h1 h2
  have H2 := H.keep (hO.trans h2 (fun _ _ h => h))
  exact h g cap w' (Lib.hid ⟨H2.e, H2.r, H2.only, H2.sl, H2.so, fun g' e => by cases e; exact h1, H2.t2⟩)
/-- append([]Msg{}, l[n:]...). -/
theorem fl_app2 (H : FlAt w W pa e a ao oo l own q s1 none) (hgd : o.guard = none) (s x : Operand) (bo : Option Addr) (d c : Nat)
    (ho : o.op = .call { callee := .builtin .append, args := #[s, x], argTypes := #[23, 23] }) (hd : d = (l.drop q).length) (hb : l.length * 72 ≤ 140737488351232) (hsh : Shp bo d c) (hbk : ∀ W, SlM W ao l → SlM W bo (l.drop q))
    (hs : ∃ b, A.eval s = .slice (some ⟨b, 0, none⟩) 0 0) (hx : A.eval x = .slice bo d c) (hO : Only (fun _ => False) W W')
    (h : ∀ g cap w', Hid (FlAt w w' pa e a ao oo l own q s1 (some g)) → K (A.put o.dst (.slice (some ⟨g, 0, none⟩) d cap)) w') :
    if Region.wanted o (yielded ops A.tmps) = true then Oper.wp Try.prog o A W' K Q else E := by
  obtain ⟨b, hs⟩ := hs
  have hl : (l.drop q).length ≤ l.length := by rw [List.length_drop]; omega
  refine step_msgs hgd s x ho b hs bo d c (l.drop q) hd (by omega) (hbk _ (H.keep hO).sl) hsh hx ?_
  intro g cap w' h1 h2
  have H2 := H.keep (hO.trans h2 (fun _ _ h => h))
  exact h g cap w' (Lib.hid ⟨H2.e, H2.r, H2.only, H2.sl, H2.so, H2.t1, fun g' e => by cases e; exact h1⟩)
end

end Go.Proofs.Ytlmpknhekoeecaa
