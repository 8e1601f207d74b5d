/-
  Messages laid in new memory: appends of messages.
-/
import Derived.Test.YtlmpknhekoeecaaMsgEndsP
import Derived.Test.YtlmpknhekoeecaaRowP
import Derived.ArgAppend
import Derived.Deep.RegionLaw
namespace Go.Proofs.Ytlmpknhekoeecaa
open Go Go.RowKit
set_option linter.unusedVariables false
set_option linter.unusedSimpArgs false
set_option maxRecDepth 100000

/-- A slice's address, length and capacity. -/
def Shp (ao : Option Addr) (n c : Nat) : Prop := (ao = none ∧ n = 0 ∧ c = 0) ∨ ∃ a, ao = some a ∧ n ≤ c
theorem Shp.le {ao : Option Addr} {n c : Nat} (h : Shp ao n c) : n ≤ c := by
  rcases h with ⟨_, rfl, rfl⟩ | ⟨_, _, h⟩
  · exact Nat.le_refl _
  · exact h
theorem Shp.none {ao : Option Addr} {n c : Nat} (h : Shp ao n c) (e : ao = none) : n = 0 ∧ c = 0 := by
  rcases h with ⟨_, h1, h2⟩ | ⟨a, e2, _⟩
  · exact ⟨h1, h2⟩
  · rw [e] at e2; cases e2
theorem rem_spec (m : Nat) (z : Int) : ∃ (r : Int) (q : Nat), z.tmod ((m : Int) + 1) = r ∧ -(m : Int) ≤ r ∧ r ≤ m ∧ q ≤ m ∧ (r + (m : Int) + 1).tmod ((m : Int) + 1) = (q : Int) := by
  have h1 := Int.emod_lt_of_pos z (show (0 : Int) < (m : Int) + 1 by omega)
  have h2 := Int.emod_nonneg z (show ((m : Int) + 1) ≠ 0 by omega)
  have h3 : z.tmod ((m : Int) + 1) = z % ((m : Int) + 1) ∨ z.tmod ((m : Int) + 1) = z % ((m : Int) + 1) - ((m : Int) + 1) := by
    rw [Int.tmod_eq_emod]
    split
    · left; omega
    · right
      rw [show (((m : Int) + 1).natAbs : Int) = (m : Int) + 1 by omega]
  have lo := Int.lt_tmod_of_pos z (show (0 : Int) < (m : Int) + 1 by omega)
  refine ⟨z.tmod ((m : Int) + 1), ((z.tmod ((m : Int) + 1) + (m : Int) + 1).tmod ((m : Int) + 1)).toNat, rfl, by omega, by omega, ?_, ?_⟩
  · have h4 := Int.emod_lt_of_pos (z.tmod ((m : Int) + 1) + (m : Int) + 1) (show (0 : Int) < (m : Int) + 1 by omega)
    rw [Int.tmod_eq_emod_of_nonneg (by omega)]
    omega
  · have h5 := Int.emod_nonneg (z.tmod ((m : Int) + 1) + (m : Int) + 1) (show ((m : Int) + 1) ≠ 0 by omega)
    rw [Int.tmod_eq_emod_of_nonneg (by omega)]
    omega

theorem run_front (t e : TypeId) (i : TypeInfo) (ht : Try.prog.underlying t = some (.slice e)) (hi : Try.prog.info? e = some i) (ao : Option Addr) (n c q : Nat) (hs : Shp ao n c) (hq : q ≤ n) (W : World) :
    (Instr.slice t (.slice ao n c) none (some (.int .i64 (q : Int))) none).run Try.prog W = .ok (.slice ao q c) W := by
  have hc := hs.le
  have hb : (Instr.sliceBounds true n c none (some (.int .i64 (q : Int))) none).run Try.prog W = .ok (0, q, c) W := by
    simp [Instr.sliceBounds, run_sliceBound, (by omega : (0 : Int) ≤ q), (by omega : (q : Int) ≤ c)]
  simp only [Instr.slice, Sem.run_bind, run_underlying ht, Result.andThen, hb]
  simp [sizeOf, typeInfo, hi]
  rcases hs with ⟨rfl, rfl, rfl⟩ | ⟨a, rfl, _⟩
  · simp
  · simp [Addr.add]
theorem run_append_zero (t ty e : TypeId) (i : TypeInfo) (ht : Try.prog.underlying t = some (.slice e)) (hi : Try.prog.info? e = some i) (b : Addr) (w : World) :
    (Builtin.append_ #[t, t] ty #[.slice (some b) 0 0, .slice none 0 0]).run Try.prog w = .ok (.slice (some b) 0 0) w := by
  simp [Builtin.append_, run_underlying ht, sizeOf, typeInfo, hi, Builtin.lenOf, Builtin.firstCells, storeCells]
/-- An append onto an empty slice in a region that draws its order: what is appended lies in new memory. -/
theorem step_fresh {ops : Array Oper} {o : Oper} {a : Act} {w : World} {K : Act → World → Prop} {Q : Exit → Act → World → Prop} {E : Prop} (hgd : o.guard = none) (s x : Operand) (t : TypeId)
    (ho : o.op = .call { callee := .builtin .append, args := #[s, x], argTypes := #[t, t] })
    (e : TypeId) (i : TypeInfo) (z : Value) (size bytes : Nat) (ht : Try.prog.underlying t = some (.slice e)) (hi : Try.prog.info? e = some i) (hz : i.zero = some z)
    (hsize : i.size = size) (hby : i.bytes = bytes) (hzs : z.cells.size = size) (hsz : 0 < size)
    (b : Nat) (hs : a.eval s = .slice (some ⟨b, 0, none⟩) 0 0) (ao : Option Addr) (m c : Nat) (news : List Value) (hx : a.eval x = .slice ao m c) (hnone : ao = none → m = 0 ∧ c = 0)
    (hl : news.length = m * size) (hnews : ∀ ad, ao = some ad → ∀ j u, news[j]? = some u → w.cell? (ad.add j) = some u) (h1 : ∀ u ∈ news, u.oneCell' = true) (hbytes : m * bytes ≤ 140737488355328) (hm : m ≤ 140737488355328)
    (h : ∀ g cap w', (∀ j u, news[j]? = some u → w'.cell? ⟨g, j, none⟩ = some u) → Only (fun _ => False) w w' → K (a.put o.dst (.slice (some ⟨g, 0, none⟩) m cap)) w') :
    if Region.wanted o (yielded ops a.tmps) = true then Oper.wp Try.prog o a w K Q else E := by
  have hw : Region.wanted o (yielded ops a.tmps) = true := by simp [Region.wanted, hgd]
  rw [if_pos hw]
  by_cases h0 : m = 0
  · subst h0
    have hn0 : news = [] := List.eq_nil_of_length_eq_zero (by omega)
    subst hn0
    cases ao with
    | none =>
      obtain ⟨_, rfl⟩ := hnone rfl
      have hrun := run_append_zero t o.type e i ht hi ⟨b, 0, none⟩ w
      unfold Oper.wp
      simp [execOp, ho, resolve, invoke, builtin, hs, hx, hrun, Result.andThen]
      exact h b 0 w (fun j u hj => by simp at hj) (Only.refl _ w)
    | some ad =>
      have := step_append_room (P := Try.prog) (ops := ops) (o := o) (a := a) (w := w) (K := K) (Q := Q) (E := E) hgd s x t ho e i size ht hi hsize b 0 0 0 hs ad 0 c [] hx (by simp) (fun j u hj => by simp at hj) h1 (Nat.le_refl _) (fun j hj => by simp at hj) ?_
      · rwa [if_pos hw] at this
      · exact h b 0 w (fun j u hj => by simp at hj) (Only.refl _ w)
  · cases ao with
    | none => exact absurd (hnone rfl).1 h0
    | some ad =>
      obtain ⟨v', w', hrun, hown, hg⟩ := run_append_arg_grows (P := Try.prog) w t o.type e i z size bytes ht hi hz hsize hby hzs hsz ⟨b, 0, none⟩ 0 0 [] (by simp) (fun j u hj => by simp at hj) ad m c news hl (hnews ad rfl) (by omega) (by unfold maxLen; omega) (by rw [Nat.zero_add]; exact hbytes)
      rw [Nat.zero_add, List.nil_append] at hown
      have hown2 := hown
      rcases hown2.2 with ⟨rfl, h0'⟩ | ⟨g, cap, cur, rfl, _, hgc, _⟩
      · exact absurd h0' h0
      · have hk : K (a.put o.dst (.slice (some ⟨g, 0, none⟩) m cap)) w' := h g cap w' (fun j u hj => by
          have := hown.cellAt j (by rw [← hl]; exact (List.getElem?_eq_some_iff.1 hj).1)
          rw [this]
          exact hj) ((Only.refl _ w).grown hg (fun k _ e => by cases e))
        unfold Oper.wp
        simp [execOp, ho, resolve, invoke, builtin, hs, hx, hrun, Result.andThen]
        exact hk


abbrev Ms.cells (c : Ms) : List Value := [.int .u64 c.sq, .int .i64 c.K, .string c.k, .int .u64 c.x, .string c.v, .int .i64 c.off, .int .u64 c.num]
def mcells : List Ms → List Value
  | [] => []
  | c :: r => c.cells ++ mcells r
theorem mcells_append : ∀ (l k : List Ms), mcells (l ++ k) = mcells l ++ mcells k
  | [], k => rfl
  | c :: l, k => by rw [List.cons_append, mcells, mcells, mcells_append l k, List.append_assoc]
theorem mcells_length : ∀ l : List Ms, (mcells l).length = l.length * 7
  | [] => rfl
  | c :: l => by simp [mcells, mcells_length l]; omega
theorem mcells_one : ∀ (l : List Ms), ∀ u ∈ mcells l, u.oneCell' = true
  | [], u, h => by cases h
  | c :: l, u, h => by
    simp only [mcells, Ms.cells, List.cons_append, List.nil_append, List.mem_cons] at h
    rcases h with rfl | rfl | rfl | rfl | rfl | rfl | rfl | h
    · rfl
    · rfl
    · rfl
    · rfl
    · rfl
    · rfl
    · rfl
    · exact mcells_one l u h
theorem mcells_at : ∀ (l : List Ms) (j i : Nat), j < l.length → i < 7 → (mcells l)[j * 7 + i]? = (l.getD j default).cells[i]?
  | [], j, i, h, _ => by simp at h
  | c :: l, 0, i, _, hi => by
    rw [mcells, Nat.zero_mul, Nat.zero_add, List.getElem?_append_left (by simp; omega)]
    rfl
  | c :: l, j + 1, i, h, hi => by
    have ih := mcells_at l j i (by simpa using h) hi
    rw [mcells, List.getElem?_append_right (by simp; omega), List.getD_cons_succ, ← ih]
    congr 1
    simp
    omega
theorem slm_of {w : World} {g : Nat} {cs : List Ms} (hU : ∀ c ∈ cs, MsOk c) (h : ∀ j u, (mcells cs)[j]? = some u → w.cell? ⟨g, j, none⟩ = some u) : SlM w (some ⟨g, 0, none⟩) cs := fun j hj => by
  have e := fun i hi => mcells_at cs j i hj hi
  refine ⟨g, 0, rfl, ?_, ?_, ?_, ?_, ?_, ?_, ?_, hU _ (by simp [hj])⟩
  · rw [Nat.zero_add]; exact h _ _ (e 0 (by omega))
  · rw [Nat.zero_add]; exact h _ _ (e 1 (by omega))
  · rw [Nat.zero_add]; exact h _ _ (e 2 (by omega))
  · rw [Nat.zero_add]; exact h _ _ (e 3 (by omega))
  · rw [Nat.zero_add]; exact h _ _ (e 4 (by omega))
  · rw [Nat.zero_add]; exact h _ _ (e 5 (by omega))
  · rw [Nat.zero_add]; exact h _ _ (e 6 (by omega))
theorem mcells_of {w : World} {ao : Option Addr} {cs : List Ms} (h : SlM w ao cs) : ∀ ad, ao = some ad → ∀ j u, (mcells cs)[j]? = some u → w.cell? (ad.add j) = some u := by
  rintro ad rfl j u hj
  have hl := (List.getElem?_eq_some_iff.1 hj).1
  rw [mcells_length] at hl
  obtain ⟨g, off, e, hv⟩ := h (j / 7) (by omega)
  simp only [Option.some.injEq] at e
  subst e
  rw [add_lit]
  obtain ⟨q, i, rfl, hi⟩ : ∃ q i, j = q * 7 + i ∧ i < 7 := ⟨j / 7, j % 7, by omega, by omega⟩
  rw [show (q * 7 + i) / 7 = q by omega] at hv
  rw [mcells_at cs q i (by omega) hi] at hj
  have hi' : i = 0 ∨ i = 1 ∨ i = 2 ∨ i = 3 ∨ i = 4 ∨ i = 5 ∨ i = 6 := by omega
  rw [← Nat.add_assoc]
  rcases hi' with rfl | rfl | rfl | rfl | rfl | rfl | rfl
  · rw [← Option.some.inj hj]; exact hv.c0
  · rw [← Option.some.inj hj]; exact hv.c1
  · rw [← Option.some.inj hj]; exact hv.c2
  · rw [← Option.some.inj hj]; exact hv.c3
  · rw [← Option.some.inj hj]; exact hv.c4
  · rw [← Option.some.inj hj]; exact hv.c5
  · rw [← Option.some.inj hj]; exact hv.c6

theorem infoMs : (Try.prog.info? 28).map (fun i => (i.zero, i.size, i.bytes)) = some (some (.agg #[.int .u64 0, .int .i64 0, .string ⟨#[]⟩, .int .u64 0, .string ⟨#[]⟩, .int .i64 0, .int .u64 0]), 7, 72) := by kernel_rfl
/-- What an append of one message to a slice of one's own leaves. -/
theorem own_appendM {ops : Array Oper} {rest : List Oper} {o : Oper} {a : Act} {Q : Exit → Act → World → Prop} {w0 wx : World} {v : Value} {xs : List Ms} {J : Res} [Stab J] (h : Own w0 wx (Sep (RowV 28 7 v xs.length (mcells xs)) J)) (m : Ms) (c : Nat)
    (hlen : (xs.length + 1) * 72 ≤ 140737488351232) (hgd : o.guard = none) (s x : Operand) (ho : o.op = .call { callee := .builtin .append, args := #[s, x], argTypes := #[23, 23] })
    (hs : a.eval s = v) (hx : a.eval x = .slice (some ⟨wx.heap.size, 0, none⟩) 1 c)
    (k : ∀ g cap n w', Hid (n = (xs ++ [m]).length) → Hid (Own w0 w' (Sep (RowV 28 7 (.slice (some ⟨g, 0, none⟩) n cap) (xs ++ [m]).length (mcells (xs ++ [m]))) J)) → wpList Try.prog ops Q rest (a.put o.dst (.slice (some ⟨g, 0, none⟩) n cap)) w') :
    wpList Try.prog ops Q (o :: rest) a (wx.alloc (.cells #[.int .u64 m.sq, .int .i64 m.K, .string m.k, .int .u64 m.x, .string m.v, .int .i64 m.off, .int .u64 m.num] 28)) := by
  obtain ⟨i0, hi, hz0, hz1, hz2⟩ := info_parts infoMs
  have HA := (h.alloc (.cells #[.int .u64 m.sq, .int .i64 m.K, .string m.k, .int .u64 m.x, .string m.v, .int .i64 m.off, .int .u64 m.num] 28)).snd
  refine wpList_append_lies (P := Try.prog) (wx.alloc (.cells #[.int .u64 m.sq, .int .i64 m.K, .string m.k, .int .u64 m.x, .string m.v, .int .i64 m.off, .int .u64 m.num] 28)) hgd s x 23 ho 0 28 i0 _ 7 72 Try.underlying23 hi hz0 hz1 hz2 rfl (by decide) v xs.length (mcells xs) hs
    HA.owns ⟨wx.heap.size, 0, none⟩ 1 c m.cells hx rfl (World.news_of_block (B := wx.heap.size) (heap_alloc_new wx _)) (by have := mcells_one [m]; simpa [mcells] using this) (Nat.le_refl _) (by unfold maxLen; omega) (by omega) (Nat.zero_le _) (wx.heap.size + 1) (by simp) ?_
  intro g cap w1 hown hgrow hat hlt
  have e : mcells xs ++ m.cells = mcells (xs ++ [m]) := by rw [mcells_append]; simp [mcells]
  have h5 := HA.appended hown hgrow (hat.imp id (fun e => by simp; omega))
  rw [e] at h5
  refine k g cap (xs.length + 1) w1 (Lib.hid (by simp)) (Lib.hid ?_)
  rw [List.length_append]
  exact h5
theorem row_slm {w0 w : World} {v : Value} {xs : List Ms} {J : Res} (h : Own w0 w (Sep (RowV 28 7 v xs.length (mcells xs)) J)) (hU : ∀ m ∈ xs, MsOk m) : ∃ ao cap, v = .slice ao xs.length cap ∧ SlM w ao xs ∧ Shp ao xs.length cap := by
  have hown := h.owns
  rcases hown.2 with ⟨rfl, h0⟩ | ⟨g, cap, cur, rfl, hb, hg, hc, _⟩
  · exact ⟨none, 0, by rw [h0], fun j hj => by omega, .inl ⟨rfl, h0, rfl⟩⟩
  · refine ⟨some ⟨g, 0, none⟩, cap, rfl, slm_of hU (fun j u hj => ?_), .inr ⟨_, rfl, hc⟩⟩
    have hl := (List.getElem?_eq_some_iff.1 hj).1
    have := hown.cellAt j (by rw [mcells_length] at hl; exact hl)
    rw [this]
    exact hj
theorem SlM.take {w : World} {ao : Option Addr} {l : List Ms} (h : SlM w ao l) (q : Nat) : SlM w ao (l.take q) := fun j hj => by
  rw [List.length_take] at hj
  obtain ⟨g, off, e, hm⟩ := h j (by omega)
  refine ⟨g, off, e, ?_⟩
  rwa [show (l.take q).getD j default = l.getD j default by simp [List.getD_eq_getElem?_getD, List.getElem?_take, show j < q by omega]]
/-- append([]Msg{}, l[..]...): the messages in new memory. -/
theorem step_msgs {ops : Array Oper} {o : Oper} {a : Act} {w : World} {K : Act → World → Prop} {Q : Exit → Act → World → Prop} {E : Prop} (hgd : o.guard = none) (s x : Operand)
    (ho : o.op = .call { callee := .builtin .append, args := #[s, x], argTypes := #[23, 23] })
    (b : Nat) (hs : a.eval s = .slice (some ⟨b, 0, none⟩) 0 0) (ao : Option Addr) (q c : Nat) (l : List Ms) (hq : q = l.length) (hb : l.length * 72 ≤ 140737488351232) (hl : SlM w ao l) (hsh : Shp ao q c) (hx : a.eval x = .slice ao q c)
    (h : ∀ g cap w', SlM w' (some ⟨g, 0, none⟩) l → Only (fun _ => False) w w' → K (a.put o.dst (.slice (some ⟨g, 0, none⟩) q cap)) w') :
    if Region.wanted o (yielded ops a.tmps) = true then Oper.wp Try.prog o a w K Q else E := by
  obtain ⟨i0, hi0, hz0, hz1, hz2⟩ := info_parts infoMs
  subst hq
  refine step_fresh hgd s x _ ho 28 i0 _ 7 72 Try.underlying23 hi0 hz0 hz1 hz2 rfl (by decide) b hs ao l.length c (mcells l) hx (fun e => hsh.none e) (by rw [mcells_length])
    (mcells_of hl) (mcells_one _) (by omega) (by omega) ?_
  intro g cap w' hr ho'
  exact h g cap w' (slm_of hl.ok hr) ho'

end Go.Proofs.Ytlmpknhekoeecaa
