/-
  Contracts of the reference's disk: Write, where it lays a sector.
-/
import Derived.Test.YtidkeglldmbfeaaDiskRef4
import Derived.ArgAppend
namespace Go.Proofs.Ytidkeglldmbfeaa
open Go Go.RowKit
set_option linter.unusedVariables false
set_option linter.unusedSimpArgs false
set_option maxRecDepth 100000

theorem pad_step (b : List UInt8) {k : Nat} (hk : k < b.length) (hb : b.length ≤ 64) : (b.take k ++ List.replicate (64 - k) 0).set k (b.getD k 0) = b.take (k + 1) ++ List.replicate (64 - (k + 1)) 0 := by
  have h1 : (b.take k).length = k := by simp; omega
  rw [List.set_append_right _ _ (by omega), h1, Nat.sub_self, show 64 - k = (64 - (k + 1)) + 1 by omega, List.replicate_succ, List.set_cons_zero, List.take_succ_eq_append_getElem hk, List.append_assoc]
  simp [List.getD_eq_getElem?_getD, hk]

theorem wpList_build_two {P : Program} {ops : Array Oper} {rest : List Oper} {o : Oper} {a : Act} {w : World} {Q : Exit → Act → World → Prop} (hg : o.guard = none) (t : TypeId) (k k2 : Nat) (x x2 : Operand) (ho : o.op = .build t #[(k, x), (k2, x2)])
    (v v2 : Value) (hv : a.eval x = v) (hv2 : a.eval x2 = v2) (cells : Array Value) (hb : P.built t [(k, v), (k2, v2)] = some cells)
    (h : wpList P ops Q rest (a.put o.dst (.agg cells)) w) : wpList P ops Q (o :: rest) a w := by
  have hL : ((#[(k, x), (k2, x2)] : Array (Nat × Operand)).map fun (i, x) => (i, a.eval x)).toList = [(k, v), (k2, v2)] := by simp [hv, hv2]
  refine wpList_build hg t _ ho (by rw [hL, hb]; rfl) ?_
  rw [hL, hb]
  exact h
theorem Try.infoPut : (Try.prog.info? 73).map (fun i => (i.zero, i.size)) = some (some (.agg #[.int .i64 0, .slice none 0 0]), 2) := by kernel_rfl
theorem Try.infoPut3 : (Try.prog.info? 73).map (fun i => (i.zero, i.size, i.bytes)) = some (some (.agg #[.int .i64 0, .slice none 0 0]), 2, 32) := by kernel_rfl
theorem built_put (i : Int) (g : Nat) : Try.prog.built 73 [(0, Value.int .i64 i), (1, .slice (some ⟨g, 0, none⟩) 64 64)] = some #[.int .i64 i, .slice (some ⟨g, 0, none⟩) 64 64] := by kernel_rfl
theorem wputs_snoc (L : List (Nat × Nat)) (i g : Nat) : wputs (L ++ [(i, g)]) = wputs L ++ [.int .i64 i, .slice (some ⟨g, 0, none⟩) 64 64] := by simp [wputs, sl64]
/-- One more write waits: its row has grown, or lies in a new block. -/
theorem RefM.waits {w w' : World} {r gk gs ck cs : Nat} {vw v' : Value} {f : Int} {dn : Bool} {wr sy n m : Nat} {kb sb : List Nat} {wb : List (Nat × Nat)} (h : RefM w r gk gs ck cs vw f dn wr sy n m kb sb wb) (x : Nat × Nat)
    (hown : w'.ownsRow 0 73 2 v' (m + 1) (wputs (wb ++ [x]))) (ho : Only (fun k => vw.ownBlock = some k) w w') (hv : ∀ g, v'.ownBlock = some g → vw.ownBlock = some g ∨ w.heap.size ≤ g) :
    RefM (w'.setCell ⟨r, 2, none⟩ v') r gk gs ck cs v' f dn wr sy n (m + 1) kb sb (wb ++ [x]) ∧ w'.cell? ⟨r, 2, none⟩ = some vw ∧ w'.frozen? ⟨r, 2, none⟩ = false := by
  obtain ⟨n1, n2, n3, n4, n5⟩ := h.apart
  have hr : w'.heap[r]? = w.heap[r]? := ho.block r (h.lt (.inl rfl)) n3
  have hk : ∀ k, k ≠ r → (w'.setCell ⟨r, 2, none⟩ v').heap[k]? = w'.heap[k]? := fun k hk => Below.heap_setCell _ _ _ _ hk
  refine ⟨⟨by rw [heap_set (hr.trans h.at')]; rfl, h.lk, h.ls, by simp [h.lw], own_keepAt h.kept (fun k e => ?_), own_keepAt h.seen (fun k e => ?_), own_keepAt hown (fun k e => hk k ?_), h.ne⟩, ?_, ?_⟩
  · simp [Value.ownBlock] at e
    subst e
    exact (hk _ (Ne.symm n1)).trans (ho.block _ (h.lt (.inr (.inl rfl))) n4)
  · simp [Value.ownBlock] at e
    subst e
    exact (hk _ (Ne.symm n2)).trans (ho.block _ (h.lt (.inr (.inr (.inl rfl)))) n5)
  · rintro rfl
    rcases hv _ e with e | e
    · exact n3 e
    · have := h.lt (.inl rfl); omega
  · simp [World.cell?, hr, h.at']
  · simp [World.frozen?, hr, h.at']

theorem ref_lay {w w' : World} {r gk gs ck cs : Nat} {vw v' : Value} {f f1 : Int} {kb sb : List Nat} {wb : List (Nat × Nat)} {D : DS} (h : RefAt w r gk gs ck cs vw f kb sb wb D) {i g : Nat} {s : List UInt8} (hi : i < D.n) (hs : s.length = 64)
    (hdn : D.last.down = false) (hf : f1 = if D.last.fuse < 0 then -1 else D.last.fuse) (hfr : -9223372036854775808 ≤ D.last.fuse ∧ D.last.fuse ≤ 9223372036854775807) (hm : RefM w' r gk gs ck cs v' f1 false (D.wr + 1) D.sy D.n (D.W.length + 1) kb (sb.set i g) (wb ++ [(i, g)])) (ho : Only (RCore r gk gs vw) w w') (hp : HasB w' g s) :
    RefAt w' r gk gs ck cs v' f1 kb (sb.set i g) (wb ++ [(i, g)]) (D.last.lay i s) := by
  obtain ⟨q1, q2, q3, q4, q5, q6⟩ := DS.last_same D
  have hlay : D.last.lay i s = { n := D.n, N := put D.N i s, K := D.K, W := D.W ++ [(i, s)], fuse := D.last.fuse, down := D.last.down, wr := D.wr + 1, sy := D.sy } := by
    simp only [DS.lay, q1, q2, q3, q4, q5, q6]
  rw [hlay]
  refine ⟨⟨h.ok.n, put_length h.ok.N hi hs, h.ok.K, fun x hx => ?_, hfr⟩, ?_, fun _ => hf, fun j hj => (h.hk j hj).hold h.m ho, fun j hj => ?_, fun j hj => ?_⟩
  · rcases List.mem_append.1 hx with hx | hx
    · exact h.ok.W x hx
    · obtain rfl := List.mem_singleton.1 hx
      exact ⟨hi, hs⟩
  · rw [hdn]
    simp only [List.length_append, List.length_cons, List.length_nil]
    exact hm
  · by_cases e : j = i
    · subst e
      rw [sec_put_same h.ok.N hi hs]
      have : (sb.set j g).getD j 0 = g := by simp [List.getD_eq_getElem?_getD, h.m.ls, hi]
      rw [this]
      exact hp
    · rw [sec_put_other h.ok.N hi hs e]
      have : (sb.set i g).getD j 0 = sb.getD j 0 := by simp [List.getD_eq_getElem?_getD, List.getElem?_set_ne (Ne.symm e)]
      rw [this]
      exact (h.hs j hj).hold h.m ho
  · simp only [List.length_append, List.length_cons, List.length_nil] at hj
    by_cases e : j < D.W.length
    · have e1 : (wb ++ [(i, g)]).getD j default = wb.getD j default := by simp [List.getD_eq_getElem?_getD, List.getElem?_append_left (show j < wb.length by rw [h.m.lw]; exact e)]
      have e2 : (D.W ++ [(i, s)]).getD j default = D.W.getD j default := by simp [List.getD_eq_getElem?_getD, List.getElem?_append_left e]
      rw [e1, e2]
      exact ⟨(h.hw j e).1, (h.hw j e).2.hold h.m ho⟩
    · obtain rfl : j = D.W.length := by omega
      have e1 : (wb ++ [(i, g)]).getD D.W.length default = (i, g) := by rw [← h.m.lw]; simp [List.getD_eq_getElem?_getD]
      have e2 : (D.W ++ [(i, s)]).getD D.W.length default = (i, s) := by simp [List.getD_eq_getElem?_getD]
      rw [e1, e2]
      exact ⟨rfl, hp⟩
theorem ref_lay_foot {w : World} {r gk gs : Nat} {vw v' : Value} {kb sb : List Nat} {wb : List (Nat × Nat)} {i g : Nat} (hv : ∀ k, v'.ownBlock = some k → vw.ownBlock = some k ∨ w.heap.size ≤ k) (hg : w.heap.size ≤ g) (k : Nat) (hk : RFoot r gk gs v' kb (sb.set i g) (wb ++ [(i, g)]) k) :
    RFoot r gk gs vw kb sb wb k ∨ w.heap.size ≤ k := by
  rcases hk with hk | hk | hk | hk | hk | hk | hk
  · exact .inl (.inl hk)
  · exact .inl (.inr (.inl hk))
  · exact .inl (.inr (.inr (.inl hk)))
  · rcases hv k hk with h | h
    · exact .inl (.inr (.inr (.inr (.inl h))))
    · exact .inr h
  · exact .inl (.inr (.inr (.inr (.inr (.inl hk)))))
  · rcases List.mem_or_eq_of_mem_set hk with h | rfl
    · exact .inl (.inr (.inr (.inr (.inr (.inr (.inl h))))))
    · exact .inr hg
  · rw [List.map_append, List.mem_append] at hk
    rcases hk with h | h
    · exact .inl (.inr (.inr (.inr (.inr (.inr (.inr h))))))
    · simp at h; subst h; exact .inr hg

theorem run_make64 (w : World) : (Instr.makeSlice 31 (.int .i64 64) (.int .i64 64)).run Try.prog w = .ok (.slice (some ⟨w.heap.size, 0, none⟩) 64 64) (w.alloc (.cells (u8s (List.replicate 64 0)).toArray 5)) := by
  obtain ⟨i, hi, hz, hs, hb⟩ := info_parts Try.infoU8
  have := run_make (P := Try.prog) w 31 5 i (.int .u8 0) Try.underlying31 hi hz .i64 .i64 64 64 (by omega) (Int.le_refl _) (by rw [hb]; omega) (by omega)
  have e : madeCells #[Value.int .u8 0] 64 = (u8s (List.replicate 64 0)).toArray := Array.toList_inj.1 (by rw [toList_madeCells_one]; rfl)
  rw [this]
  simp only [hs, Value.cells, Nat.mul_one]
  exact congrArg (fun c => Result.ok (Value.slice (some ⟨w.heap.size, 0, none⟩) 64 64) (w.alloc (.cells c 5))) e

end Go.Proofs.Ytidkeglldmbfeaa
