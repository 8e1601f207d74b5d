/-
  A slice of one's own that begins somewhere in its block (what 's = s[1:]' leaves), as a part of memory: appended to, its front taken off.
-/
import Derived.Test.YtoldkhdobdlmfaaWalJ6
import Derived.ArgAppend
namespace Go.Proofs.Ytoldkhdobdlmfaa
open Go Go.RowKit
set_option linter.unusedVariables false
set_option linter.unusedSimpArgs false
set_option maxRecDepth 100000

/-- The slice's cells in its block. -/
structure QueAt (w : World) (e : TypeId) (size g off n cap : Nat) (xs : List Value) : Prop where
  there : ∃ cur : Array Value, w.heap[g]? = some (.cells cur e (0, 0)) ∧ off + cap * size ≤ cur.size ∧ (cur.toList.drop off).take (n * size) = xs
  le : n ≤ cap
  max : cap ≤ maxLen
def QueV (e : TypeId) (size : Nat) (v : Value) (n : Nat) (xs : List Value) : Res := fun w F =>
  (v = .slice none 0 0 ∧ n = 0 ∧ xs = [] ∧ ∀ k, ¬ F k) ∨ ∃ g off cap, v = .slice (some ⟨g, off, none⟩) n cap ∧ QueAt w e size g off n cap xs ∧ ∀ k, F k ↔ k = g
instance {e : TypeId} {size : Nat} {v : Value} {n : Nat} {xs : List Value} : Stab (QueV e size v n xs) where
  lt := by
    rintro w F (⟨_, _, _, hF⟩ | ⟨g, off, cap, _, ⟨⟨cur, hg, _⟩, _, _⟩, hF⟩) k hk
    · exact (hF k hk).elim
    · rw [(hF k).1 hk]; exact lt_of_some hg
  keep := by
    rintro w w' F (⟨h1, h2, h3, hF⟩ | ⟨g, off, cap, hv, ⟨⟨cur, hg, hc⟩, hle, hmx⟩, hF⟩) hk
    · exact .inl ⟨h1, h2, h3, hF⟩
    · exact .inr ⟨g, off, cap, hv, ⟨⟨cur, (hk g ((hF g).2 rfl)).trans hg, hc⟩, hle, hmx⟩, hF⟩
theorem Own.que_nil {w0 w : World} {I : Res} (h : Own w0 w I) (e : TypeId) (size : Nat) : Own w0 w (Sep (QueV e size (.slice none 0 0) 0 []) I) := by
  obtain ⟨F, h1, h2, h3⟩ := h
  exact ⟨F, ⟨fun _ => False, F, .inl ⟨rfl, rfl, rfl, fun _ h => h⟩, h1, fun _ h => h.elim, fun k => by simp⟩, h2, h3⟩
theorem Own.que {w0 w : World} {e : TypeId} {size : Nat} {v : Value} {n : Nat} {xs : List Value} {J : Res} (h : Own w0 w (Sep (QueV e size v n xs) J)) :
    (v = .slice none 0 0 ∧ n = 0 ∧ xs = []) ∨ ∃ g off cap, v = .slice (some ⟨g, off, none⟩) n cap ∧ QueAt w e size g off n cap xs := by
  obtain ⟨F, ⟨A, B, hA, _⟩, _⟩ := h
  rcases hA with ⟨h1, h2, h3, _⟩ | ⟨g, off, cap, h1, h2, _⟩
  · exact .inl ⟨h1, h2, h3⟩
  · exact .inr ⟨g, off, cap, h1, h2⟩
theorem Own.que_shape {w0 w : World} {e : TypeId} {size : Nat} {v : Value} {n : Nat} {xs : List Value} {J : Res} (h : Own w0 w (Sep (QueV e size v n xs) J)) : ∃ ao cap, v = .slice ao n cap := by
  rcases h.que with ⟨rfl, rfl, _⟩ | ⟨g, off, cap, rfl, _⟩
  · exact ⟨none, 0, rfl⟩
  · exact ⟨_, cap, rfl⟩
theorem QueAt.cell {w : World} {e : TypeId} {size g off n cap : Nat} {xs : List Value} (h : QueAt w e size g off n cap xs) {j : Nat} {u : Value} (hj : xs[j]? = some u) : w.cell? ⟨g, off + j, none⟩ = some u := by
  obtain ⟨cur, hg, _, ht⟩ := h.there
  rw [← ht, List.getElem?_take] at hj
  split at hj
  · rw [List.getElem?_drop] at hj
    simpa [World.cell?, hg] using hj
  · cases hj

/-- The front element taken off. -/
def tailAt (size g off cap : Nat) : Addr := if cap = 1 then ⟨g, off, none⟩ else ⟨g, off + size, none⟩
theorem QueAt.tail {w : World} {e : TypeId} {size g off n cap : Nat} {xs : List Value} (h : QueAt w e size g off n cap xs) (hn : 1 ≤ n) : ∃ o', tailAt size g off cap = ⟨g, o', none⟩ ∧ QueAt w e size g o' (n - 1) (cap - 1) (xs.drop size) := by
  obtain ⟨cur, hg, hs, ht⟩ := h.there
  have hle := h.le
  have hmx := h.max
  by_cases h1 : cap = 1
  · have hn1 : n = 1 := by omega
    subst h1
    subst hn1
    refine ⟨off, by simp [tailAt], ⟨cur, hg, by omega, ?_⟩, by omega, by omega⟩
    have hl : xs.length ≤ size := by rw [← ht]; simp; omega
    rw [List.drop_of_length_le hl]
    simp
  · refine ⟨off + size, by simp [tailAt, h1], ⟨cur, hg, ?_, ?_⟩, by omega, by omega⟩
    · obtain ⟨c, rfl⟩ : ∃ c, cap = c + 1 := ⟨cap - 1, by omega⟩
      rw [Nat.add_mul, Nat.one_mul] at hs
      simp
      omega
    · obtain ⟨m, rfl⟩ : ∃ m, n = m + 1 := ⟨n - 1, by omega⟩
      rw [← ht, List.drop_take, List.drop_drop, Nat.add_mul, Nat.one_mul]
      simp
theorem Own.tail {w0 w : World} {e : TypeId} {size g off n cap : Nat} {xs : List Value} {J : Res} (h : Own w0 w (Sep (QueV e size (.slice (some ⟨g, off, none⟩) n cap) n xs) J)) (hn : 1 ≤ n) :
    Own w0 w (Sep (QueV e size (.slice (some (tailAt size g off cap)) (n - 1) (cap - 1)) (n - 1) (xs.drop size)) J) := by
  obtain ⟨F, ⟨A, B, hA, hB, hd, hF⟩, h2, h3⟩ := h
  rcases hA with ⟨h1, _⟩ | ⟨g', off', cap', hv, hq, hFA⟩
  · simp at h1
  · simp at hv
    obtain ⟨⟨rfl, rfl⟩, rfl⟩ := hv
    obtain ⟨o', e1, hq'⟩ := hq.tail hn
    exact ⟨F, ⟨A, B, .inr ⟨g, o', _, by rw [e1], hq', hFA⟩, hB, hd, hF⟩, h2, h3⟩
theorem run_tail {P : Program} (w : World) (t e : TypeId) (size : Nat) (hu : P.underlying t = some (.slice e)) (hs : (P.info? e).map (·.size) = some size) (g off n cap : Nat) (hn : 1 ≤ n) (hc : n ≤ cap) :
    (Instr.slice t (.slice (some ⟨g, off, none⟩) n cap) (some (.int .i64 1)) none none).run P w = .ok (.slice (some (tailAt size g off cap)) (n - 1) (cap - 1)) w := by
  obtain ⟨i, hi, hsz⟩ := Option.map_eq_some_iff.1 hs
  have h1 : (0 : Int) ≤ 1 ∧ (1 : Int) ≤ (n : Int) := ⟨by decide, by omega⟩
  unfold tailAt
  have hb := run_sliceBound (P := P) (w := w) .i64 1 n .sliceB (by decide) h1.2
  simp [Instr.slice, Instr.sliceBounds, run_underlying hu, sizeOf, typeInfo, hi, hsz, hb, Addr.add_lit]
  by_cases h2 : cap = 1 <;> simp [h2]

/-- One element more, whichever way it goes. -/
theorem wpList_append_que {P : Program} {w0 w : World} {ops : Array Oper} {rest : List Oper} {o : Oper} {a : Act} {Q : Exit → Act → World → Prop}
    (hg : o.guard = none) (s x : Operand) (t : TypeId) (hop : o.op = Op.call { callee := Callee.builtin Builtin.append, args := #[s, x], argTypes := #[t, t] })
    (e : TypeId) (i : TypeInfo) (z : Value) (size bytes : Nat) (h1 : P.underlying t = some (.slice e)) (h2 : P.info? e = some i) (h3 : i.zero = some z) (h4 : i.size = size) (h5 : i.bytes = bytes) (h6 : z.cells.size = size) (h7 : 0 < size)
    (v : Value) (n : Nat) (xs : List Value) (J : Res) [Stab J] (hs : a.eval s = v) (h : Own w0 w (Sep (QueV e size v n xs) J)) (hxs : xs.length = n * size)
    (ad : Addr) (c : Nat) (news : List Value) (hx : a.eval x = .slice (some ad) 1 c) (hn : news.length = 1 * size) (hc : ∀ j u, news[j]? = some u → w.cell? (ad.add j) = some u) (h1c : ∀ u ∈ news, u.oneCell' = true)
    (b1 : n + 1 ≤ maxLen) (b2 : (n + 1) * bytes ≤ 140737488355328)
    (hK : ∀ g off cap w', Own w0 w' (Sep (QueV e size (.slice (some ⟨g, off, none⟩) (n + 1) cap) (n + 1) (xs ++ news)) J) → wpList P ops Q rest (a.put o.dst (.slice (some ⟨g, off, none⟩) (n + 1) cap)) w') :
    wpList P ops Q (o :: rest) a w := by
  have hgrown : ∀ v' w', w'.ownsRow w.heap.size e size v' (n + 1) (xs ++ news) → w.grownBy w' none → ∃ g cap, v' = .slice (some ⟨g, 0, none⟩) (n + 1) cap ∧ Own w0 w' (Sep (QueV e size v' (n + 1) (xs ++ news)) J) := by
    intro v' w' r1 r2
    rcases r1.2 with ⟨_, h0⟩ | ⟨g, cap, cur, rfl, hgb, hg', hle, hmx, hsz, ht⟩
    · omega
    · refine ⟨g, cap, rfl, ?_⟩
      obtain ⟨F, ⟨A, B, hA, hB, hd, hF⟩, k2, k3⟩ := h
      refine ⟨fun k => k = g ∨ B k, ⟨fun k => k = g, B, .inr ⟨g, 0, cap, rfl, ⟨⟨cur, hg', by omega, by rw [List.drop_zero]; exact ht⟩, hle, hmx⟩, fun _ => Iff.rfl⟩, Stab.keep hB (fun k hk => r2.block k (Stab.lt hB k hk) (fun e => by cases e)), ?_, fun _ => Iff.rfl⟩, ?_, ?_⟩
      · rintro k rfl hk; have := Stab.lt hB _ hk; omega
      · rintro k (rfl | hk)
        · have := k3.size; omega
        · exact k2 k ((hF k).2 (.inr hk))
      · exact k3.grown r2 (fun k _ e => by cases e)
  rcases h.que with ⟨rfl, rfl, rfl⟩ | ⟨g, off, cap, rfl, hq⟩
  · refine wpList_append_grows w hg s x t hop e i z size bytes h1 h2 h3 h4 h5 h6 h7 none 0 0 [] hs (fun _ => ⟨rfl, rfl⟩) hxs (fun b e => by cases e) ad 1 c news hx hn hc h1c (by omega) b1 b2 ?_
    intro v' w' r1 r2
    obtain ⟨g, cap, rfl, ho⟩ := hgrown v' w' r1 r2
    exact hK _ _ _ _ ho
  · obtain ⟨cur, hcur, hsz, ht⟩ := hq.there
    have hle := hq.le
    have hmul : n + 1 ≤ cap → (n + 1) * size ≤ cap * size := fun hr => Nat.mul_le_mul_right _ hr
    refine wpList_append_arg w hg s x t hop e i z size bytes h1 h2 h3 h4 h5 h6 h7 g off n cap xs hs hxs (fun j u hj => hq.cell hj) ad 1 c news hx hn hc h1c ?_ b1 b2 ?_ ?_
    · intro hr j hj
      have := hmul hr
      rw [Nat.add_mul, Nat.one_mul] at this
      refine ⟨?_, by simp [World.frozen?, hcur]⟩
      simp [World.cell?, hcur]
      omega
    · intro hr
      refine hK _ _ _ _ ?_
      have hm := hmul hr
      rw [Nat.add_mul, Nat.one_mul] at hm
      obtain ⟨F, ⟨A, B, hA, hB, hd, hF⟩, k2, k3⟩ := h
      have hAg : A g := by
        rcases hA with ⟨e, _⟩ | ⟨g', off', cap', e, _, hFA⟩
        · simp at e
        · simp at e; obtain ⟨⟨rfl, rfl⟩, _⟩ := e; exact (hFA _).2 rfl
      have hAo : ∀ k, A k ↔ k = g := by
        rcases hA with ⟨e, _⟩ | ⟨g', off', cap', e, _, hFA⟩
        · simp at e
        · simp at e; obtain ⟨⟨rfl, rfl⟩, _⟩ := e; exact hFA
      have hcur' : w.heap[g]? = some (.cells cur.toList.toArray e (0, 0)) := by simpa using hcur
      have hnl : news.length = size := by omega
      have hnew := heap_setCells g e news (off + n * size) w cur.toList hcur' (by simp; omega)
      have hxl : (cur.toList.drop off).take (n * size) = xs := ht
      refine ⟨F, ⟨A, B, .inr ⟨g, off, cap, rfl, ⟨⟨_, hnew, ?_, ?_⟩, hr, hq.max⟩, hAo⟩, Stab.keep hB (fun k hk => heap_setCells_other g news _ w k (fun e => hd g hAg (e ▸ hk))), hd, hF⟩, k2, ?_⟩
      · simp
        omega
      · rw [Nat.add_mul, Nat.one_mul, List.append_assoc, List.drop_append_of_le_length (by simp; omega), List.drop_take, show off + n * size - off = n * size by omega, hxl]
        rw [List.take_append, List.take_of_length_le (by omega), hxs, show n * size + size - n * size = size by omega, List.take_append_of_le_length (by omega), List.take_of_length_le (by omega)]
      · exact k3.trans (Only.setCells w g _ news) (fun k hk e => by
          subst e
          have := k2 _ ((hF _).2 (.inl hAg))
          omega)
    · intro hr v' w' r1 r2
      obtain ⟨g, cap, rfl, ho⟩ := hgrown v' w' r1 r2
      exact hK _ _ _ _ ho

end Go.Proofs.Ytoldkhdobdlmfaa
