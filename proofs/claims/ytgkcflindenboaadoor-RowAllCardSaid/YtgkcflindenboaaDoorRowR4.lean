/-
  The document's own rows: where take stands: the values read, where each begins (nothing is walked here).
-/
import Derived.Test.YtgkcflindenboaaDoorRowR3
import Derived.Test.YtgkcflindenboaaDoorRefIn
namespace Go.Proofs.YtgkcflindenboaaDoor
open Go Go.RowKit
set_option linter.unusedVariables false
set_option linter.unusedSimpArgs false
set_option maxRecDepth 100000

/-- What take has read of the bytes r behind a row's first byte: the values, the places where they begin. -/
structure TakeS (cs : List Cv) (r : List UInt8) (vs : List Vv) (ats : List Nat) (k : Nat) (xs : List UInt8) : Prop where
  rd : RdS cs r vs k xs false
  len : ats.length = k
  pos : r.length ≤ 511 → (∀ c ∈ cs, c.E = 0) → r = rowL (vs.map Vv.vl) ++ xs ∧ ∀ j, j < k → ats.getD j 0 = 1 + (rowL ((vs.map Vv.vl).take j)).length
theorem TakeS.start (cs : List Cv) (r : List UInt8) : TakeS cs r [] [] 0 r :=
  ⟨⟨rfl, (fun v hv => by cases hv), (fun _ => by simp), (fun h => by cases h)⟩, rfl, fun _ _ => ⟨rfl, fun j hj => absurd hj (Nat.not_lt_zero _)⟩⟩
theorem TakeS.next {cs : List Cv} {r xs q : List UInt8} {vs : List Vv} {ats : List Nat} {k a : Nat} {v : Vv} (h : TakeS cs r vs ats k xs) (hk : k < cs.length) (hN : U64 v.N)
    (h2 : take1 (cs.getD k default).K xs = some (v.vl, q)) (hf : (cs.getD k default).fit v.vl = 0) (ha : a + xs.length = 1 + r.length) : TakeS cs r (vs ++ [v]) (ats ++ [a]) (k + 1) q := by
  refine ⟨h.rd.next hk hN (fun e => by cases e) (fun _ => by rw [if_neg (by decide)]; exact h2) hf, by simp [h.len], fun hr hc => ?_⟩
  obtain ⟨p1, p2⟩ := h.pos hr hc
  have hce : (cs.getD k default).E = 0 := hc _ (by simp [hk])
  have hxl : xs.length ≤ 512 := by
    have := congrArg List.length p1
    rw [List.length_append] at this
    omega
  have hu := (rb_take1 hce hxl h2 hf).1
  have hvl := h.rd.len
  refine ⟨by rw [p1, List.map_append, rowL_append, List.append_assoc, hu]; simp [rowL], fun j hj => ?_⟩
  rcases Nat.lt_or_ge j k with h1 | h1
  · rw [List.getD_eq_getElem?_getD, List.getElem?_append_left (by rw [h.len]; exact h1), ← List.getD_eq_getElem?_getD, p2 j h1, List.map_append, List.take_append_of_le_length (by rw [List.length_map, hvl]; omega)]
  · obtain rfl : j = k := by omega
    rw [List.getD_eq_getElem?_getD, List.getElem?_append_right (by rw [h.len]; exact Nat.le_refl _), h.len, Nat.sub_self]
    rw [List.map_append, List.take_append_of_le_length (by rw [List.length_map, hvl]; exact Nat.le_refl _), List.take_of_length_le (by rw [List.length_map, hvl]; exact Nat.le_refl _)]
    have e := congrArg List.length p1
    rw [List.length_append] at e
    show a = _
    omega
theorem TakeS.fell {cs : List Cv} {r xs : List UInt8} {vs : List Vv} {ats : List Nat} {k : Nat} (h : TakeS cs r vs ats k xs) (hk : k < cs.length) (h2 : take1 (cs.getD k default).K xs = none) : takeL cs r = none := by
  rw [h.rd.good rfl, takeL_step hk, h2]
  rfl
theorem TakeS.unfit {cs : List Cv} {r xs q : List UInt8} {vs : List Vv} {ats : List Nat} {k : Nat} {v : Vl} (h : TakeS cs r vs ats k xs) (hk : k < cs.length) (h2 : take1 (cs.getD k default).K xs = some (v, q)) (hf : (cs.getD k default).fit v ≠ 0) : takeL cs r = none := by
  rw [h.rd.good rfl, takeL_step hk, h2]
  simp only
  rw [if_neg hf]
  rfl
theorem TakeS.ends {cs : List Cv} {r xs : List UInt8} {vs : List Vv} {ats : List Nat} {k : Nat} (h : TakeS cs r vs ats k xs) (hk : k = cs.length) : takeL cs r = if xs = [] then some (vs.map Vv.vl) else none := by
  rw [h.rd.good rfl, hk, List.drop_length]
  show (if xs = [] then some [] else none).map _ = _
  split <;> simp

end Go.Proofs.YtgkcflindenboaaDoor
