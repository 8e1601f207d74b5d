/-
  NodeBack: its parts of memory: cells of one's own that are written over; one byte more, one byte less.
-/
import Derived.Test.YtookbmpaoljelaaNodeAw
import Derived.Test.YtookbmpaoljelaaNodeRaw2
import Derived.Test.YtookbmpaoljelaaNodeApart
import Derived.Test.YtookbmpaoljelaaRaw
import Derived.Test.YtookbmpaoljelaaApart
import Derived.Deep.MidRow
namespace Go.Proofs.Ytookbmpaoljelaa
open Go Go.RowKit
set_option linter.unusedVariables false
set_option linter.unusedSimpArgs false
set_option maxRecDepth 100000

theorem Own.join {w0 w w' : World} {I J : Res} [Stab I] (h : Own w0 w I) (k : Own w w' J) : Own w0 w' (Sep J I) := by
  obtain ⟨F, h1, h2, h3⟩ := k
  exact h.fresh h3 h1 h2
/-- Cells of one's own, whatever stands in them. -/
def BagS (v : Value) (m : Nat) : Res := fun w F => (∀ k, F k ↔ v.ownBlock = some k) ∧ ∀ k, v.ownBlock = some k → ∃ cs t, w.heap[k]? = some (.cells cs t (0, 0)) ∧ m ≤ cs.size
instance {v : Value} {m : Nat} : Stab (BagS v m) where
  lt := fun h k hk => by
    obtain ⟨cs, t, h1, _⟩ := h.2 k ((h.1 k).1 hk)
    exact lt_of_some h1
  keep := fun h hk => ⟨h.1, fun k e => by
    obtain ⟨cs, t, h1, h2⟩ := h.2 k e
    exact ⟨cs, t, (hk k ((h.1 k).2 e)).trans h1, h2⟩⟩
theorem bag_of {w0 w : World} {e : TypeId} {size n : Nat} {v : Value} {xs : List Value} {J : Res} (h : Own w0 w (Sep (RowV e size v n xs) J)) : Own w0 w (Sep (BagS v xs.length) J) :=
  h.imp fun F hF => hF.imp (fun A hA => ⟨hA.2, fun k hk => by
    rcases hA.1.2 with ⟨rfl, _⟩ | ⟨g, cap, cur, rfl, _, hg, _, _, _, ht⟩
    · simp [Value.ownBlock] at hk
    · simp [Value.ownBlock] at hk
      subst hk
      refine ⟨cur, e, hg, ?_⟩
      have := congrArg List.length ht
      rw [List.length_take] at this
      simp at this
      omega⟩) (fun _ h => h)
theorem bag_there {w0 w : World} {g n c m : Nat} {J : Res} (h : Own w0 w (Sep (BagS (.slice (some ⟨g, 0, none⟩) n c) m) J)) {o k : Nat} (ho : o + k ≤ m) : w.there g o k := by
  obtain ⟨F, ⟨A, B, hA, _⟩, _⟩ := h
  obtain ⟨cs, t, h1, h2⟩ := hA.2 g rfl
  intro j hj
  refine ⟨?_, frozen_of_row w g _ cs t h1⟩
  rw [cell_of_row w g _ _ _ _ h1, Array.getElem?_eq_getElem (by omega)]
  rfl
theorem bag_cell {w0 w : World} {g n c m : Nat} {J : Res} (h : Own w0 w (Sep (BagS (.slice (some ⟨g, 0, none⟩) n c) m) J)) {o : Nat} (ho : o < m) : ∃ v, w.cell? ⟨g, o, none⟩ = some v ∧ w.frozen? ⟨g, o, none⟩ = false := by
  have := bag_there h (o := o) (k := 1) (by omega) 0 (by omega)
  rw [Nat.add_zero] at this
  obtain ⟨h1, h2⟩ := this
  rw [Option.isSome_iff_exists] at h1
  obtain ⟨v, hv⟩ := h1
  exact ⟨v, hv, h2⟩
theorem bag_set {w0 w : World} {g n c m : Nat} {J : Res} [Stab J] (h : Own w0 w (Sep (BagS (.slice (some ⟨g, 0, none⟩) n c) m) J)) (o : Nat) (u : Value) : Own w0 (w.setCell ⟨g, o, none⟩ u) (Sep (BagS (.slice (some ⟨g, 0, none⟩) n c) m) J) := by
  obtain ⟨F, ⟨A, B, hA, hB, hd, hF⟩, h2, h3⟩ := h
  obtain ⟨cs, t, h4, h5⟩ := hA.2 g rfl
  have hg : A g := (hA.1 g).2 rfl
  have hs := Only.cell w g o u
  refine ⟨F, ⟨A, B, ⟨hA.1, fun k hk => ?_⟩, Stab.keep hB (fun k hk => hs.block k (Stab.lt hB k hk) (fun e => hd k (e ▸ hg) hk)), hd, hF⟩, h2, h3.trans hs (fun k hk e => ?_)⟩
  · simp [Value.ownBlock] at hk
    subst hk
    exact ⟨_, t, heap_set h4 o u, by simpa using h5⟩
  · have := h2 g ((hF g).2 (.inl hg))
    omega
theorem bag_sets {w0 : World} {g n c m : Nat} {J : Res} [Stab J] : ∀ (vs : List Value) (o : Nat) (w : World), Own w0 w (Sep (BagS (.slice (some ⟨g, 0, none⟩) n c) m) J) → Own w0 (w.setCells g o vs) (Sep (BagS (.slice (some ⟨g, 0, none⟩) n c) m) J)
  | [], o, w, h => h
  | v :: r, o, w, h => by
    rw [World.setCells]
    exact bag_sets r (o + 1) _ (bag_set h o v)
theorem slc_less {w : World} {ao : Option Addr} {n c : Nat} {xs : List UInt8} {b : UInt8} (h : SlC w (.slice ao n c) (xs ++ [b])) : SlC w (.slice ao xs.length c) xs := by
  rcases h with ⟨_, h0⟩ | ⟨a, cap, e, hc⟩
  · simp at h0
  · simp only [Value.slice.injEq] at e
    obtain ⟨rfl, _, rfl⟩ := e
    refine .inr ⟨a, c, rfl, fun j hj => ?_⟩
    rw [hc j (by simp; omega)]
    simp [List.getD_eq_getElem?_getD, List.getElem?_append_left hj]
theorem split_last {l : List UInt8} (h : l ≠ []) : ∃ xs c, l = xs ++ [c] := ⟨l.dropLast, l.getLast h, (List.dropLast_concat_getLast h).symm⟩
theorem rowv_cap {w : World} {b : Nat} {e : TypeId} {size n c : Nat} {ao : Option Addr} {xs : List Value} (h : w.ownsRow b e size (.slice ao n c) n xs) : n ≤ c := by
  rcases h.2 with ⟨e1, h0⟩ | ⟨g, cap, cur, e1, _, _, hc, _⟩
  · omega
  · simp at e1; omega
theorem row_ptr {w : World} {b : Nat} {e : TypeId} {size n c : Nat} {ao : Option Addr} {xs : List Value} (h : w.ownsRow b e size (.slice ao n c) n xs) : n = 0 ∨ ∃ g, ao = some ⟨g, 0, none⟩ := by
  rcases h.2 with ⟨e1, h0⟩ | ⟨g, cap, cur, e1, _⟩
  · exact .inl h0
  · simp only [Value.slice.injEq] at e1
    exact .inr ⟨g, e1.1⟩
theorem back_bags {w0 w : World} {H : Nh} {n : Nd} {hs : List Hd} {A K : Res} (h : Own w0 w (Sep A (Sep (NodR H n hs) K))) :
    Own w0 w (Sep (BagS (.slice H.eo n.es.length H.ec) (n.es.length * 6)) (Sep (BagS (.slice H.ko n.ks.length H.kc) n.ks.length) (Sep A K))) ∧ (n.es.length = 0 ∨ ∃ g, H.eo = some ⟨g, 0, none⟩) ∧ (n.ks.length = 0 ∨ ∃ g, H.ko = some ⟨g, 0, none⟩) := by
  have h1 := h.swap.assoc
  have p1 := row_ptr h1.owns
  have h2 := (bag_of h1).comm.assoc.assoc.snd.assoc
  have p2 := row_ptr h2.owns
  have h3 := (bag_of h2).swap.snd.comm.assoc.comm.assoc
  rw [cAll_length, cAll_length] at h3
  refine ⟨?_, p1, p2⟩
  have e : n.ks.length * Cel.size Int = n.ks.length := Nat.mul_one _
  rw [e] at h3
  exact h3
theorem back_order {w0 w : World} {G A N C D K : Res} (h : Own w0 w (Sep G (Sep A (Sep N (Sep C (Sep D K)))))) : Own w0 w (Sep D (Sep C (Sep G (Sep A (Sep N K))))) := h.ac (by ac_rfl)
theorem rowv_ownb {v : Value} {n : Nat} {xs : List UInt8} (hn : n = xs.length) : RowV 5 1 v n (u8s xs) = OwnB v xs := by
  subst hn
  rfl
abbrev ent0 : Array Value := #[.string ⟨#[]⟩, .bool false, .string ⟨#[]⟩, .int .u64 0, .bool false, .string ⟨#[]⟩]
theorem Try.infoEntSize : (Try.prog.info? 45).map (·.size) = some ent0.size := by kernel_rfl
theorem ent0_one : ent0.all (·.oneCell') = true := by decide +kernel

end Go.Proofs.Ytookbmpaoljelaa
