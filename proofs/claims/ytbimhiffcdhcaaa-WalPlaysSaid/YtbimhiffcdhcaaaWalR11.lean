/-
  A log and the document's log on two disks, side by side: what each call leaves.
-/
import Derived.Test.YtbimhiffcdhcaaaWalR8
import Derived.Test.YtbimhiffcdhcaaaWalR10
namespace Go.Proofs.Ytbimhiffcdhcaaa
open Go Go.RowKit Go.Lib
set_option linter.unusedVariables false
set_option linter.unusedSimpArgs false
set_option maxRecDepth 100000

theorem ownB_mk {w : World} {b : Nat} {v : Value} {xs : List UInt8} (h : w.ownsRow b 5 1 v xs.length (u8s xs)) : OwnB v xs w (fun k => v.ownBlock = some k) := by
  refine ⟨⟨h.1, ?_⟩, fun _ => Iff.rfl⟩
  rcases h.2 with h0 | ⟨g, cap, cur, rfl, hb, rest⟩
  · exact .inl h0
  · exact .inr ⟨g, cap, cur, rfl, Nat.zero_le _, rest⟩
theorem len2 (xs : List UInt8) : (xs ++ [71, 72]).length = xs.length + 2 := by simp
theorem lent_apart {w : World} {g cap : Nat} {xs : List UInt8} {J : Res} {F B : Nat → Prop} (hJ : Sep (OwnB (.slice (some ⟨g, 0, none⟩) (xs ++ [71, 72]).length cap) (xs ++ [71, 72])) J w B) (hd : ∀ k, F k → ¬ B k) : SlO w F (.slice (some ⟨g, 0, none⟩) xs.length cap) xs := by
  obtain ⟨A, C, hA, hC, hac, hB⟩ := hJ
  refine ⟨.inr ⟨⟨g, 0, none⟩, cap, rfl, fun j hj => ?_⟩, fun a m c e hx hk => ?_⟩
  · rw [add_lit, Nat.zero_add, hA.1.cellAt j (by simp; omega), u8s_at (by simp; omega)]
    congr 3
    simp [List.getD_eq_getElem?_getD, List.getElem?_append, hj]
  · simp at e
    obtain ⟨rfl, _, _⟩ := e
    exact hd _ hk ((hB _).2 (.inl ((hA.2 _).2 rfl)))
theorem lent_cap {w : World} {B : Nat} {g n cap : Nat} {xs : List UInt8} (h : w.ownsRow B 5 1 (.slice (some ⟨g, 0, none⟩) n cap) n (u8s xs)) : n ≤ cap := by
  rcases h.2 with ⟨hv, _⟩ | ⟨g', cap', cur, hv, _, _, hc, _⟩
  · cases hv
  · simp at hv
    omega

theorem sync_few (D : DS) : D.sync.W.length ≤ D.W.length ∧ D.sync.wr = D.wr ∧ D.sync.sy ≤ D.sy + 1 ∧ D.sync.n = D.n := by
  unfold DS.sync
  split
  · exact ⟨Nat.le_refl _, rfl, by omega, rfl⟩
  · exact ⟨by simp, rfl, Nat.le_refl _, rfl⟩
theorem fused_few (D : DS) (z : Int) : (D.fused z).W = D.W ∧ (D.fused z).wr = D.wr ∧ (D.fused z).sy = D.sy ∧ (D.fused z).n = D.n := by
  unfold DS.fused
  split <;> exact ⟨rfl, rfl, rfl, rfl⟩
theorem crash_few (D : DS) (keep : List Int) : (D.crash keep).W = [] ∧ (D.crash keep).wr = D.wr ∧ (D.crash keep).sy = D.sy ∧ (D.crash keep).n = D.n := by
  unfold DS.crash
  exact ⟨rfl, rfl, rfl, rfl⟩

/-- The records of a log end within its ring. -/
theorem wAll_in (P : Nat → Option Pc) (M : Nat) : ∀ (fuel s last fr : Nat) (b : Bool) (data : List UInt8), ∀ x ∈ wAll P M fuel s last b fr data, s < x.2.1 ∧ x.2.1 ≤ s + fuel
  | 0, s, last, fr, b, data, x, hx => by simp [wAll] at hx
  | fuel + 1, s, last, fr, b, data, x, hx => by
    rw [wAll_succ] at hx
    cases hp : P s with
    | none => rw [hp] at hx; simp at hx
    | some y =>
      rw [hp] at hx
      simp only at hx
      by_cases h1 : y.fits last M b = true
      · rw [if_pos h1] at hx
        by_cases h2 : 2 ≤ y.f
        · rw [if_pos h2] at hx
          by_cases h3 : (data ++ y.d).length ≤ 32768
          · rw [if_pos h3] at hx
            rcases List.mem_cons.1 hx with rfl | hx
            · exact ⟨by show s < s + 1; omega, by show s + 1 ≤ _; omega⟩
            · have := wAll_in P M fuel (s + 1) _ _ _ _ x hx
              omega
          · rw [if_neg h3] at hx; simp at hx
        · rw [if_neg h2] at hx
          have := wAll_in P M fuel (s + 1) _ _ _ _ x hx
          omega
      · rw [if_neg h1] at hx; simp at hx
theorem found_next (D : DS) (base size least M head : Nat) : head ≤ nextOf head (D.found base size least M head) ∧ nextOf head (D.found base size least M head) ≤ head + size := by
  unfold nextOf
  split
  · omega
  · rename_i h
    have hl : (D.found base size least M head).length - 1 < (D.found base size least M head).length := by omega
    have hm := wAll_in (lookP D.N base size) M size head least head true [] ((D.found base size least M head)[(D.found base size least M head).length - 1]) (List.getElem_mem hl)
    rw [List.getD_eq_getElem?_getD, List.getElem?_eq_getElem hl]
    simp only [Option.getD_some]
    omega
theorem found_len (D : DS) (base size least M head : Nat) : (D.found base size least M head).length ≤ size := wAll_len _ _ _ _ _ _

theorem PlI.start {base size least M head : Nat} (h4 : 4 ≤ size) (hl : base + size ≤ 40) (hM : M < 4294967296) (hh : head ≤ 4611686018427387904) : PlI (DS.new 40) base size M head (nextOf head ((DS.new 40).found base size least M head)) 0 := by
  have := found_next (DS.new 40) base size least M head
  exact ⟨h4, hl, rfl, Coh.new 40, this.1, this.2, by omega, hM, by simp [DS.new], by simp [DS.new], by simp [DS.new]⟩
theorem PlI.trim {D : DS} {base size M head nxt k : Nat} (h : PlI D base size M head nxt k) (tn : Nat) : PlI D base size M (if tn < head ∨ nxt < tn then head else tn) nxt (k + 1) := by
  obtain ⟨h1, h2, h3, h4, h5, h6, h7, h8, h9, h10, h11⟩ := h
  obtain ⟨z, hz⟩ : ∃ z, z = (if tn < head ∨ nxt < tn then head else tn) := ⟨_, rfl⟩
  rw [← hz]
  have hzz : head ≤ z ∧ z ≤ nxt := by
    rw [hz]
    split <;> omega
  exact ⟨h1, h2, h3, h4, hzz.2, by omega, by omega, h8, by omega, by omega, by omega⟩
theorem PlI.sync {D : DS} {base size M head nxt k : Nat} (h : PlI D base size M head nxt k) : PlI D.sync base size M head nxt (k + 1) := by
  obtain ⟨h1, h2, h3, h4, h5, h6, h7, h8, h9, h10, h11⟩ := h
  obtain ⟨f1, f2, f3, f4⟩ := sync_few D
  exact ⟨h1, h2, by rw [f4]; exact h3, h4.sync, h5, h6, by omega, h8, by omega, by omega, by omega⟩
theorem PlI.fused {D : DS} {base size M head nxt k : Nat} (h : PlI D base size M head nxt k) (z : Int) : PlI (D.fused z) base size M head nxt (k + 1) := by
  obtain ⟨h1, h2, h3, h4, h5, h6, h7, h8, h9, h10, h11⟩ := h
  obtain ⟨f1, f2, f3, f4⟩ := fused_few D z
  exact ⟨h1, h2, by rw [f4]; exact h3, h4.fused z, h5, h6, by omega, h8, by rw [f1]; omega, by omega, by omega⟩
theorem PlI.write {D : DS} {base size M head nxt k : Nat} (h : PlI D base size M head nxt k) (i : Int) (b : List UInt8) : PlI (D.write i b) base size M head nxt (k + 1) := by
  obtain ⟨h1, h2, h3, h4, h5, h6, h7, h8, h9, h10, h11⟩ := h
  have f := write_few D i b
  have f2 := write_sy D i b
  exact ⟨h1, h2, by rw [write_sz]; exact h3, h4.write i b, h5, h6, by omega, h8, by omega, by omega, by omega⟩
theorem PlI.crash {D : DS} {base size M head nxt k : Nat} (h : PlI D base size M head nxt k) (ok : D.Ok) (keep : List Int) : PlI (D.crash keep) base size M head nxt (k + 1) := by
  obtain ⟨h1, h2, h3, h4, h5, h6, h7, h8, h9, h10, h11⟩ := h
  obtain ⟨f1, f2, f3, f4⟩ := crash_few D keep
  exact ⟨h1, h2, by rw [f4]; exact h3, h4.crash ok keep, h5, h6, by omega, h8, by rw [f1]; simp, by omega, by omega⟩
theorem PlI.open' {D : DS} {base size M head nxt k : Nat} (h : PlI D base size M head nxt k) {least M2 at' : Nat} (hM : M2 < 4294967296) (hh : at' ≤ 4611686018427387904) : PlI D base size M2 at' (nextOf at' (D.found base size least M2 at')) k := by
  obtain ⟨h1, h2, h3, h4, h5, h6, h7, h8, h9, h10, h11⟩ := h
  have := found_next D base size least M2 at'
  exact ⟨h1, h2, h3, h4, this.1, this.2, by omega, hM, h9, h10, h11⟩

/-- No records. -/
theorem Own.recs_nil {w0 w : World} {I : Res} (t : TypeId) (h : Own w0 w I) : Own w0 w (Sep (RecsR t (.slice none 0 0) []) I) := by
  obtain ⟨F, h1, h2, h3⟩ := h
  exact ⟨F, ⟨fun _ => False, F, ⟨[], rfl, World.ownsRow_nil _ _ _ _, fun k h => by simp [Value.ownBlock] at h, fun k h => h.elim, fun j hj => by simp at hj⟩, h1, fun _ h => h.elim, fun k => by simp⟩, h2, h3⟩

set_option maxHeartbeats 1000000 in
theorem rlog_room_q {w : World} {q r base size M head nxt : Nat} (h : w.heap[q]? = some (rlogO r base size M head nxt)) (hh : head ≤ nxt) (hn : nxt < 9223372036854775808) (hs : size ≤ 4096) :
    Calls Try.prog 34 #[.pointer (some ⟨q, 0, none⟩)] w fun e w' => e = .returned (.int .i64 ((size : Int) - ((nxt : Int) - (head : Int)))) ∧ ∃ n, w' = w.drewN n := by
  obtain ⟨_, _, c2, _, c4, c5⟩ := rlog_cells h
  have e1 : IntKind.u64.wrap ((nxt : Int) - (head : Int)) = ((nxt : Int) - (head : Int)) := by rw [IntKind.wrap_u64]; omega
  obtain ⟨z, hz⟩ : ∃ z : Int, z = (nxt : Int) - (head : Int) := ⟨_, rfl⟩
  rw [← hz] at e1 ⊢
  have e2 : IntKind.i64.wrap z = z := IntWalk.i64_in _ (by omega)
  have e3 : IntKind.i64.wrap ((size : Int) - z) = (size : Int) - z := IntWalk.i64_in _ (by omega)
  have HZ := Lib.hid hz
  clear h
  rw [hz] at e1
  go_enter Try.func34, Try.ntmps34
  go_wp2_with fail
  go_quiet (fail)
  go_wp2_with fail
  go_ret
  refine ⟨?_, _, rfl⟩
  rw [HZ.out]
  rfl


end Go.Proofs.Ytbimhiffcdhcaaa
