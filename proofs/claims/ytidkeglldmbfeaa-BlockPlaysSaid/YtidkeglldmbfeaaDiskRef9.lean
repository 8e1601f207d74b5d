/-
  The reference's calls on a disk that the statement has made, beside what else it has made.
-/
import Derived.Test.YtidkeglldmbfeaaDiskRef8
import Derived.Test.YtidkeglldmbfeaaDisk7
namespace Go.Proofs.Ytidkeglldmbfeaa
open Go Go.RowKit
set_option linter.unusedVariables false
set_option linter.unusedSimpArgs false
set_option maxRecDepth 100000

theorem core_foot {r gk gs : Nat} {vw : Value} {kb sb : List Nat} {wb : List (Nat × Nat)} {k : Nat} (h : RCore r gk gs vw k) : RFoot r gk gs vw kb sb wb k := by
  rcases h with h | h | h | h
  · exact .inl h
  · exact .inr (.inl h)
  · exact .inr (.inr (.inl h))
  · exact .inr (.inr (.inr (.inl h)))
theorem rfoot_iff {F : Nat → Prop} {r gk gs : Nat} {vw : Value} {kb sb : List Nat} {wb : List (Nat × Nat)} (h : ∀ k, F k ↔ RFoot r gk gs vw kb sb wb k) : F = RFoot r gk gs vw kb sb wb := funext fun k => propext (h k)
theorem Own.ref {w0 w : World} {r : Nat} {D : DS} {J : Res} (h : Own w0 w (Sep (RefR r D) J)) : ∃ gk gs ck cs vw f kb sb wb, RefAt w r gk gs ck cs vw f kb sb wb D := by
  obtain ⟨F, ⟨gk, gs, ck, cs, vw, f, kb, sb, wb, h1, _⟩, _⟩ := h.fst
  exact ⟨gk, gs, ck, cs, vw, f, kb, sb, wb, h1⟩

theorem own_rnew {w0 w : World} {I : Res} [Stab I] (h : Own w0 w I) (n : Nat) (h8 : 8 ≤ n) (hn : n ≤ 4096) :
    Calls Try.prog 11 #[.int .i64 n] w fun e w' => ∃ r, e = .returned (.tuple #[.pointer (some ⟨r, 0, none⟩), .int .i64 0]) ∧ Own w0 w' (Sep (RefR r (DS.new n)) I) := by
  refine (ref_new n w h8 hn).mono ?_
  rintro e w' ⟨r, gk, gs, ck, cs, kb, sb, rfl, hR, hF, ho⟩
  exact ⟨_, rfl, h.fresh ho (B := RFoot r gk gs (.slice none 0 0) kb sb []) ⟨gk, gs, ck, cs, _, _, kb, sb, [], hR, fun _ => Iff.rfl⟩ hF⟩

theorem own_rfuse {w0 w : World} {r : Nat} {D : DS} {J : Res} [Stab J] (h : Own w0 w (Sep (RefR r D) J)) (n : Int) (hn : -9223372036854775808 ≤ n ∧ n ≤ 9223372036854775807) :
    Calls Try.prog 28 #[.pointer (some ⟨r, 0, none⟩), .int .i64 n] w fun e w' => e = .returned (.tuple #[]) ∧ Own w0 w' (Sep (RefR r (D.fused n)) J) := by
  refine (Own.call (val := fun _ : Unit => .tuple #[]) (Q := fun _ => RefR r (D.fused n)) h ?_).mono ?_
  · rintro F B hI hJ hd h0
    obtain ⟨gk, gs, ck, cs, vw, f, kb, sb, wb, hR, hF⟩ := hI
    obtain rfl := rfoot_iff hF
    refine (ref_fuse hR n hn).mono ?_
    rintro e w' ⟨rfl, ⟨f', h1⟩, ho⟩
    exact ⟨(), _, rfl, ⟨gk, gs, ck, cs, vw, f', kb, sb, wb, h1, fun _ => Iff.rfl⟩, fun k hk => .inl hk, ho.mono (fun _ _ e => core_foot e)⟩
  · rintro e w' ⟨_, rfl, hq⟩
    exact ⟨rfl, hq⟩

theorem own_rsync {w0 w : World} {r : Nat} {D : DS} {J : Res} [Stab J] (h : Own w0 w (Sep (RefR r D) J)) (hcoh : Coh D) (hsy : D.sy ≤ 1000000) :
    Calls Try.prog 27 #[.pointer (some ⟨r, 0, none⟩)] w fun e w' => e = .returned (.int .i64 (syE D)) ∧ Own w0 w' (Sep (RefR r D.sync) J) := by
  refine (Own.call (val := fun _ : Unit => .int .i64 (syE D)) (Q := fun _ => RefR r D.sync) h ?_).mono ?_
  · rintro F B hI hJ hd h0
    obtain ⟨gk, gs, ck, cs, vw, f, kb, sb, wb, hR, hF⟩ := hI
    obtain rfl := rfoot_iff hF
    cases hdn : D.down with
    | true =>
      have e1 : D.sync = D := by simp [DS.sync, hdn]
      have e2 : syE D = 4 := by simp [syE, hdn]
      rw [e1, e2]
      refine (ref_sync_gone hR hdn).mono ?_
      rintro e w' ⟨rfl, rfl⟩
      exact ⟨(), _, rfl, ⟨gk, gs, ck, cs, vw, f, kb, sb, wb, hR, fun _ => Iff.rfl⟩, fun k hk => .inl hk, Only.refl _ _⟩
    | false =>
      have e2 : syE D = 0 := by simp [syE, hdn]
      rw [e2]
      refine (ref_sync_ok hR hcoh hdn hsy).mono ?_
      rintro e w' ⟨rfl, h1, ho⟩
      refine ⟨(), _, rfl, ⟨gk, gs, ck, cs, _, f, sb, sb, [], h1, fun _ => Iff.rfl⟩, ?_, ho.mono (fun _ _ e => core_foot e)⟩
      rintro k (rfl | rfl | rfl | hk | hk | hk | hk)
      · exact .inl (.inl rfl)
      · exact .inl (.inr (.inl rfl))
      · exact .inl (.inr (.inr (.inl rfl)))
      · cases hk
      · exact .inl (.inr (.inr (.inr (.inr (.inr (.inl hk))))))
      · exact .inl (.inr (.inr (.inr (.inr (.inr (.inl hk))))))
      · simp at hk
  · rintro e w' ⟨_, rfl, hq⟩
    exact ⟨rfl, hq⟩

theorem own_rcrash {w0 w : World} {r : Nat} {D : DS} {J : Res} [Stab J] (h : Own w0 w (Sep (RefR r D) J)) (hcoh : Coh D) (ko : Option Addr) (kc : Nat) (keep : List Int)
    (hk : ∀ F B : Nat → Prop, J w B → (∀ k, F k → ¬ B k) → (∀ k, F k → w0.heap.size ≤ k) → (∀ k, F k → k < w.heap.size) → SlIO w F ko keep) (hW : D.W.length ≤ 1000000) :
    Calls Try.prog 29 #[.pointer (some ⟨r, 0, none⟩), .slice ko keep.length kc] w fun e w' => e = .returned (.tuple #[]) ∧ Own w0 w' (Sep (RefR r (D.crash keep)) J) := by
  refine (Own.call (val := fun _ : Unit => .tuple #[]) (Q := fun _ => RefR r (D.crash keep)) h ?_).mono ?_
  · rintro F B hI hJ hd h0
    have hlt := Stab.lt hI
    obtain ⟨gk, gs, ck, cs, vw, f, kb, sb, wb, hR, hF⟩ := hI
    obtain rfl := rfoot_iff hF
    have hko := hk _ B hJ hd h0 hlt
    refine (ref_crash hR hcoh ko kc keep ⟨hko.1, fun a e hn h => hko.2 a e hn (core_foot h)⟩ hW).mono ?_
    rintro e w' ⟨rfl, ⟨kb', h1, hm⟩, ho⟩
    refine ⟨(), _, rfl, ⟨gk, gs, ck, cs, _, _, kb', kb', [], h1, fun _ => Iff.rfl⟩, ?_, ho.mono (fun _ _ e => core_foot e)⟩
    rintro k (rfl | rfl | rfl | hk | hk | hk | hk)
    · exact .inl (.inl rfl)
    · exact .inl (.inr (.inl rfl))
    · exact .inl (.inr (.inr (.inl rfl)))
    · cases hk
    · exact .inl (hm k hk)
    · exact .inl (hm k hk)
    · simp at hk
  · rintro e w' ⟨_, rfl, hq⟩
    exact ⟨rfl, hq⟩

theorem own_rwrite {w0 w : World} {r : Nat} {D : DS} {J : Res} [Stab J] (h : Own w0 w (Sep (RefR r D) J)) (i : Int) (v : Value) (b : List UInt8)
    (hv : ∀ F B : Nat → Prop, J w B → (∀ k, F k → ¬ B k) → (∀ k, F k → w0.heap.size ≤ k) → (∀ k, F k → k < w.heap.size) → SlO w F v b) (hW : D.W.length ≤ 1000000) (hwr : D.wr ≤ 1000000) :
    Calls Try.prog 23 #[.pointer (some ⟨r, 0, none⟩), .int .i64 i, v] w fun e w' => e = .returned (.int .i64 (D.wrE i b)) ∧ Own w0 w' (Sep (RefR r (D.write i b)) J) := by
  refine (Own.call (val := fun _ : Unit => .int .i64 (D.wrE i b)) (Q := fun _ => RefR r (D.write i b)) h ?_).mono ?_
  · rintro F B hI hJ hd h0
    have hlt := Stab.lt hI
    obtain ⟨gk, gs, ck, cs, vw, f, kb, sb, wb, hR, hF⟩ := hI
    obtain rfl := rfoot_iff hF
    have hvo := hv _ B hJ hd h0 hlt
    have hvc : SlO w (RCore r gk gs vw) v b := ⟨hvo.1, fun a n c e hn h => hvo.2 a n c e hn (core_foot h)⟩
    by_cases hbad : D.has i = false ∨ 64 < b.length
    · have e0 : (!D.has i || decide (64 < b.length)) = true := by rcases hbad with h | h <;> simp [h]
      have e1 : D.write i b = D := by simp only [DS.write, e0, if_true]
      have e2 : D.wrE i b = 1 := by simp only [DS.wrE, e0, if_true]
      rw [e1, e2]
      obtain ⟨vo, vc, rfl⟩ := hvo.1.shape
      refine (ref_write_arg hR i vo b.length vc hbad).mono ?_
      rintro e w' ⟨rfl, rfl⟩
      exact ⟨(), _, rfl, ⟨gk, gs, ck, cs, vw, f, kb, sb, wb, hR, fun _ => Iff.rfl⟩, fun k hk => .inl hk, Only.refl _ _⟩
    · have hi : D.has i = true := by cases hh : D.has i with | true => rfl | false => exact absurd (.inl hh) hbad
      have hb : b.length ≤ 64 := by
        by_cases hb : b.length ≤ 64
        · exact hb
        · exact absurd (.inr (by omega)) hbad
      obtain ⟨n, rfl⟩ : ∃ n : Nat, i = n := ⟨i.toNat, by simp [DS.has] at hi; omega⟩
      have hin : n < D.n := by simp [DS.has] at hi; omega
      have e0 : (!D.has n || decide (64 < b.length)) = false := by simp [hi]; omega
      cases hl : D.lastB with
      | true =>
        have e1 : D.write n b = D.last.lay n (pad b) := by simp [DS.write, e0, hl]
        have e2 : D.wrE n b = 0 := by simp [DS.wrE, e0, hl]
        rw [e1, e2]
        refine (ref_write_ok hR n hin v b hb hl hvc hW hwr).mono ?_
        rintro e w' ⟨rfl, ⟨vw', f', sb', wb', h1, hft⟩, ho⟩
        exact ⟨(), _, rfl, ⟨gk, gs, ck, cs, vw', f', kb, sb', wb', h1, fun _ => Iff.rfl⟩, hft, ho.mono (fun _ _ e => core_foot e)⟩
      | false =>
        have e1 : D.write n b = D.last := by simp [DS.write, e0, hl]
        have e2 : D.wrE n b = 4 := by simp [DS.wrE, e0, hl]
        rw [e1, e2]
        obtain ⟨vo, vc, rfl⟩ := hvo.1.shape
        refine (ref_write_gone hR n hin vo b.length vc hb hl).mono ?_
        rintro e w' ⟨rfl, ⟨f', h1⟩, ho⟩
        exact ⟨(), _, rfl, ⟨gk, gs, ck, cs, vw, f', kb, sb, wb, h1, fun _ => Iff.rfl⟩, fun k hk => .inl hk, ho.mono (fun _ _ e => core_foot e)⟩
  · rintro e w' ⟨_, rfl, hq⟩
    exact ⟨rfl, hq⟩

end Go.Proofs.Ytidkeglldmbfeaa
