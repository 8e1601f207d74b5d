/-
  Package disk's calls on a disk that the statement has made, beside what else it has made.
-/
import Derived.Test.YtidkeglldmbfeaaDisk6
import Derived.Test.YtidkeglldmbfeaaMemP
namespace Go.Proofs.Ytidkeglldmbfeaa
open Go Go.RowKit
set_option linter.unusedVariables false
set_option linter.unusedSimpArgs false
set_option maxRecDepth 100000

theorem Own.disk {w0 w : World} {p : Nat} {D : DS} {J : Res} (h : Own w0 w (Sep (DiskR p D) J)) : ∃ gn gk vw, DiskAt w p gn gk vw D := by
  obtain ⟨F, ⟨gn, gk, vw, h1, _⟩, _⟩ := h.fst
  exact ⟨gn, gk, vw, h1⟩
theorem foot_iff {F : Nat → Prop} {p gn gk : Nat} {vw : Value} (h : ∀ k, F k ↔ Foot p gn gk vw k) : F = Foot p gn gk vw := funext fun k => propext (h k)

theorem own_new {w0 w : World} {I : Res} [Stab I] (h : Own w0 w I) (n : Nat) (h8 : 8 ≤ n) (hn : n ≤ 4096) :
    Calls Try.prog 10 #[.int .i64 n] w fun e w' => ∃ p, e = .returned (.tuple #[.pointer (some ⟨p, 0, none⟩), .int .i64 0]) ∧ Own w0 w' (Sep (DiskR p (DS.new n)) I) := by
  refine (disk_new n w h8 hn).mono ?_
  rintro e w' ⟨rfl, gn, gk, hD, h1, h2, ho⟩
  refine ⟨_, rfl, h.fresh ho (B := Foot (w.heap.size + 2) gn gk (.slice none 0 0)) ⟨gn, gk, _, hD, fun _ => Iff.rfl⟩ ?_⟩
  rintro k (rfl | rfl | rfl | hk)
  · omega
  · exact h1
  · exact h2
  · cases hk

theorem own_write {w0 w : World} {p : Nat} {D : DS} {J : Res} [Stab J] (h : Own w0 w (Sep (DiskR p D) J)) (i : Int) (v : Value) (b : List UInt8)
    (hv : ∀ F B : Nat → Prop, J w B → (∀ k, F k → ¬ B k) → (∀ k, F k → w0.heap.size ≤ k) → (∀ k, F k → k < w.heap.size) → SlO w F v b) (hW : D.W.length ≤ 1000000) (hwr : D.wr ≤ 1000000) :
    Calls Try.prog 15 #[.pointer (some ⟨p, 0, none⟩), .int .i64 i, v] w fun e w' => e = .returned (.int .i64 (D.wrE i b)) ∧ Own w0 w' (Sep (DiskR p (D.write i b)) J) := by
  refine (Own.call (val := fun _ : Unit => .int .i64 (D.wrE i b)) (Q := fun _ => DiskR p (D.write i b)) h ?_).mono ?_
  · rintro F B hI hJ hd h0
    have hlt := Stab.lt hI
    obtain ⟨gn, gk, vw, hD, hF⟩ := hI
    obtain rfl := foot_iff hF
    refine (disk_write hD i v b (hv _ B hJ hd h0 hlt) hW hwr).mono ?_
    rintro e w' ⟨rfl, v1, h1, hr, ho⟩
    refine ⟨(), Foot p gn gk v1, rfl, ⟨gn, gk, v1, h1, fun _ => Iff.rfl⟩, ?_, ho⟩
    rintro k (rfl | rfl | rfl | hk)
    · exact .inl (.inl rfl)
    · exact .inl (.inr (.inl rfl))
    · exact .inl (.inr (.inr (.inl rfl)))
    · rcases hr with hr | ⟨g, hg, hge⟩
      · exact .inl (.inr (.inr (.inr (hr ▸ hk))))
      · rw [hg] at hk; simp at hk; exact .inr (by omega)
  · rintro e w' ⟨_, rfl, hq⟩
    exact ⟨rfl, hq⟩

theorem own_sync {w0 w : World} {p : Nat} {D : DS} {J : Res} [Stab J] (h : Own w0 w (Sep (DiskR p D) J)) (hW : D.W.length ≤ 1000000) (hsy : D.sy ≤ 1000000) :
    Calls Try.prog 16 #[.pointer (some ⟨p, 0, none⟩)] w fun e w' => e = .returned (.int .i64 (syE D)) ∧ Own w0 w' (Sep (DiskR p D.sync) J) := by
  refine (Own.call (val := fun _ : Unit => .int .i64 (syE D)) (Q := fun _ => DiskR p D.sync) h ?_).mono ?_
  · rintro F B hI hJ hd h0
    obtain ⟨gn, gk, vw, hD, hF⟩ := hI
    obtain rfl := foot_iff hF
    cases hdn : D.down with
    | true =>
      have e1 : D.sync = D := by simp [DS.sync, hdn]
      have e2 : syE D = 4 := by simp [syE, hdn]
      rw [e1, e2]
      refine (disk_sync_gone hD hdn).mono ?_
      rintro e w' ⟨rfl, rfl⟩
      exact ⟨(), _, rfl, ⟨gn, gk, vw, hD, fun _ => Iff.rfl⟩, fun k hk => .inl hk, Only.refl _ _⟩
    | false =>
      have e2 : syE D = 0 := by simp [syE, hdn]
      rw [e2]
      refine (disk_sync_ok hD hdn hW hsy).mono ?_
      rintro e w' ⟨rfl, h1, ho⟩
      refine ⟨(), _, rfl, ⟨gn, gk, _, h1, fun _ => Iff.rfl⟩, ?_, ho⟩
      rintro k (rfl | rfl | rfl | hk)
      · exact .inl (.inl rfl)
      · exact .inl (.inr (.inl rfl))
      · exact .inl (.inr (.inr (.inl rfl)))
      · cases hk
  · rintro e w' ⟨_, rfl, hq⟩
    exact ⟨rfl, hq⟩

theorem own_crash {w0 w : World} {p : Nat} {D : DS} {J : Res} [Stab J] (h : Own w0 w (Sep (DiskR p D) J)) (ko : Option Addr) (kc : Nat) (keep : List Int)
    (hk : ∀ F B : Nat → Prop, J w B → (∀ k, F k → ¬ B k) → (∀ k, F k → w0.heap.size ≤ k) → (∀ k, F k → k < w.heap.size) → SlIO w F ko keep) (hkr : ∀ z ∈ keep, -9223372036854775808 ≤ z ∧ z ≤ 9223372036854775807) (hW : D.W.length ≤ 1000000) :
    Calls Try.prog 13 #[.pointer (some ⟨p, 0, none⟩), .slice ko keep.length kc] w fun e w' => e = .returned (.tuple #[]) ∧ Own w0 w' (Sep (DiskR p (D.crash keep)) J) := by
  refine (Own.call (val := fun _ : Unit => .tuple #[]) (Q := fun _ => DiskR p (D.crash keep)) h ?_).mono ?_
  · rintro F B hI hJ hd h0
    have hlt := Stab.lt hI
    obtain ⟨gn, gk, vw, hD, hF⟩ := hI
    obtain rfl := foot_iff hF
    refine (disk_crash_ok hD ko kc keep (hk _ B hJ hd h0 hlt) hkr hW).mono ?_
    rintro e w' ⟨rfl, h1, ho⟩
    refine ⟨(), _, rfl, ⟨gn, gk, _, h1, fun _ => Iff.rfl⟩, ?_, ho⟩
    rintro k (rfl | rfl | rfl | hk)
    · exact .inl (.inl rfl)
    · exact .inl (.inr (.inl rfl))
    · exact .inl (.inr (.inr (.inl rfl)))
    · cases hk
  · rintro e w' ⟨_, rfl, hq⟩
    exact ⟨rfl, hq⟩
theorem SlIO.nil (w : World) (F : Nat → Prop) : SlIO w F none [] := ⟨fun j hj => by simp at hj, fun a h => by cases h⟩

theorem own_fuse {w0 w : World} {p : Nat} {D : DS} {J : Res} [Stab J] (h : Own w0 w (Sep (DiskR p D) J)) (n : Int) (hn : -9223372036854775808 ≤ n ∧ n ≤ 9223372036854775807) :
    Calls Try.prog 14 #[.pointer (some ⟨p, 0, none⟩), .int .i64 n] w fun e w' => e = .returned (.tuple #[]) ∧ Own w0 w' (Sep (DiskR p (D.fused n)) J) := by
  refine (Own.call (val := fun _ : Unit => .tuple #[]) (Q := fun _ => DiskR p (D.fused n)) h ?_).mono ?_
  · rintro F B hI hJ hd h0
    obtain ⟨gn, gk, vw, hD, hF⟩ := hI
    obtain rfl := foot_iff hF
    refine (disk_fuse hD n hn).mono ?_
    rintro e w' ⟨rfl, h1, ho⟩
    exact ⟨(), _, rfl, ⟨gn, gk, _, h1, fun _ => Iff.rfl⟩, fun k hk => .inl hk, ho.mono (fun _ _ e => .inl e)⟩
  · rintro e w' ⟨_, rfl, hq⟩
    exact ⟨rfl, hq⟩

/-- Read: the sector's bytes in a new block. -/
theorem own_read {w0 w : World} {p : Nat} {D : DS} {J : Res} [Stab J] (h : Own w0 w (Sep (DiskR p D) J)) (i : Nat) (hi : i < D.n) :
    Calls Try.prog 12 #[.pointer (some ⟨p, 0, none⟩), .int .i64 i] w fun e w' => ∃ g, e = .returned (.tuple #[.slice (some ⟨g, 0, none⟩) 64 64, .int .i64 0]) ∧ Own w0 w' (Sep (Row g 69 (sec D.N i)) (Sep (DiskR p D) J)) := by
  obtain ⟨gn, gk, vw, hD⟩ := h.disk
  refine (disk_read hD i hi).mono ?_
  rintro e w' ⟨rfl, rfl⟩
  exact ⟨_, rfl, h.alloc _⟩
end Go.Proofs.Ytidkeglldmbfeaa
