/-
  Package pack's In as a part of memory: its own block, and that of the bytes that are left.
-/
import Derived.Test.YtookbmpaoljelaaPackIn5
import Derived.Test.YtookbmpaoljelaaPackOut3
import Derived.Test.YtookbmpaoljelaaPackLaw0
import Derived.Test.YtookbmpaoljelaaMemP
namespace Go.Proofs.Ytookbmpaoljelaa
open Go Go.RowKit
set_option linter.unusedVariables false
set_option linter.unusedSimpArgs false
set_option maxRecDepth 100000

def blkV : Value → Option Nat
  | .slice (some a) _ _ => some a.block
  | _ => none
/-- The second lies in the first's block. -/
def SameB (v v' : Value) : Prop := ∀ k, blkV v' = some k → blkV v = some k

/-- An In of one's own. -/
def InR (p : Nat) (xs : List UInt8) (bad : Bool) : Res := fun w F => ∃ v, InV w p v xs bad ∧ ∀ k, F k ↔ k = p ∨ blkV v = some k
theorem SlB.blk {w : World} {v : Value} {xs : List UInt8} (h : SlB w v xs) {k : Nat} (hk : blkV v = some k) : ∃ cur, w.heap[k]? = some (.cells cur 5 (0, 0)) := by
  rcases h with ⟨rfl, _⟩ | ⟨g, off, cap, cur, rfl, _, _, h3, _⟩
  · cases hk
  · simp [blkV] at hk
    subst hk
    exact ⟨cur, h3⟩
instance {p : Nat} {xs : List UInt8} {bad : Bool} : Stab (InR p xs bad) where
  lt := by
    rintro w F ⟨v, h, hF⟩ k hk
    rcases (hF k).1 hk with rfl | hk
    · exact h.lt
    · obtain ⟨cur, hc⟩ := h.sl.blk hk
      exact lt_of_some hc
  keep := by
    rintro w w' F ⟨v, h, hF⟩ hk
    refine ⟨v, ⟨(hk p ((hF p).2 (.inl rfl))).trans h.at', ?_⟩, hF⟩
    rcases h.sl with h0 | ⟨g, off, cap, cur, rfl, h1, h2, h3, h4⟩
    · exact .inl h0
    · exact .inr ⟨g, off, cap, cur, rfl, h1, h2, (hk g ((hF g).2 (.inr rfl))).trans h3, h4⟩

def UPostB (k : IntKind) (w : World) (p n : Nat) (v : Value) (xs : List UInt8) (bad : Bool) (e : Ending) (w' : World) : Prop :=
  ∃ v', e = .returned (.int k (numB (nextR n xs bad))) ∧ InV w' p v' (nextL n xs bad) (!can n xs bad) ∧ Only (fun k => k = p) w w' ∧ SameB v v'
def ToPostB (w : World) (xs : List UInt8) (e : Ending) (w' : World) : Prop :=
  ∃ p v, e = .returned (.pointer (some ⟨p, 0, none⟩)) ∧ InV w' p v xs false ∧ w.heap.size ≤ p ∧ Only (fun _ => False) w w' ∧ ∀ k, blkV v = some k → w.heap.size ≤ k
theorem next_blk (p n : Nat) (v : Value) (xs : List UInt8) (bad : Bool) (w : World) (hI : InV w p v xs bad) :
    Calls Try.prog 93 #[.pointer (some ⟨p, 0, none⟩), .int .i64 n] w fun e w' => ∃ r v', e = .returned r ∧ SlB w' r (nextR n xs bad) ∧ InV w' p v' (nextL n xs bad) (!can n xs bad) ∧ Only (fun k => k = p) w w' ∧ SameB v v' := by
  cases bad with
  | true =>
    refine (next_bad p n w hI.cell1).mono ?_
    rintro e w' ⟨rfl, rfl⟩
    refine ⟨_, v, rfl, .inl ⟨rfl, by simp [nextR, can]⟩, by simpa [nextL, can] using hI, Only.refl _ _, fun k h => h⟩
  | false =>
    by_cases hn : n ≤ xs.length
    · have hcan : can n xs false = true := by simp [can, hn]
      rcases hI.sl with ⟨rfl, rfl⟩ | ⟨g, off, cap, cur, rfl, h1, h2, h3, h4⟩
      · obtain rfl : n = 0 := by simpa using hn
        refine (next_ok0 p w hI.cell1 hI.cell0 (hI.free 0)).mono ?_
        rintro e w' ⟨rfl, rfl⟩
        refine ⟨_, .slice none 0 0, rfl, .inl ⟨rfl, by simp [nextR]⟩, ?_, Only.cell w p _ _, fun k h => h⟩
        rw [hcan]
        simpa [nextL] using hI.set0 (u := .slice none 0 0) (ys := []) (.inl ⟨rfl, rfl⟩)
      · refine (next_ok p g off xs.length cap n w hI.cell1 hI.cell0 (hI.free 0) hn h1 (by unfold maxLen at h2; omega)).mono ?_
        rintro e w' ⟨rfl, rfl⟩
        have ht := (SlB.take h1 h2 h3 h4 hn).setCell hI.at' (by decide) 0 (.slice (some (if n < cap then ⟨g, off + n, none⟩ else ⟨g, off, none⟩)) (xs.length - n) (cap - n))
        have hd := hI.set0 (SlB.drop h1 h2 h3 h4 hn)
        refine ⟨_, _, rfl, by simpa [nextR, hcan] using ht, by simpa [nextL, hcan] using hd, Only.cell w p _ _, fun k h => by simp only [blkV] at h ⊢; split at h <;> exact h⟩
    · have hcan : can n xs false = false := by simp [can]; omega
      obtain ⟨ao, cap, rfl, _⟩ := hI.sl.shape
      refine (next_short p ao xs.length cap n w hI.cell1 hI.cell0 (hI.free 1) (by omega)).mono ?_
      rintro e w' ⟨rfl, rfl⟩
      refine ⟨_, _, rfl, .inl ⟨rfl, by simp [nextR, hcan]⟩, by simpa [nextL, hcan] using hI.set1 true, Only.cell w p _ _, fun k h => h⟩

set_option maxHeartbeats 400000 in
theorem number_blk (p n : Nat) (v : Value) (xs : List UInt8) (bad : Bool) (w : World) (hI : InV w p v xs bad) (hn8 : n ≤ 8) :
    Calls Try.prog 92 #[.pointer (some ⟨p, 0, none⟩), .int .i64 n] w (UPostB .u64 w p n v xs bad) := by
  go_enter Try.func92, Try.ntmps92
  go_wp2_with fail
  refine (next_blk p n v xs bad w hI).mono ?_
  rintro e w1 ⟨r, v', rfl, hr, hI', ho, hsb⟩
  obtain ⟨ys, hys⟩ : ∃ ys, ys = nextR n xs bad := ⟨_, rfl⟩
  rw [← hys] at hr
  have hl8 : ys.length ≤ 8 := by rw [hys]; unfold nextR; split <;> simp; omega
  obtain ⟨ao, cap, hre, hlc, hcm⟩ := hr.shape
  have HSB := Lib.hid hsb; clear hsb
  have HR := Lib.hid hr; clear hr
  have HY := Lib.hid hys; clear hys
  have HI' := Lib.hid hI'; clear hI'
  have HO := Lib.hid ho; clear ho
  have HI := Lib.hid hI; clear hI
  subst hre
  go_wp2_with fail
  go_loop [5, 12] (fun x i => ∃ k : Nat, k ≤ ys.length ∧ i = .int .i64 k ∧ x = .int .u64 (numB (ys.take k))) (fun _ i => ys.length - (intOf i).toNat)
  case atStart => exact ⟨0, Nat.zero_le _, rfl, rfl⟩
  case round =>
    obtain ⟨k, hk, rfl, rfl⟩ := hrel
    by_cases hlt : k < ys.length
    · obtain ⟨g, off, hao, hcell⟩ := HR.out.cells hlt
      have hbd : (ys.getD k 0).toNat < 256 := (ys.getD k 0).toNat_lt
      have hnb := Lib.hid (numB_take_lt ys k hlt hl8)
      have hnb' := hnb.out
      have hbd' := Lib.hid hbd
      have HT := Lib.hid (take_snoc8 ys k hlt)
      have HG : Hid (ys.getD k 0 = ys[k]) := by simp [Hid, hlt]
      subst hao
      go_wp2
      go_round
      case rel =>
        refine ⟨k + 1, by omega, by go_num, ?_⟩
        rw [← HG.out, or_step _ _ hnb.out hbd'.out, HT.out, numB_snoc]
      case measure => simp [intOf]; omega
    · have hke : k = ys.length := by omega
      go_wp2
      go_ret
      refine ⟨v', ?_, HI'.out, HO.out, HSB.out⟩
      rw [← HY.out]
      rfl

set_option maxHeartbeats 400000 in
theorem inU64_blk (p : Nat) (v : Value) (xs : List UInt8) (bad : Bool) (w : World) (hI : InV w p v xs bad) :
    Calls Try.prog 64 #[.pointer (some ⟨p, 0, none⟩)] w (UPostB .u64 w p 8 v xs bad) := by
  go_enter Try.func64, Try.ntmps64
  go_wp2_with fail
  refine (number_blk p 8 v xs bad w hI (by omega)).mono ?_
  rintro e w1 ⟨v', rfl, hI', ho, hsb⟩
  have HI' := Lib.hid hI'; clear hI'
  have HO := Lib.hid ho; clear ho
  have HSB := Lib.hid hsb; clear hsb
  go_wp2
  go_ret
  exact ⟨v', rfl, HI'.out, HO.out, HSB.out⟩

theorem own_inU64 {w0 w : World} {p : Nat} {xs : List UInt8} {bad : Bool} {J : Res} [Stab J] (h : Own w0 w (Sep (InR p xs bad) J)) :
    Calls Try.prog 64 #[.pointer (some ⟨p, 0, none⟩)] w fun e w' => e = .returned (.int .u64 (numB (nextR 8 xs bad))) ∧ Own w0 w' (Sep (InR p (nextL 8 xs bad) (!can 8 xs bad)) J) := by
  refine (Own.call (val := fun _ : Unit => .int .u64 (numB (nextR 8 xs bad))) (Q := fun _ => InR p (nextL 8 xs bad) (!can 8 xs bad)) h ?_).mono ?_
  · rintro F B ⟨v, hI, hF⟩ hJ hd h0
    refine (inU64_blk p v xs bad w hI).mono ?_
    rintro e w' ⟨v', rfl, hI', ho, hs⟩
    refine ⟨(), fun k => k = p ∨ blkV v' = some k, rfl, ⟨v', hI', fun k => Iff.rfl⟩, fun k hk => .inl ((hF k).2 (hk.imp id (hs k))), ho.mono fun k _ e => (hF k).2 (.inl e)⟩
  · rintro e w' ⟨_, rfl, hq⟩
    exact ⟨rfl, hq⟩



set_option maxHeartbeats 400000 in
theorem inU8_blk (p : Nat) (v : Value) (xs : List UInt8) (bad : Bool) (w : World) (hI : InV w p v xs bad) :
    Calls Try.prog 90 #[.pointer (some ⟨p, 0, none⟩)] w (UPostB .u8 w p 1 v xs bad) := by
  go_enter Try.func90, Try.ntmps90
  go_wp2_with fail
  refine (number_blk p 1 v xs bad w hI (by omega)).mono ?_
  rintro e w1 ⟨v', rfl, hI', ho, hsb⟩
  have HI' := Lib.hid hI'; clear hI'
  have HO := Lib.hid ho; clear ho
  have HSB := Lib.hid hsb; clear hsb
  have HN := Lib.hid (numN_lt 1 xs bad)
  go_wp2
  go_ret
  refine ⟨v', ?_, HI'.out, HO.out, HSB.out⟩
  have := HN.out
  simp
  omega

theorem own_inU8 {w0 w : World} {p : Nat} {xs : List UInt8} {bad : Bool} {J : Res} [Stab J] (h : Own w0 w (Sep (InR p xs bad) J)) :
    Calls Try.prog 90 #[.pointer (some ⟨p, 0, none⟩)] w fun e w' => e = .returned (.int .u8 (numB (nextR 1 xs bad))) ∧ Own w0 w' (Sep (InR p (nextL 1 xs bad) (!can 1 xs bad)) J) := by
  refine (Own.call (val := fun _ : Unit => .int .u8 (numB (nextR 1 xs bad))) (Q := fun _ => InR p (nextL 1 xs bad) (!can 1 xs bad)) h ?_).mono ?_
  · rintro F B ⟨v, hI, hF⟩ hJ hd h0
    refine (inU8_blk p v xs bad w hI).mono ?_
    rintro e w' ⟨v', rfl, hI', ho, hs⟩
    refine ⟨(), fun k => k = p ∨ blkV v' = some k, rfl, ⟨v', hI', fun k => Iff.rfl⟩, fun k hk => .inl ((hF k).2 (hk.imp id (hs k))), ho.mono fun k _ e => (hF k).2 (.inl e)⟩
  · rintro e w' ⟨_, rfl, hq⟩
    exact ⟨rfl, hq⟩

set_option maxHeartbeats 400000 in
theorem to_blk (v : Value) (xs : List UInt8) (w : World) (h : SlC w v xs) (hlen : xs.length ≤ 140737488355328) :
    Calls Try.prog 28 #[v] w (ToPostB w xs) := by
  have HC := Lib.hid h
  clear h
  go_enter Try.func28, Try.ntmps28
  go_wp2_with fail
  refine (clone_any v xs w HC.out hlen).mono ?_
  rintro e w1 ⟨r, rfl, hr, ho⟩
  obtain ⟨ao, cap, rfl⟩ := own_shape hr
  have HR := Lib.hid hr; clear hr
  have HO := Lib.hid ho; clear ho
  go_wp2
  go_ret
  exact ⟨w1.heap.size, _, rfl, ⟨heap_alloc_new w1 _, (own_toB HR.out).alloc _⟩, HO.out.size, HO.out.alloc _, fun k hk => (HR.out.lt k (by rw [← hk]; rfl)).1⟩

theorem own_to {w0 w : World} {I : Res} [Stab I] (h : Own w0 w I) (v : Value) (xs : List UInt8) (hv : SlC w v xs) (hlen : xs.length ≤ 140737488355328) :
    Calls Try.prog 28 #[v] w fun e w' => ∃ p, e = .returned (.pointer (some ⟨p, 0, none⟩)) ∧ Own w0 w' (Sep (InR p xs false) I) := by
  refine (to_blk v xs w hv hlen).mono ?_
  rintro e w' ⟨p, u, rfl, hI, hp, ho, hb⟩
  exact ⟨p, rfl, h.fresh ho (B := fun k => k = p ∨ blkV u = some k) ⟨u, hI, fun k => Iff.rfl⟩ (fun k hk => hk.elim (fun e => e ▸ hp) (hb k))⟩

theorem InR.state {w0 w : World} {p : Nat} {xs : List UInt8} {bad : Bool} {J : Res} (h : Own w0 w (Sep (InR p xs bad) J)) : ∃ v, InV w p v xs bad := by
  obtain ⟨F, ⟨v, hI, _⟩, _⟩ := h.fst
  exact ⟨v, hI⟩
theorem own_bad {w0 w : World} {p : Nat} {xs : List UInt8} {bad : Bool} {J : Res} (h : Own w0 w (Sep (InR p xs bad) J)) :
    Calls Try.prog 69 #[.pointer (some ⟨p, 0, none⟩)] w fun e w' => e = .returned (.bool bad) ∧ w = w' := by
  obtain ⟨v, hI⟩ := InR.state h
  exact bad_any p bad w hI.cell1
theorem own_left {w0 w : World} {p : Nat} {xs : List UInt8} {bad : Bool} {J : Res} (h : Own w0 w (Sep (InR p xs bad) J)) :
    Calls Try.prog 70 #[.pointer (some ⟨p, 0, none⟩)] w fun e w' => e = .returned (.int .i64 xs.length) ∧ w = w' := by
  obtain ⟨v, hI⟩ := InR.state h
  obtain ⟨ao, cap, rfl, _⟩ := hI.sl.shape
  exact left_any p ao xs.length cap w hI.cell0
theorem own_done {w0 w : World} {p : Nat} {xs : List UInt8} {bad : Bool} {J : Res} (h : Own w0 w (Sep (InR p xs bad) J)) :
    Calls Try.prog 30 #[.pointer (some ⟨p, 0, none⟩)] w fun e w' => e = .returned (.bool (!bad && xs.isEmpty)) ∧ w = w' := by
  obtain ⟨v, hI⟩ := InR.state h
  exact inDone p v xs bad w hI

end Go.Proofs.Ytookbmpaoljelaa
