/-
  Joined: InR RefC MsgSt NodeSt SepAc RowP Range ExtBlk.
-/
import Derived.Test.YtookbmpaoljelaaGreatNodeJ1
import Derived.Deep.QuietTactic
import Derived.BigQuiet
import Derived.IntWalk
import Derived.Deep.DeepCutAuto
import Derived.Deep.AppendLies
import Derived.RangeFuncRecord
import Derived.RangeFuncLeaves
import Derived.RangeFuncCalls
import Derived.RangeFuncKeeps
import Derived.OwnWalkIn
import Derived.TacticsInMore
import Derived.LoopNIn
import Derived.LoopIn

namespace Go.Proofs.YtookbmpaoljelaaGreat
open Go Go.RowKit
set_option linter.unusedVariables false
set_option linter.unusedSimpArgs false
set_option maxRecDepth 100000

def blkV : Value → Option Nat
  | .slice (some a) _ _ => some a.block
  | _ => none
/-- The second lies in the first's block. -/
def SameB (v v' : Value) : Prop := ∀ k, blkV v' = some k → blkV v = some k

/-- An In of one's own. -/
def InR (p : Nat) (xs : List UInt8) (bad : Bool) : Res := fun w F => ∃ v, InV w p v xs bad ∧ ∀ k, F k ↔ k = p ∨ blkV v = some k
theorem SlB.blk {w : World} {v : Value} {xs : List UInt8} (h : SlB w v xs) {k : Nat} (hk : blkV v = some k) : ∃ cur, w.heap[k]? = some (.cells cur 5 (0, 0)) := by
  rcases h with ⟨rfl, _⟩ | ⟨g, off, cap, cur, rfl, _, _, h3, _⟩
  · cases hk
  · simp [blkV] at hk
    subst hk
    exact ⟨cur, h3⟩
instance {p : Nat} {xs : List UInt8} {bad : Bool} : Stab (InR p xs bad) where
  lt := by
    rintro w F ⟨v, h, hF⟩ k hk
    rcases (hF k).1 hk with rfl | hk
    · exact h.lt
    · obtain ⟨cur, hc⟩ := h.sl.blk hk
      exact lt_of_some hc
  keep := by
    rintro w w' F ⟨v, h, hF⟩ hk
    refine ⟨v, ⟨(hk p ((hF p).2 (.inl rfl))).trans h.at', ?_⟩, hF⟩
    rcases h.sl with h0 | ⟨g, off, cap, cur, rfl, h1, h2, h3, h4⟩
    · exact .inl h0
    · exact .inr ⟨g, off, cap, cur, rfl, h1, h2, (hk g ((hF g).2 (.inr rfl))).trans h3, h4⟩

def UPostB (k : IntKind) (w : World) (p n : Nat) (v : Value) (xs : List UInt8) (bad : Bool) (e : Ending) (w' : World) : Prop :=
  ∃ v', e = .returned (.int k (numB (nextR n xs bad))) ∧ InV w' p v' (nextL n xs bad) (!can n xs bad) ∧ Only (fun k => k = p) w w' ∧ SameB v v'
def ToPostB (w : World) (xs : List UInt8) (e : Ending) (w' : World) : Prop :=
  ∃ p v, e = .returned (.pointer (some ⟨p, 0, none⟩)) ∧ InV w' p v xs false ∧ w.heap.size ≤ p ∧ Only (fun _ => False) w w' ∧ ∀ k, blkV v = some k → w.heap.size ≤ k
theorem next_blk (p n : Nat) (v : Value) (xs : List UInt8) (bad : Bool) (w : World) (hI : InV w p v xs bad) :
    Calls Tryz.prog 77 #[.pointer (some ⟨p, 0, none⟩), .int .i64 n] w fun e w' => ∃ r v', e = .returned r ∧ SlB w' r (nextR n xs bad) ∧ InV w' p v' (nextL n xs bad) (!can n xs bad) ∧ Only (fun k => k = p) w w' ∧ SameB v v' := by
  cases bad with
  | true =>
    refine (next_bad p n w hI.cell1).mono ?_
    rintro e w' ⟨rfl, rfl⟩
    refine ⟨_, v, rfl, .inl ⟨rfl, by simp [nextR, can]⟩, by simpa [nextL, can] using hI, Only.refl _ _, fun k h => h⟩
  | false =>
    by_cases hn : n ≤ xs.length
    · have hcan : can n xs false = true := by simp [can, hn]
      rcases hI.sl with ⟨rfl, rfl⟩ | ⟨g, off, cap, cur, rfl, h1, h2, h3, h4⟩
      · obtain rfl : n = 0 := by simpa using hn
        refine (next_ok0 p w hI.cell1 hI.cell0 (hI.free 0)).mono ?_
        rintro e w' ⟨rfl, rfl⟩
        refine ⟨_, .slice none 0 0, rfl, .inl ⟨rfl, by simp [nextR]⟩, ?_, Only.cell w p _ _, fun k h => h⟩
        rw [hcan]
        simpa [nextL] using hI.set0 (u := .slice none 0 0) (ys := []) (.inl ⟨rfl, rfl⟩)
      · refine (next_ok p g off xs.length cap n w hI.cell1 hI.cell0 (hI.free 0) hn h1 (by unfold maxLen at h2; omega)).mono ?_
        rintro e w' ⟨rfl, rfl⟩
        have ht := (SlB.take h1 h2 h3 h4 hn).setCell hI.at' (by decide) 0 (.slice (some (if n < cap then ⟨g, off + n, none⟩ else ⟨g, off, none⟩)) (xs.length - n) (cap - n))
        have hd := hI.set0 (SlB.drop h1 h2 h3 h4 hn)
        refine ⟨_, _, rfl, by simpa [nextR, hcan] using ht, by simpa [nextL, hcan] using hd, Only.cell w p _ _, fun k h => by simp only [blkV] at h ⊢; split at h <;> exact h⟩
    · have hcan : can n xs false = false := by simp [can]; omega
      obtain ⟨ao, cap, rfl, _⟩ := hI.sl.shape
      refine (next_short p ao xs.length cap n w hI.cell1 hI.cell0 (hI.free 1) (by omega)).mono ?_
      rintro e w' ⟨rfl, rfl⟩
      refine ⟨_, _, rfl, .inl ⟨rfl, by simp [nextR, hcan]⟩, by simpa [nextL, hcan] using hI.set1 true, Only.cell w p _ _, fun k h => h⟩

set_option maxHeartbeats 400000 in
theorem number_blk (p n : Nat) (v : Value) (xs : List UInt8) (bad : Bool) (w : World) (hI : InV w p v xs bad) (hn8 : n ≤ 8) :
    Calls Tryz.prog 76 #[.pointer (some ⟨p, 0, none⟩), .int .i64 n] w (UPostB .u64 w p n v xs bad) := by
  go_enter Tryz.func76, Tryz.ntmps76
  go_wp2_with fail
  refine (next_blk p n v xs bad w hI).mono ?_
  rintro e w1 ⟨r, v', rfl, hr, hI', ho, hsb⟩
  obtain ⟨ys, hys⟩ : ∃ ys, ys = nextR n xs bad := ⟨_, rfl⟩
  rw [← hys] at hr
  have hl8 : ys.length ≤ 8 := by rw [hys]; unfold nextR; split <;> simp; omega
  obtain ⟨ao, cap, hre, hlc, hcm⟩ := hr.shape
  have HSB := Lib.hid hsb; clear hsb
  have HR := Lib.hid hr; clear hr
  have HY := Lib.hid hys; clear hys
  have HI' := Lib.hid hI'; clear hI'
  have HO := Lib.hid ho; clear ho
  have HI := Lib.hid hI; clear hI
  subst hre
  go_wp2_with fail
  go_loop [5, 12] (fun x i => ∃ k : Nat, k ≤ ys.length ∧ i = .int .i64 k ∧ x = .int .u64 (numB (ys.take k))) (fun _ i => ys.length - (intOf i).toNat)
  case atStart => exact ⟨0, Nat.zero_le _, rfl, rfl⟩
  case round =>
    obtain ⟨k, hk, rfl, rfl⟩ := hrel
    by_cases hlt : k < ys.length
    · obtain ⟨g, off, hao, hcell⟩ := HR.out.cells hlt
      have hbd : (ys.getD k 0).toNat < 256 := (ys.getD k 0).toNat_lt
      have hnb := Lib.hid (numB_take_lt ys k hlt hl8)
      have hnb' := hnb.out
      have hbd' := Lib.hid hbd
      have HT := Lib.hid (take_snoc8 ys k hlt)
      have HG : Hid (ys.getD k 0 = ys[k]) := by simp [Hid, hlt]
      subst hao
      go_wp2
      go_round
      case rel =>
        refine ⟨k + 1, by omega, by go_num, ?_⟩
        rw [← HG.out, or_step _ _ hnb.out hbd'.out, HT.out, numB_snoc]
      case measure => simp [intOf]; omega
    · have hke : k = ys.length := by omega
      go_wp2
      go_ret
      refine ⟨v', ?_, HI'.out, HO.out, HSB.out⟩
      rw [← HY.out]
      rfl

set_option maxHeartbeats 400000 in
theorem inU64_blk (p : Nat) (v : Value) (xs : List UInt8) (bad : Bool) (w : World) (hI : InV w p v xs bad) :
    Calls Tryz.prog 38 #[.pointer (some ⟨p, 0, none⟩)] w (UPostB .u64 w p 8 v xs bad) := by
  go_enter Tryz.func38, Tryz.ntmps38
  go_wp2_with fail
  refine (number_blk p 8 v xs bad w hI (by omega)).mono ?_
  rintro e w1 ⟨v', rfl, hI', ho, hsb⟩
  have HI' := Lib.hid hI'; clear hI'
  have HO := Lib.hid ho; clear ho
  have HSB := Lib.hid hsb; clear hsb
  go_wp2
  go_ret
  exact ⟨v', rfl, HI'.out, HO.out, HSB.out⟩

theorem own_inU64 {w0 w : World} {p : Nat} {xs : List UInt8} {bad : Bool} {J : Res} [Stab J] (h : Own w0 w (Sep (InR p xs bad) J)) :
    Calls Tryz.prog 38 #[.pointer (some ⟨p, 0, none⟩)] w fun e w' => e = .returned (.int .u64 (numB (nextR 8 xs bad))) ∧ Own w0 w' (Sep (InR p (nextL 8 xs bad) (!can 8 xs bad)) J) := by
  refine (Own.call (val := fun _ : Unit => .int .u64 (numB (nextR 8 xs bad))) (Q := fun _ => InR p (nextL 8 xs bad) (!can 8 xs bad)) h ?_).mono ?_
  · rintro F B ⟨v, hI, hF⟩ hJ hd h0
    refine (inU64_blk p v xs bad w hI).mono ?_
    rintro e w' ⟨v', rfl, hI', ho, hs⟩
    refine ⟨(), fun k => k = p ∨ blkV v' = some k, rfl, ⟨v', hI', fun k => Iff.rfl⟩, fun k hk => .inl ((hF k).2 (hk.imp id (hs k))), ho.mono fun k _ e => (hF k).2 (.inl e)⟩
  · rintro e w' ⟨_, rfl, hq⟩
    exact ⟨rfl, hq⟩



set_option maxHeartbeats 400000 in
theorem inU8_blk (p : Nat) (v : Value) (xs : List UInt8) (bad : Bool) (w : World) (hI : InV w p v xs bad) :
    Calls Tryz.prog 74 #[.pointer (some ⟨p, 0, none⟩)] w (UPostB .u8 w p 1 v xs bad) := by
  go_enter Tryz.func74, Tryz.ntmps74
  go_wp2_with fail
  refine (number_blk p 1 v xs bad w hI (by omega)).mono ?_
  rintro e w1 ⟨v', rfl, hI', ho, hsb⟩
  have HI' := Lib.hid hI'; clear hI'
  have HO := Lib.hid ho; clear ho
  have HSB := Lib.hid hsb; clear hsb
  have HN := Lib.hid (numN_lt 1 xs bad)
  go_wp2
  go_ret
  refine ⟨v', ?_, HI'.out, HO.out, HSB.out⟩
  have := HN.out
  simp
  omega

theorem own_inU8 {w0 w : World} {p : Nat} {xs : List UInt8} {bad : Bool} {J : Res} [Stab J] (h : Own w0 w (Sep (InR p xs bad) J)) :
    Calls Tryz.prog 74 #[.pointer (some ⟨p, 0, none⟩)] w fun e w' => e = .returned (.int .u8 (numB (nextR 1 xs bad))) ∧ Own w0 w' (Sep (InR p (nextL 1 xs bad) (!can 1 xs bad)) J) := by
  refine (Own.call (val := fun _ : Unit => .int .u8 (numB (nextR 1 xs bad))) (Q := fun _ => InR p (nextL 1 xs bad) (!can 1 xs bad)) h ?_).mono ?_
  · rintro F B ⟨v, hI, hF⟩ hJ hd h0
    refine (inU8_blk p v xs bad w hI).mono ?_
    rintro e w' ⟨v', rfl, hI', ho, hs⟩
    refine ⟨(), fun k => k = p ∨ blkV v' = some k, rfl, ⟨v', hI', fun k => Iff.rfl⟩, fun k hk => .inl ((hF k).2 (hk.imp id (hs k))), ho.mono fun k _ e => (hF k).2 (.inl e)⟩
  · rintro e w' ⟨_, rfl, hq⟩
    exact ⟨rfl, hq⟩

set_option maxHeartbeats 400000 in
theorem to_blk (v : Value) (xs : List UInt8) (w : World) (h : SlC w v xs) (hlen : xs.length ≤ 140737488355328) :
    Calls Tryz.prog 14 #[v] w (ToPostB w xs) := by
  have HC := Lib.hid h
  clear h
  go_enter Tryz.func14, Tryz.ntmps14
  go_wp2_with fail
  refine (clone_any v xs w HC.out hlen).mono ?_
  rintro e w1 ⟨r, rfl, hr, ho⟩
  obtain ⟨ao, cap, rfl⟩ := own_shape hr
  have HR := Lib.hid hr; clear hr
  have HO := Lib.hid ho; clear ho
  go_wp2
  go_ret
  exact ⟨w1.heap.size, _, rfl, ⟨heap_alloc_new w1 _, (own_toB HR.out).alloc _⟩, HO.out.size, HO.out.alloc _, fun k hk => (HR.out.lt k (by rw [← hk]; rfl)).1⟩

theorem own_to {w0 w : World} {I : Res} [Stab I] (h : Own w0 w I) (v : Value) (xs : List UInt8) (hv : SlC w v xs) (hlen : xs.length ≤ 140737488355328) :
    Calls Tryz.prog 14 #[v] w fun e w' => ∃ p, e = .returned (.pointer (some ⟨p, 0, none⟩)) ∧ Own w0 w' (Sep (InR p xs false) I) := by
  refine (to_blk v xs w hv hlen).mono ?_
  rintro e w' ⟨p, u, rfl, hI, hp, ho, hb⟩
  exact ⟨p, rfl, h.fresh ho (B := fun k => k = p ∨ blkV u = some k) ⟨u, hI, fun k => Iff.rfl⟩ (fun k hk => hk.elim (fun e => e ▸ hp) (hb k))⟩

theorem InR.state {w0 w : World} {p : Nat} {xs : List UInt8} {bad : Bool} {J : Res} (h : Own w0 w (Sep (InR p xs bad) J)) : ∃ v, InV w p v xs bad := by
  obtain ⟨F, ⟨v, hI, _⟩, _⟩ := h.fst
  exact ⟨v, hI⟩
theorem own_bad {w0 w : World} {p : Nat} {xs : List UInt8} {bad : Bool} {J : Res} (h : Own w0 w (Sep (InR p xs bad) J)) :
    Calls Tryz.prog 43 #[.pointer (some ⟨p, 0, none⟩)] w fun e w' => e = .returned (.bool bad) ∧ w = w' := by
  obtain ⟨v, hI⟩ := InR.state h
  exact bad_any p bad w hI.cell1
theorem own_left {w0 w : World} {p : Nat} {xs : List UInt8} {bad : Bool} {J : Res} (h : Own w0 w (Sep (InR p xs bad) J)) :
    Calls Tryz.prog 44 #[.pointer (some ⟨p, 0, none⟩)] w fun e w' => e = .returned (.int .i64 xs.length) ∧ w = w' := by
  obtain ⟨v, hI⟩ := InR.state h
  obtain ⟨ao, cap, rfl, _⟩ := hI.sl.shape
  exact left_any p ao xs.length cap w hI.cell0
theorem own_done {w0 w : World} {p : Nat} {xs : List UInt8} {bad : Bool} {J : Res} (h : Own w0 w (Sep (InR p xs bad) J)) :
    Calls Tryz.prog 16 #[.pointer (some ⟨p, 0, none⟩)] w fun e w' => e = .returned (.bool (!bad && xs.isEmpty)) ∧ w = w' := by
  obtain ⟨v, hI⟩ := InR.state h
  exact inDone p v xs bad w hI

end Go.Proofs.YtookbmpaoljelaaGreat

namespace Go.Proofs.YtookbmpaoljelaaGreat.RI
open Go Go.RowKit Go.Proofs.YtookbmpaoljelaaGreat
set_option linter.unusedVariables false
set_option linter.unusedSimpArgs false
set_option maxRecDepth 100000

/-- The bytes of a slice, and that its length is within its capacity. -/
def SlF (w : World) (v : Value) (xs : List UInt8) : Prop := SlC w v xs ∧ ∃ ao c, v = .slice ao xs.length c ∧ xs.length ≤ c
theorem SlF.keep {S : Nat → Prop} {w w' : World} {v : Value} {xs : List UInt8} (h : SlF w v xs) (ho : Only S w w')
    (hS : ∀ k, xs ≠ [] → blkV v = some k → ¬ S k) : SlF w' v xs := by
  refine ⟨?_, h.2⟩
  rcases h.1 with h0 | ⟨a, cap, rfl, hc⟩
  · exact .inl h0
  · refine .inr ⟨a, cap, rfl, fun j hj => ?_⟩
    have h1 := hc j hj
    have hb : (a.add j).block < w.heap.size := World.block_lt_of_cell? w _ h1
    refine (World.cell?_of_block (ho.block _ hb ?_)).trans h1
    rw [add_block]
    exact hS a.block (fun e => by subst e; simp at hj) rfl
theorem SlF.shape {w : World} {v : Value} {xs : List UInt8} (h : SlF w v xs) : ∃ ao cap, v = .slice ao xs.length cap ∧ xs.length ≤ cap ∧ True := by
  obtain ⟨ao, c, e, hc⟩ := h.2
  exact ⟨ao, c, e, hc, trivial⟩
theorem SlF.cells {w : World} {ao : Option Addr} {n cap : Nat} {ys : List UInt8} (h : SlF w (.slice ao n cap) ys) {k : Nat} (hk : k < ys.length) :
    ∃ g off, ao = some ⟨g, off, none⟩ ∧ w.cell? ⟨g, off + k, none⟩ = some (.int .u8 (ys.getD k 0).toNat) := by
  rcases h.1 with ⟨_, rfl⟩ | ⟨a, cap', hv, hc⟩
  · simp at hk
  · simp only [Value.slice.injEq] at hv
    have h0 := hc 0 (by omega)
    have h1 := hc k hk
    obtain ⟨b, off, spot⟩ := a
    have hspot : spot = none := by simpa [Addr.add] using World.cell?_spot h0
    subst hspot
    rw [add_lit] at h1
    exact ⟨b, off, hv.1, h1⟩
theorem SlF.str {w : World} {v : Value} {xs : List UInt8} (h : SlC w v xs) : (convert 22 9 v).run Tryz.prog w = .ok (.string ⟨xs.toArray⟩) w := run_strC h
theorem SlF.sub {w : World} {g off cap : Nat} {bs : List UInt8} (h : SlF w (.slice (some ⟨g, off, none⟩) bs.length cap) bs) {lo m : Nat} (hm : lo + m ≤ bs.length) :
    SlC w (.slice (if cap = lo then some ⟨g, off, none⟩ else some ⟨g, off + lo, none⟩) m (cap - lo)) ((bs.drop lo).take m) := by
  obtain ⟨ao, c, hv, hle⟩ := h.2
  simp only [Value.slice.injEq] at hv
  obtain ⟨_, _, rfl⟩ := hv
  have hl : ((bs.drop lo).take m).length = m := by simp; omega
  by_cases hc : cap = lo
  · have hm0 : m = 0 := by omega
    subst hm0
    rw [List.take_zero]
    refine .inr ⟨⟨g, off, none⟩, cap - lo, by simp [hc], fun j hj => by simp at hj⟩
  · refine .inr ⟨⟨g, off + lo, none⟩, cap - lo, by simp [hc, hl], fun j hj => ?_⟩
    rw [hl] at hj
    obtain ⟨g2, off2, e, h1⟩ := h.cells (k := lo + j) (by omega)
    simp only [Option.some.injEq, Addr.mk.injEq, and_true] at e
    obtain ⟨rfl, rfl⟩ := e
    rw [add_lit, Nat.add_assoc, h1]
    simp only [List.getD_eq_getElem?_getD, List.getElem?_take, List.getElem?_drop]
    rw [if_pos hj]

/-- The document's In in block r: its bytes, how many are taken, whether it is bad. -/
structure RefAt (w : World) (r : Nat) (v : Value) (bs : List UInt8) (at' : Nat) (bad : Bool) : Prop where
  cell : w.heap[r]? = some (.cells #[v, .int .i64 at', .bool bad] 51 (0, 0))
  sl : SlF w v bs
  le : at' ≤ bs.length
  len : bs.length ≤ 140737488355328
  ap : ∀ k, bs ≠ [] → blkV v = some k → k ≠ r

theorem RefAt.cell0 {w : World} {r : Nat} {v : Value} {bs : List UInt8} {a : Nat} {bad : Bool} (h : RefAt w r v bs a bad) : w.cell? ⟨r, 0, none⟩ = some v := by simp [World.cell?, h.cell]
theorem RefAt.cell1 {w : World} {r : Nat} {v : Value} {bs : List UInt8} {a : Nat} {bad : Bool} (h : RefAt w r v bs a bad) : w.cell? ⟨r, 1, none⟩ = some (.int .i64 a) := by simp [World.cell?, h.cell]
theorem RefAt.cell2 {w : World} {r : Nat} {v : Value} {bs : List UInt8} {a : Nat} {bad : Bool} (h : RefAt w r v bs a bad) : w.cell? ⟨r, 2, none⟩ = some (.bool bad) := by simp [World.cell?, h.cell]
theorem RefAt.free {w : World} {r : Nat} {v : Value} {bs : List UInt8} {a : Nat} {bad : Bool} (h : RefAt w r v bs a bad) (o : Nat) : w.frozen? ⟨r, o, none⟩ = false := by simp [World.frozen?, h.cell]

theorem only_drewN (S : Nat → Prop) (w : World) (n : Nat) : Only S w (w.drewN n) := (Only.refl S w).drewN n
theorem RefAt.keep {S : Nat → Prop} {w w' : World} {r : Nat} {v : Value} {bs : List UInt8} {a : Nat} {bad : Bool} (h : RefAt w r v bs a bad) (ho : Only S w w') (hr : ¬ S r) (hS : ∀ k, bs ≠ [] → blkV v = some k → ¬ S k) : RefAt w' r v bs a bad :=
  ⟨ho.keep h.cell hr, h.sl.keep ho hS, h.le, h.len, h.ap⟩
theorem RefAt.bad {w : World} {r : Nat} {v : Value} {bs : List UInt8} {a : Nat} {bad : Bool} (h : RefAt w r v bs a bad) (b : Bool) : RefAt (w.setCell ⟨r, 2, none⟩ (.bool b)) r v bs a b :=
  ⟨by rw [heap_set h.cell]; rfl, h.sl.keep (Only.cell w r 2 _) (fun k h1 h2 e => h.ap k h1 h2 e), h.le, h.len, h.ap⟩
theorem RefAt.move {w : World} {r : Nat} {v : Value} {bs : List UInt8} {a : Nat} {bad : Bool} (h : RefAt w r v bs a bad) (n : Nat) (hn : n ≤ bs.length) : RefAt (w.setCell ⟨r, 1, none⟩ (.int .i64 n)) r v bs n bad :=
  ⟨by rw [heap_set h.cell]; rfl, h.sl.keep (Only.cell w r 1 _) (fun k h1 h2 e => h.ap k h1 h2 e), hn, h.len, h.ap⟩

set_option maxHeartbeats 400000 in
theorem refLeft (r : Nat) (v : Value) (bs : List UInt8) (a : Nat) (bad : Bool) (w : World) (h : RefAt w r v bs a bad) :
    Calls Tryz.prog 45 #[.pointer (some ⟨r, 0, none⟩)] w fun e w' => e = .returned (.int .i64 ((bs.length : Int) - (a : Int))) ∧ ∃ n, w' = w.drewN n := by
  obtain ⟨ao, cap, rfl, _⟩ := h.sl.shape
  have h0 := h.cell0
  have h1 := h.cell1
  have hle := h.le
  have hlen := h.len
  have HR := Lib.hid h; clear h
  go_enter Tryz.func45, Tryz.ntmps45
  go_wp2
  go_quiet (fail)
  go_wp2
  go_ret
  exact ⟨rfl, _, rfl⟩

set_option maxHeartbeats 400000 in
theorem refDone_bad (r : Nat) (v : Value) (bs : List UInt8) (a : Nat) (w : World) (h : RefAt w r v bs a true) :
    Calls Tryz.prog 22 #[.pointer (some ⟨r, 0, none⟩)] w fun e w' => e = .returned (.bool false) ∧ ∃ n, w' = w.drewN n := by
  obtain ⟨ao, cap, rfl, _⟩ := h.sl.shape
  have h0 := h.cell0
  have h1 := h.cell1
  have h2 := h.cell2
  have HR := Lib.hid h; clear h
  go_enter Tryz.func22, Tryz.ntmps22
  go_wp2
  go_quiet (fail)
  go_wp2
  go_ret
  exact ⟨rfl, _, rfl⟩

set_option maxHeartbeats 400000 in
theorem refDone_good (r : Nat) (v : Value) (bs : List UInt8) (a : Nat) (w : World) (h : RefAt w r v bs a false) :
    Calls Tryz.prog 22 #[.pointer (some ⟨r, 0, none⟩)] w fun e w' => e = .returned (.bool (decide (a = bs.length))) ∧ ∃ n, w' = w.drewN n := by
  obtain ⟨ao, cap, rfl, _⟩ := h.sl.shape
  have h0 := h.cell0
  have h1 := h.cell1
  have h2 := h.cell2
  have HR := Lib.hid h; clear h
  go_enter Tryz.func22, Tryz.ntmps22
  go_wp2
  go_quiet (fail)
  go_wp2
  go_ret
  refine ⟨?_, _, rfl⟩
  show Ending.returned (.bool ((a : Int) == (bs.length : Int))) = _
  have : ((a : Int) == (bs.length : Int)) = decide (a = bs.length) := by rw [Bool.eq_iff_iff]; simp; omega
  rw [this]

set_option maxHeartbeats 400000 in
theorem refNum_bad (r n : Nat) (v : Value) (bs : List UInt8) (a : Nat) (w : World) (h : RefAt w r v bs a true) :
    Calls Tryz.prog 19 #[.pointer (some ⟨r, 0, none⟩), .int .i64 n] w fun e w' => e = .returned (.int .u64 0) ∧ w.setCell ⟨r, 2, none⟩ (.bool true) = w' := by
  have h2 := h.cell2
  have hf := h.free 2
  have HR := Lib.hid h; clear h
  go_enter Tryz.func19, Tryz.ntmps19
  go_wp2
  go_ret
  exact ⟨rfl, rfl⟩

set_option maxHeartbeats 400000 in
theorem refNum_short (r n : Nat) (v : Value) (bs : List UInt8) (a : Nat) (w : World) (h : RefAt w r v bs a false) (hn : bs.length < a + n) (hn8 : n ≤ 8) :
    Calls Tryz.prog 19 #[.pointer (some ⟨r, 0, none⟩), .int .i64 n] w fun e w' => e = .returned (.int .u64 0) ∧ ∃ q, (w.drewN q).setCell ⟨r, 2, none⟩ (.bool true) = w' := by
  have h2 := h.cell2
  have hf := h.free 2
  have hlt : (bs.length : Int) - (a : Int) < (n : Int) := by omega
  have HR := Lib.hid h; clear h
  go_enter Tryz.func19, Tryz.ntmps19
  go_wp2_with fail
  refine (refLeft r v bs a false w HR.out).mono ?_
  rintro e w' ⟨rfl, q, rfl⟩
  go_wp2
  go_ret
  exact ⟨rfl, q, rfl⟩

theorem RefAt.drewN {w : World} {r : Nat} {v : Value} {bs : List UInt8} {a : Nat} {bad : Bool} (h : RefAt w r v bs a bad) (n : Nat) : RefAt (w.drewN n) r v bs a bad :=
  h.keep (only_drewN (fun _ => False) w n) (fun h => h) (fun _ _ _ h => h)

set_option maxHeartbeats 400000 in
theorem refNum_ok (r n : Nat) (v : Value) (bs : List UInt8) (a : Nat) (w : World) (h : RefAt w r v bs a false) (hn : a + n ≤ bs.length) (hn8 : n ≤ 8) :
    Calls Tryz.prog 19 #[.pointer (some ⟨r, 0, none⟩), .int .i64 n] w fun e w' => e = .returned (.int .u64 (numB ((bs.drop a).take n))) ∧ ∃ q, (w.drewN q).setCell ⟨r, 1, none⟩ (.int .i64 ((a + n : Nat) : Int)) = w' := by
  have h2 := h.cell2
  have h1 := h.cell1
  have hf := h.free 1
  have hlen := h.len
  obtain ⟨ao, cap, rfl, _⟩ := h.sl.shape
  have h0 := h.cell0
  have hge : ¬ (bs.length : Int) - (a : Int) < (n : Int) := by omega
  obtain ⟨ys, hys⟩ : ∃ ys, ys = (bs.drop a).take n := ⟨_, rfl⟩
  have HYL : Hid (ys.length = n) := by show _ = _; rw [hys]; simp; omega
  have HYG : Hid (∀ k, k < n → ys.getD k 0 = bs.getD (a + k) 0) := by
    intro k hk
    rw [hys]
    simp [List.getD_eq_getElem?_getD, List.getElem?_take, hk]
  rw [← hys]
  have HR := Lib.hid h; clear h hys
  go_enter Tryz.func19, Tryz.ntmps19
  go_wp2_with fail
  refine (refLeft r _ bs a false w HR.out).mono ?_
  rintro e w' ⟨rfl, q, rfl⟩
  go_wp2_with fail
  go_loopw [5, 6] (fun x i wr => ∃ (k q : Nat), k ≤ n ∧ i = .int .i64 k ∧ x = .int .u64 (numB (ys.take k)) ∧ wr = w.drewN q) (fun _ i _ => n - (intOf i).toNat)
  case atStart => exact ⟨0, _, Nat.zero_le _, rfl, rfl, rfl⟩
  case round =>
    obtain ⟨k, q, hk, rfl, rfl, rfl⟩ := hrel
    by_cases hlt : k < n
    · obtain ⟨g, off, hao, hcell⟩ := HR.out.sl.cells (k := a + k) (by omega)
      have hbd : (bs.getD (a + k) 0).toNat < 256 := (bs.getD (a + k) 0).toNat_lt
      have HNB := Lib.hid (numB_take_lt ys k (by rw [HYL.out]; exact hlt) (by rw [HYL.out]; exact hn8))
      obtain ⟨x, hx⟩ : ∃ x, x = numB (ys.take k) := ⟨_, rfl⟩
      rw [← hx]
      have hxb : x < 72057594037927936 := by rw [hx]; exact HNB.out
      obtain ⟨b, hb⟩ : ∃ b : UInt8, b = bs.getD (a + k) 0 := ⟨_, rfl⟩
      rw [← hb] at hcell hbd
      have HX := Lib.hid hx; clear hx
      have HB := Lib.hid hb; clear hb
      subst hao
      have s1 : IntKind.i64.wrap ((a : Int) + (k : Int)) = (a : Int) + (k : Int) := IntWalk.i64_in _ (by omega)
      have s2 : ((a : Int) + (k : Int)).toNat = a + k := by omega
      have s3 : (0 : Int) ≤ (a : Int) + (k : Int) := by omega
      have s4 : (a : Int) + (k : Int) < (bs.length : Int) := by omega
      go_wp2
      go_quiet (fail)
      have HV : Hid (Value.int .u64 ((x : Int) * 256 + (b.toNat : Int)) = .int .u64 (numB (ys.take (k + 1)))) := by
        show _ = _
        rw [take_snoc8 ys k (by rw [HYL.out]; exact hlt), numB_snoc, HYG.out k hlt, ← HB.out, ← HX.out]
        congr 1
      go_wp2
      go_roundw
      case rel => exact ⟨k + 1, q + nq, by omega, by go_num, HV.out, rfl⟩
      case measure => simp [intOf]; omega
    · have hke : k = n := by omega
      subst hke
      have HE : Hid (ys.take k = ys) := List.take_of_length_le (by rw [HYL.out]; exact Nat.le_refl _)
      rw [HE.out]
      go_wp2
      go_ret
      exact ⟨rfl, q, by first | rfl | (congr 2; omega)⟩

set_option linter.unusedVariables false

/-- The document's In with these bytes left. -/
def RefV (v : Value) (bs : List UInt8) (w : World) (r : Nat) (xs : List UInt8) (bad : Bool) : Prop := ∃ a, RefAt w r v bs a bad ∧ xs = bs.drop a

theorem can_iff {n : Nat} {bs : List UInt8} {a : Nat} (hle : a ≤ bs.length) : can n (bs.drop a) false = decide (a + n ≤ bs.length) := by
  simp only [can, List.length_drop, Bool.not_false, Bool.true_and, decide_eq_decide]
  omega

def RNumPost (v : Value) (bs : List UInt8) (w : World) (r n : Nat) (xs : List UInt8) (bad : Bool) (e : Ending) (w' : World) : Prop :=
  e = .returned (.int .u64 (numB (nextR n xs bad))) ∧ RefV v bs w' r (nextL n xs bad) (!can n xs bad) ∧ Only (fun k => k = r) w w'

theorem refNum (r n : Nat) (xs : List UInt8) (bad : Bool) (w : World) (v : Value) (bs : List UInt8) (h : RefV v bs w r xs bad) (hn8 : n ≤ 8) :
    Calls Tryz.prog 19 #[.pointer (some ⟨r, 0, none⟩), .int .i64 n] w (RNumPost v bs w r n xs bad) := by
  obtain ⟨a, h, rfl⟩ := h
  cases bad with
  | true =>
    refine (refNum_bad r n v bs a w h).mono ?_
    rintro e w' ⟨rfl, rfl⟩
    exact ⟨by simp [nextR, can, numB], ⟨a, by simpa [can] using h.bad true, by simp [nextL, can]⟩, Only.cell w r 2 _⟩
  | false =>
    have hc := can_iff (n := n) h.le
    by_cases hn : a + n ≤ bs.length
    · refine (refNum_ok r n v bs a w h hn hn8).mono ?_
      rintro e w' ⟨rfl, q, rfl⟩
      have hc' : can n (bs.drop a) false = true := by rw [hc]; simpa using hn
      refine ⟨by simp [nextR, hc'], ⟨a + n, ?_, by simp [nextL, hc']⟩, (only_drewN _ w q).trans (Only.cell _ r 1 _) (fun _ _ h => h)⟩
      rw [hc']
      exact (h.drewN q).move (a + n) hn
    · refine (refNum_short r n v bs a w h (by omega) hn8).mono ?_
      rintro e w' ⟨rfl, q, rfl⟩
      have hc' : can n (bs.drop a) false = false := by rw [hc]; simpa using hn
      refine ⟨by simp [nextR, hc', numB], ⟨a, ?_, by simp [nextL, hc']⟩, (only_drewN _ w q).trans (Only.cell _ r 2 _) (fun _ _ h => h)⟩
      rw [hc']
      exact (h.drewN q).bad true

set_option maxHeartbeats 400000 in
theorem refFlag_bad (r : Nat) (v : Value) (bs : List UInt8) (a : Nat) (w : World) (h : RefAt w r v bs a true) :
    Calls Tryz.prog 17 #[.pointer (some ⟨r, 0, none⟩)] w fun e w' => e = .returned (.bool false) ∧ ∃ q, (w.drewN q).setCell ⟨r, 2, none⟩ (.bool true) = w' := by
  have h2 := h.cell2
  have hf := h.free 2
  have HR := Lib.hid h; clear h
  go_enter Tryz.func17, Tryz.ntmps17
  go_wp2
  go_quiet (fail)
  go_wp2
  go_ret
  exact ⟨rfl, _, rfl⟩

theorem quiet_left (r : Nat) (v : Value) (bs : List UInt8) (a : Nat) (bad : Bool) (w : World) (h : RefAt w r v bs a bad) (q : Nat) :
    Calls Tryz.prog 45 #[.pointer (some ⟨r, 0, none⟩)] (w.drewN q) fun e w' => e = .returned (.int .i64 ((bs.length : Int) - (a : Int))) ∧ ∃ n, w' = (w.drewN q).drewN n :=
  refLeft r v bs a bad (w.drewN q) (h.drewN q)

set_option maxHeartbeats 400000 in
theorem refFlag_none (r : Nat) (v : Value) (bs : List UInt8) (w : World) (h : RefAt w r v bs bs.length false) :
    Calls Tryz.prog 17 #[.pointer (some ⟨r, 0, none⟩)] w fun e w' => e = .returned (.bool false) ∧ ∃ q, (w.drewN q).setCell ⟨r, 2, none⟩ (.bool true) = w' := by
  have h2 := h.cell2
  have hf := h.free 2
  have hd : (bs.length : Int) - (bs.length : Int) < 1 := by omega
  have HR := Lib.hid h; clear h
  go_enter Tryz.func17, Tryz.ntmps17
  go_wp2
  go_quiet ((go_at_call 45; exact Calls.quiet_of (quiet_left r v bs bs.length false w HR.out _)))
  go_wp2
  go_ret
  exact ⟨rfl, _, rfl⟩

set_option maxHeartbeats 400000 in
theorem refFlag_big (r : Nat) (v : Value) (bs : List UInt8) (a : Nat) (w : World) (h : RefAt w r v bs a false) (ha : a < bs.length) (hb1 : 1 < (bs.getD a 0).toNat) :
    Calls Tryz.prog 17 #[.pointer (some ⟨r, 0, none⟩)] w fun e w' => e = .returned (.bool false) ∧ ∃ q, (w.drewN q).setCell ⟨r, 2, none⟩ (.bool true) = w' := by
  have h2 := h.cell2
  have h1 := h.cell1
  have hf := h.free 2
  have hlen := h.len
  obtain ⟨ao, cap, rfl, _⟩ := h.sl.shape
  have h0 := h.cell0
  obtain ⟨g, off, rfl, hcell⟩ := h.sl.cells ha
  obtain ⟨b, hb⟩ : ∃ b : UInt8, b = bs.getD a 0 := ⟨_, rfl⟩
  rw [← hb] at hcell hb1
  clear hb
  have hd : decide ((bs.length : Int) - (a : Int) < 1) = false := by simp; omega
  have hge : ¬ (bs.length : Int) - (a : Int) < 1 := by omega
  have hgt : (1 : Int) < (b.toNat : Int) := by omega
  have s3 : (0 : Int) ≤ (a : Int) := by omega
  have s4 : (a : Int) < (bs.length : Int) := by omega
  have HR := Lib.hid h; clear h
  go_enter Tryz.func17, Tryz.ntmps17
  go_wp2
  go_quiet ((go_at_call 45; exact Calls.quiet_of (quiet_left r _ bs a false w HR.out _)))
  go_wp2
  go_ret
  exact ⟨rfl, _, rfl⟩

set_option maxHeartbeats 400000 in
theorem refFlag_small (r : Nat) (v : Value) (bs : List UInt8) (a : Nat) (w : World) (h : RefAt w r v bs a false) (ha : a < bs.length) (hb1 : (bs.getD a 0).toNat ≤ 1) :
    Calls Tryz.prog 17 #[.pointer (some ⟨r, 0, none⟩)] w fun e w' => e = .returned (.bool (decide ((bs.getD a 0).toNat = 1))) ∧ ∃ q q', ((w.drewN q).setCell ⟨r, 1, none⟩ (.int .i64 ((a + 1 : Nat) : Int))).drewN q' = w' := by
  have h2 := h.cell2
  have h1 := h.cell1
  have hf := h.free 1
  have hlen := h.len
  obtain ⟨ao, cap, rfl, _⟩ := h.sl.shape
  have h0 := h.cell0
  obtain ⟨g, off, rfl, hcell⟩ := h.sl.cells ha
  obtain ⟨b, hb⟩ : ∃ b : UInt8, b = bs.getD a 0 := ⟨_, rfl⟩
  rw [← hb] at hcell hb1 ⊢
  have HB := Lib.hid hb
  clear hb
  have hd : decide ((bs.length : Int) - (a : Int) < 1) = false := by simp; omega
  have hge : ¬ (bs.length : Int) - (a : Int) < 1 := by omega
  have hgt : ¬ (1 : Int) < (b.toNat : Int) := by omega
  have s3 : (0 : Int) ≤ (a : Int) := by omega
  have s4 : (a : Int) < (bs.length : Int) := by omega
  have HR := Lib.hid h; clear h
  go_enter Tryz.func17, Tryz.ntmps17
  go_wp2
  go_quiet ((go_at_call 45; exact Calls.quiet_of (quiet_left r _ bs a false w HR.out _)))
  go_wp2
  obtain ⟨q1, hq1⟩ : ∃ q1, q1 = nq := ⟨_, rfl⟩
  subst hq1
  have hm := Lib.hid ((HR.out.drewN q1).move (a + 1) (by omega))
  clear h0 h1 h2 hf hcell hd hge hgt
  obtain ⟨wx, hwx⟩ : ∃ wx, wx = (w.drewN q1).setCell ⟨r, 1, none⟩ (.int .i64 ((a : Int) + 1)) := ⟨_, rfl⟩
  have HX := Lib.hid hwx
  rw [← hwx]
  have HM : Hid (RefAt wx r (.slice (some ⟨g, off, none⟩) bs.length cap) bs (a + 1) false) := by show RefAt _ _ _ _ _ _; rw [hwx]; exact hm.out
  clear hwx hm
  have h0 := HM.out.cell0
  have h1 : wx.cell? ⟨r, 1, none⟩ = some (.int .i64 ((a : Int) + 1)) := HM.out.cell1
  obtain ⟨g2, off2, hg2, hcell⟩ := HM.out.sl.cells ha
  simp only [Option.some.injEq, Addr.mk.injEq, and_true] at hg2
  obtain ⟨rfl, rfl⟩ := hg2
  rw [← HB.out] at hcell
  have e1 : (a : Int) + 1 - 1 = (a : Int) := by omega
  go_quiet (fail)
  go_wp2
  go_ret
  refine ⟨?_, q1, nq, by rw [HX.out]; rfl⟩
  show Ending.returned (.bool ((b.toNat : Int) == 1)) = _
  have : ((b.toNat : Int) == 1) = decide (b.toNat = 1) := by rw [Bool.eq_iff_iff]; simp; omega
  rw [this]

set_option linter.unusedVariables false

def RFlagPost (v : Value) (bs : List UInt8) (w : World) (r : Nat) (xs : List UInt8) (bad : Bool) (e : Ending) (w' : World) : Prop :=
  e = .returned (.bool (flagR xs bad)) ∧ RefV v bs w' r (flagL xs bad) (!flagOk xs bad) ∧ Only (fun k => k = r) w w'

theorem head_drop {bs : List UInt8} {a : Nat} : (bs.drop a).headD 0 = bs.getD a 0 := by
  rw [List.headD_eq_head?_getD, List.head?_drop, List.getD_eq_getElem?_getD]

theorem refFlag (r : Nat) (xs : List UInt8) (bad : Bool) (w : World) (v : Value) (bs : List UInt8) (h : RefV v bs w r xs bad) :
    Calls Tryz.prog 17 #[.pointer (some ⟨r, 0, none⟩)] w (RFlagPost v bs w r xs bad) := by
  obtain ⟨a, h, rfl⟩ := h
  cases bad with
  | true =>
    refine (refFlag_bad r v bs a w h).mono ?_
    rintro e w' ⟨rfl, q, rfl⟩
    exact ⟨by simp [flagR, flagOk, can], ⟨a, by simpa [flagOk, can] using (h.drewN q).bad true, by simp [flagL, flagOk, can]⟩, (only_drewN _ w q).trans (Only.cell _ r 2 _) (fun _ _ h => h)⟩
  | false =>
    have hc := can_iff (n := 1) h.le
    by_cases ha : a < bs.length
    · have hc' : can 1 (bs.drop a) false = true := by rw [hc]; simp; omega
      by_cases hb : (bs.getD a 0).toNat ≤ 1
      · have hok : flagOk (bs.drop a) false = true := by unfold flagOk; rw [hc', head_drop]; simpa using hb
        refine (refFlag_small r v bs a w h ha hb).mono ?_
        rintro e w' ⟨rfl, q, q', rfl⟩
        refine ⟨?_, ⟨a + 1, ?_, by simp [flagL, hok]⟩, ((only_drewN _ w q).trans (Only.cell _ r 1 _) (fun _ _ h => h)).drewN q'⟩
        · unfold flagR; rw [hok, head_drop]; simp
        · rw [hok]; exact ((h.drewN q).move (a + 1) ha).drewN q'
      · have hok : flagOk (bs.drop a) false = false := by unfold flagOk; rw [hc', head_drop, decide_eq_false hb]; rfl
        refine (refFlag_big r v bs a w h ha (by omega)).mono ?_
        rintro e w' ⟨rfl, q, rfl⟩
        exact ⟨by simp [flagR, hok], ⟨a, by rw [hok]; exact (h.drewN q).bad true, by simp [flagL, hok]⟩, (only_drewN _ w q).trans (Only.cell _ r 2 _) (fun _ _ h => h)⟩
    · obtain rfl : a = bs.length := by have := h.le; omega
      have hc' : can 1 (bs.drop bs.length) false = false := by rw [hc]; simp
      have hok : flagOk (bs.drop bs.length) false = false := by unfold flagOk; rw [hc']; rfl
      refine (refFlag_none r v bs w h).mono ?_
      rintro e w' ⟨rfl, q, rfl⟩
      exact ⟨by simp only [flagR, hok]; simp, ⟨bs.length, by rw [hok]; exact (h.drewN q).bad true, by simp only [flagL, hok]; simp⟩, (only_drewN _ w q).trans (Only.cell _ r 2 _) (fun _ _ h => h)⟩

set_option maxHeartbeats 400000 in
theorem refText_bad (r : Nat) (v : Value) (bs : List UInt8) (a : Nat) (w : World) (h : RefAt w r v bs a true) :
    Calls Tryz.prog 20 #[.pointer (some ⟨r, 0, none⟩)] w fun e w' => e = .returned (.string ⟨#[]⟩) ∧ w.setCell ⟨r, 2, none⟩ (.bool true) = w' := by
  have h2 := h.cell2
  have hf := h.free 2
  have HR := Lib.hid h; clear h
  go_enter Tryz.func20, Tryz.ntmps20
  go_wp2
  go_ret
  exact ⟨rfl, rfl⟩

set_option maxHeartbeats 400000 in
theorem refText_short2 (r : Nat) (v : Value) (bs : List UInt8) (a : Nat) (w : World) (h : RefAt w r v bs a false) (hn : bs.length < a + 2) :
    Calls Tryz.prog 20 #[.pointer (some ⟨r, 0, none⟩)] w fun e w' => e = .returned (.string ⟨#[]⟩) ∧ ∃ q, (w.drewN q).setCell ⟨r, 2, none⟩ (.bool true) = w' := by
  have h2 := h.cell2
  have hf := h.free 2
  have hlt : (bs.length : Int) - (a : Int) < 2 := by omega
  have HR := Lib.hid h; clear h
  go_enter Tryz.func20, Tryz.ntmps20
  go_wp2_with fail
  refine (refLeft r v bs a false w HR.out).mono ?_
  rintro e w' ⟨rfl, q, rfl⟩
  go_wp2
  go_ret
  exact ⟨rfl, q, rfl⟩

theorem txt_num {bs : List UInt8} {a : Nat} (h : a + 2 ≤ bs.length) : txtN (bs.drop a) = (bs.getD a 0).toNat * 256 + (bs.getD (a + 1) 0).toNat := by
  have e : (bs.drop a).take 2 = [bs.getD a 0, bs.getD (a + 1) 0] := by
    rw [List.drop_eq_getElem_cons (by omega), List.drop_eq_getElem_cons (by omega), List.take_succ_cons, List.take_succ_cons, List.take_zero]
    simp [List.getD_eq_getElem?_getD, show a < bs.length by omega, show a + 1 < bs.length by omega]
  unfold txtN
  rw [e]
  simp [numB]

set_option maxHeartbeats 400000 in
theorem refText_shortN (r : Nat) (v : Value) (bs : List UInt8) (a : Nat) (w : World) (h : RefAt w r v bs a false) (h2' : a + 2 ≤ bs.length) (hn : bs.length < a + 2 + txtN (bs.drop a)) :
    Calls Tryz.prog 20 #[.pointer (some ⟨r, 0, none⟩)] w fun e w' => e = .returned (.string ⟨#[]⟩) ∧ ∃ q, (w.drewN q).setCell ⟨r, 2, none⟩ (.bool true) = w' := by
  rw [txt_num h2'] at hn
  have h2 := h.cell2
  have h1 := h.cell1
  have hf := h.free 2
  have hlen := h.len
  obtain ⟨ao, cap, rfl, _⟩ := h.sl.shape
  have h0 := h.cell0
  obtain ⟨g, off, rfl, hcell⟩ := h.sl.cells (k := a) (by omega)
  obtain ⟨g', off', hg, hcell'⟩ := h.sl.cells (k := a + 1) (by omega)
  simp only [Option.some.injEq, Addr.mk.injEq, and_true] at hg
  obtain ⟨rfl, rfl⟩ := hg
  obtain ⟨b, hb⟩ : ∃ b : UInt8, b = bs.getD a 0 := ⟨_, rfl⟩
  obtain ⟨c, hc⟩ : ∃ c : UInt8, c = bs.getD (a + 1) 0 := ⟨_, rfl⟩
  rw [← hb] at hcell hn
  rw [← hc] at hcell' hn
  have hbl := b.toNat_lt
  have hcl := c.toNat_lt
  clear hb hc
  have hge : ¬ (bs.length : Int) - (a : Int) < 2 := by omega
  have hd : decide ((bs.length : Int) - (a : Int) < 2) = false := by simp; omega
  have s3 : (0 : Int) ≤ (a : Int) := by omega
  have s4 : (a : Int) < (bs.length : Int) := by omega
  have s5 : (a : Int) + 1 < (bs.length : Int) := by omega
  have s6 : ((a : Int) + 1).toNat = a + 1 := by omega
  have hlt : (bs.length : Int) - (a : Int) < 2 + ((b.toNat : Int) * 256 + (c.toNat : Int)) := by omega
  have HR := Lib.hid h; clear h
  go_enter Tryz.func20, Tryz.ntmps20
  go_wp2_with fail
  refine (refLeft r _ bs a false w HR.out).mono ?_
  rintro e w' ⟨rfl, q, rfl⟩
  go_wp2_with fail
  go_quiet (fail)
  go_wp2_with fail
  refine (refLeft r _ bs a false _ (HR.out.drewN _)).mono ?_
  rintro e w' ⟨rfl, q2, rfl⟩
  go_wp2
  go_ret
  exact ⟨rfl, _, rfl⟩

set_option maxHeartbeats 400000 in
theorem refText_ok (r : Nat) (v : Value) (bs : List UInt8) (a : Nat) (w : World) (h : RefAt w r v bs a false) (h2' : a + 2 ≤ bs.length) (hn : a + 2 + txtN (bs.drop a) ≤ bs.length) :
    Calls Tryz.prog 20 #[.pointer (some ⟨r, 0, none⟩)] w fun e w' => e = .returned (.string ⟨(((bs.drop a).drop 2).take (txtN (bs.drop a))).toArray⟩) ∧ ∃ q q', ((w.drewN q).setCell ⟨r, 1, none⟩ (.int .i64 ((a + 2 + txtN (bs.drop a) : Nat) : Int))).drewN q' = w' := by
  have HT := Lib.hid (txt_num h2')
  obtain ⟨m, hm⟩ : ∃ m, m = txtN (bs.drop a) := ⟨_, rfl⟩
  rw [← hm] at hn ⊢
  have HMM := Lib.hid hm
  clear hm
  have h2 := h.cell2
  have h1 := h.cell1
  have hf := h.free 1
  have hlen := h.len
  obtain ⟨ao, cap, rfl, hlc, hcm⟩ := h.sl.shape
  have h0 := h.cell0
  obtain ⟨g, off, rfl, hcell⟩ := h.sl.cells (k := a) (by omega)
  obtain ⟨g', off', hg, hcell'⟩ := h.sl.cells (k := a + 1) (by omega)
  simp only [Option.some.injEq, Addr.mk.injEq, and_true] at hg
  obtain ⟨rfl, rfl⟩ := hg
  obtain ⟨b, hb⟩ : ∃ b : UInt8, b = bs.getD a 0 := ⟨_, rfl⟩
  obtain ⟨c, hc⟩ : ∃ c : UInt8, c = bs.getD (a + 1) 0 := ⟨_, rfl⟩
  rw [← hb] at hcell
  rw [← hc] at hcell'
  have HS : Hid ((b.toNat : Int) * 256 + (c.toNat : Int) = (m : Int)) := by show _ = _; rw [HMM.out, HT.out, hb, hc]; omega
  have hbl := b.toNat_lt
  have hcl := c.toNat_lt
  clear hb hc
  have hge : ¬ (bs.length : Int) - (a : Int) < 2 := by omega
  have hd : decide ((bs.length : Int) - (a : Int) < 2) = false := by simp; omega
  have s3 : (0 : Int) ≤ (a : Int) := by omega
  have s4 : (a : Int) < (bs.length : Int) := by omega
  have s5 : (a : Int) + 1 < (bs.length : Int) := by omega
  have s6 : ((a : Int) + 1).toNat = a + 1 := by omega
  have HR := Lib.hid h; clear h
  go_enter Tryz.func20, Tryz.ntmps20
  go_wp2_with fail
  refine (refLeft r _ bs a false w HR.out).mono ?_
  rintro e w' ⟨rfl, q, rfl⟩
  go_wp2_with fail
  go_quiet (fail)
  simp only [HS.out]
  have hge2 : ¬ (bs.length : Int) - (a : Int) < 2 + (m : Int) := by omega
  go_wp2_with fail
  refine (refLeft r _ bs a false _ (HR.out.drewN _)).mono ?_
  rintro e w' ⟨rfl, q2, rfl⟩
  go_wp2
  obtain ⟨q1, hq1⟩ : ∃ q1, q1 = q + nq + q2 := ⟨_, rfl⟩
  rw [← hq1]
  clear hq1
  have hm := Lib.hid ((HR.out.drewN q1).move (a + 2 + m) hn)
  clear h0 h1 h2 hf hcell hcell' hd hge hge2
  obtain ⟨wx, hwx⟩ : ∃ wx, wx = (w.drewN q1).setCell ⟨r, 1, none⟩ (.int .i64 ((a : Int) + (2 + (m : Int)))) := ⟨_, rfl⟩
  have HX := Lib.hid hwx
  rw [← hwx]
  have HE : Hid (((a + 2 + m : Nat) : Int) = (a : Int) + (2 + (m : Int))) := by show _ = _; omega
  have HM : Hid (RefAt wx r (.slice (some ⟨g, off, none⟩) bs.length cap) bs (a + 2 + m) false) := by
    show RefAt _ _ _ _ _ _
    rw [hwx, ← HE.out]
    exact hm.out
  clear hwx hm
  have h0 := HM.out.cell0
  have h1 : wx.cell? ⟨r, 1, none⟩ = some (.int .i64 ((a : Int) + (2 + (m : Int)))) := by rw [← HE.out]; exact HM.out.cell1
  have e1 : (a : Int) + (2 + (m : Int)) - (m : Int) = (a : Int) + 2 := by omega
  have e2 : ((a : Int) + 2).toNat = a + 2 := by omega
  have e3 : ((a : Int) + (2 + (m : Int))).toNat = a + 2 + m := by omega
  have e4 : (0 : Int) ≤ (a : Int) + 2 := by omega
  have e5 : (a : Int) + 2 ≤ (a : Int) + (2 + (m : Int)) := by omega
  have e6 : (a : Int) + (2 + (m : Int)) ≤ (cap : Int) := by omega
  have e7 : a + 2 + m - (a + 2) = m := by omega
  have hcv : ∀ q, (convert 22 9 (.slice (if cap = a + 2 then some ⟨g, off, none⟩ else some ⟨g, off + (a + 2), none⟩) m (cap - (a + 2)))).run Tryz.prog (wx.drewN q) = .ok (.string ⟨((bs.drop (a + 2)).take m).toArray⟩) (wx.drewN q) :=
    fun q => SlF.str (SlF.sub (HM.out.drewN q).sl hn)
  go_quiet (fail)
  go_wp2
  all_goals
    go_ret
    refine ⟨?_, q1, nq, by rw [HX.out, ← HE.out]; rfl⟩
    show Ending.returned (.string ⟨((bs.drop (a + 2)).take m).toArray⟩) = _
    first | rfl | rw [List.drop_drop]

def RTextPost (v : Value) (bs : List UInt8) (w : World) (r : Nat) (xs : List UInt8) (bad : Bool) (e : Ending) (w' : World) : Prop :=
  e = .returned (.string ⟨(txtR xs bad).toArray⟩) ∧ RefV v bs w' r (txtL xs bad) (!txtOk xs bad) ∧ Only (fun k => k = r) w w'

theorem refText (r : Nat) (xs : List UInt8) (bad : Bool) (w : World) (v : Value) (bs : List UInt8) (h : RefV v bs w r xs bad) :
    Calls Tryz.prog 20 #[.pointer (some ⟨r, 0, none⟩)] w (RTextPost v bs w r xs bad) := by
  obtain ⟨a, h, rfl⟩ := h
  cases bad with
  | true =>
    refine (refText_bad r v bs a w h).mono ?_
    rintro e w' ⟨rfl, rfl⟩
    exact ⟨by simp [txtR, txtOk, can], ⟨a, by simpa [txtOk, can] using h.bad true, by simp [txtL, txtOk, can]⟩, Only.cell w r 2 _⟩
  | false =>
    have hc := can_iff (n := 2) h.le
    by_cases h2 : a + 2 ≤ bs.length
    · have hc2 : can 2 (bs.drop a) false = true := by rw [hc]; simpa using h2
      have hcn : can (txtN (bs.drop a)) ((bs.drop a).drop 2) false = decide (a + 2 + txtN (bs.drop a) ≤ bs.length) := by
        rw [List.drop_drop]; exact can_iff h2
      by_cases hn : a + 2 + txtN (bs.drop a) ≤ bs.length
      · have hok : txtOk (bs.drop a) false = true := by unfold txtOk; rw [hc2, hcn, decide_eq_true hn]; rfl
        refine (refText_ok r v bs a w h h2 hn).mono ?_
        rintro e w' ⟨rfl, q, q', rfl⟩
        refine ⟨by simp [txtR, hok], ⟨a + 2 + txtN (bs.drop a), ?_, by simp [txtL, hok]⟩, ((only_drewN _ w q).trans (Only.cell _ r 1 _) (fun _ _ h => h)).drewN q'⟩
        rw [hok]
        exact ((h.drewN q).move _ hn).drewN q'
      · have hok : txtOk (bs.drop a) false = false := by unfold txtOk; rw [hc2, hcn, decide_eq_false hn]; rfl
        refine (refText_shortN r v bs a w h h2 (by omega)).mono ?_
        rintro e w' ⟨rfl, q, rfl⟩
        exact ⟨by simp [txtR, hok], ⟨a, by rw [hok]; exact (h.drewN q).bad true, by simp [txtL, hok]⟩, (only_drewN _ w q).trans (Only.cell _ r 2 _) (fun _ _ h => h)⟩
    · have hc2 : can 2 (bs.drop a) false = false := by rw [hc]; simpa using h2
      have hok : txtOk (bs.drop a) false = false := by unfold txtOk; rw [hc2]; rfl
      refine (refText_short2 r v bs a w h (by omega)).mono ?_
      rintro e w' ⟨rfl, q, rfl⟩
      exact ⟨by simp [txtR, hok], ⟨a, by rw [hok]; exact (h.drewN q).bad true, by simp [txtL, hok]⟩, (only_drewN _ w q).trans (Only.cell _ r 2 _) (fun _ _ h => h)⟩


end Go.Proofs.YtookbmpaoljelaaGreat.RI

namespace Go.Proofs.YtookbmpaoljelaaGreat
open Go Go.RowKit
set_option linter.unusedVariables false
set_option linter.unusedSimpArgs false
set_option maxRecDepth 100000
set_option linter.unusedSimpArgs false
set_option maxRecDepth 100000

/-- A value, if it is there. -/
structure Mv where
  t : Bool
  b : ByteArray
abbrev Mv.no : Mv := ⟨false, ⟨#[]⟩⟩
/-- A message. -/
structure Ms where
  sq : Int
  K : Int
  k : ByteArray
  x : Int
  v : ByteArray
  off : Int
  num : Int
instance : Inhabited Ms := ⟨⟨0, 0, ⟨#[]⟩, 0, ⟨#[]⟩, 0, 0⟩⟩
/-- An entry. -/
structure En where
  k : ByteArray
  h : Bool
  v : ByteArray
  x : Int
  n : Bool
  nv : ByteArray
/-- What an entry says. -/
structure St where
  c : Mv
  x : Int
  m : Mv

def addL (l : List UInt8) (off num : Nat) : List UInt8 := l.take off ++ (beB 8 (numB ((l.drop off).take 8) + num) ++ l.drop (off + 8))
def growL (l v : List UInt8) : List UInt8 := UInt8.ofNat ((l.getD 0 0).toNat + 1) :: (l.drop 1 ++ v)
def Mv.add (v : Mv) (m : Ms) : Mv := if (v.b.size : Int) - 8 < m.off then v else ⟨true, ⟨(addL v.b.toList m.off.toNat m.num.toNat).toArray⟩⟩
def Mv.grow (v : Mv) (m : Ms) : Mv :=
  if v.b.size = 0 then v else if ((v.b.toList.getD 0 0).toNat : Int) ≠ m.off then v else if 512 < v.b.size + m.v.size then v else ⟨true, ⟨(growL v.b.toList m.v.toList).toArray⟩⟩
def chg (v : Mv) (m : Ms) : Mv := if m.K = 1 then ⟨true, m.v⟩ else if m.K = 2 then Mv.no else if m.K = 3 then v.add m else v.grow m
def valOf (t : Bool) (b : ByteArray) : Mv := if t then ⟨true, b⟩ else Mv.no
def St.view (s : St) (x : Int) : Mv := if x ≠ 0 ∧ s.x = x then s.m else s.c
def St.changed (s : St) (m : Ms) : St :=
  if m.x = 0 then ⟨chg s.c m, s.x, s.m⟩ else if s.x = 0 ∨ s.x = m.x then ⟨s.c, m.x, chg (s.view m.x) m⟩ else s
def St.grown (s : St) (m : Ms) : St := ⟨chg s.c m, s.x, chg s.m m⟩
def St.ended (s : St) (x : Int) (v : Mv) : St := if x = 0 ∨ s.x ≠ x then s else ⟨v, 0, Mv.no⟩
def St.after (s : St) (m : Ms) : St :=
  if m.K = 3 then (if m.off < 0 then s else s.changed m) else if m.K = 1 ∨ m.K = 2 then s.changed m else if m.K = 4 then s.grown m else if m.K = 5 then s.ended m.x s.m else if m.K = 6 then s.ended m.x s.c else s
def En.st (e : En) : St := ⟨valOf e.h e.v, e.x, if e.x ≠ 0 then valOf e.n e.nv else Mv.no⟩
def St.en (s : St) (k : ByteArray) : En := ⟨k, s.c.t, s.c.b, s.x, s.m.t, s.m.b⟩
def applyE (e : En) (m : Ms) : En := (e.st.after m).en e.k
def goneE (e : En) : Bool := !e.h && decide (e.x = 0)
def viewE (e : En) (x : Int) : Mv := e.st.view x
def isFor (k : ByteArray) (m : Ms) : Bool := decide (m.K = 4) || (m.k.toList == k.toList)
def foldE : En → List Ms → En
  | e, [] => e
  | e, m :: l => foldE (if isFor e.k m = true then applyE e m else e) l
def checkE (m : Ms) : Int :=
  if m.K < 1 ∨ 6 < m.K then 1 else if 256 < m.k.size ∨ 512 < m.v.size then 7 else
  if (if m.K = 1 then decide (m.off = 0 ∧ m.num = 0) else if m.K = 2 then decide (m.off = 0 ∧ m.num = 0 ∧ m.v.size = 0) else if m.K = 3 then decide (0 ≤ m.off ∧ m.off ≤ 504 ∧ m.v.size = 0) else
    if m.K = 4 then decide (0 ≤ m.off ∧ m.off ≤ 254 ∧ m.num = 0 ∧ m.k.size = 0 ∧ m.x = 0) else decide (m.off = 0 ∧ m.num = 0 ∧ m.v.size = 0 ∧ m.x ≠ 0)) = true then 0 else 1

/-! ### States in their plain form -/
def Mv.Ok (v : Mv) : Prop := v.t = false → v.b = ⟨#[]⟩
structure St.Ok (s : St) : Prop where
  c : s.c.Ok
  m : s.m.Ok
  z : s.x = 0 → s.m = Mv.no
theorem Mv.no_ok : Mv.no.Ok := fun _ => rfl
theorem valOf_ok (t : Bool) (b : ByteArray) : (valOf t b).Ok := by
  cases t with
  | false => exact fun _ => rfl
  | true => intro h; cases h
theorem valOf_of {v : Mv} (h : v.Ok) : valOf v.t v.b = v := by
  obtain ⟨t, b⟩ := v
  cases t with
  | false =>
    have := h rfl
    simp only at this
    subst this
    rfl
  | true => rfl
theorem st_ok (e : En) : e.st.Ok := by
  refine ⟨valOf_ok _ _, ?_, fun h => ?_⟩
  · show (if e.x ≠ 0 then valOf e.n e.nv else Mv.no).Ok
    split
    · exact valOf_ok _ _
    · exact Mv.no_ok
  · show (if e.x ≠ 0 then valOf e.n e.nv else Mv.no) = _
    rw [if_neg (fun k => k h)]
theorem st_en {s : St} (h : s.Ok) (k : ByteArray) : (s.en k).st = s := by
  obtain ⟨c, x, m⟩ := s
  unfold En.st St.en
  simp only
  rw [valOf_of h.c]
  by_cases hx : x = 0
  · rw [if_neg (by simpa using hx), show m = Mv.no from h.z hx]
  · rw [if_pos hx, valOf_of h.m]
theorem empty_size {b : ByteArray} (h : b = ⟨#[]⟩) : b.size = 0 := by subst h; rfl
theorem add_ok {v : Mv} {m : Ms} (h : v.Ok) : (v.add m).Ok := by
  unfold Mv.add
  split
  · exact h
  · intro h; cases h
theorem grow_ok {v : Mv} {m : Ms} (h : v.Ok) : (v.grow m).Ok := by
  unfold Mv.grow
  split
  · exact h
  · split
    · exact h
    · split
      · exact h
      · intro h; cases h
theorem chg_ok {v : Mv} {m : Ms} (h : v.Ok) : (chg v m).Ok := by
  unfold chg
  split
  · intro h; cases h
  · split
    · exact Mv.no_ok
    · split
      · exact add_ok h
      · exact grow_ok h
theorem view_ok {s : St} (h : s.Ok) (x : Int) : (s.view x).Ok := by
  unfold St.view
  split
  · exact h.m
  · exact h.c
theorem grow_no (m : Ms) : Mv.no.grow m = Mv.no := by unfold Mv.grow; rw [if_pos (by rfl)]
theorem changed_ok {s : St} {m : Ms} (h : s.Ok) : (s.changed m).Ok := by
  unfold St.changed
  split
  · exact ⟨chg_ok h.c, h.m, h.z⟩
  · rename_i h0
    split
    · exact ⟨h.c, chg_ok (view_ok h _), fun e => absurd e h0⟩
    · exact h
theorem ended_ok {s : St} {x : Int} {v : Mv} (h : s.Ok) (hv : v.Ok) : (s.ended x v).Ok := by
  unfold St.ended
  split
  · exact h
  · exact ⟨hv, Mv.no_ok, fun _ => rfl⟩
theorem grown_ok {s : St} {m : Ms} (h : s.Ok) (h4 : m.K = 4) : (s.grown m).Ok := by
  refine ⟨chg_ok h.c, chg_ok h.m, fun e => ?_⟩
  show chg s.m m = _
  rw [h.z e]
  unfold chg
  rw [if_neg (by omega), if_neg (by omega), if_neg (by omega), grow_no]
theorem after_ok {s : St} {m : Ms} (h : s.Ok) : (s.after m).Ok := by
  unfold St.after
  split
  · split
    · exact h
    · exact changed_ok h
  · split
    · exact changed_ok h
    · split
      · rename_i h4; exact grown_ok h h4
      · split
        · exact ended_ok h h.m
        · split
          · exact ended_ok h h.c
          · exact h
theorem apply_st (e : En) (m : Ms) : (applyE e m).st = e.st.after m := st_en (after_ok (st_ok e)) _
theorem apply_k (e : En) (m : Ms) : (applyE e m).k = e.k := rfl
/-- An entry in its plain form. -/
def En.Ok (e : En) : Prop := e = e.st.en e.k
theorem apply_ok (e : En) (m : Ms) : (applyE e m).Ok := by
  show applyE e m = (applyE e m).st.en (applyE e m).k
  rw [apply_st, apply_k]
  rfl
theorem en_eq {a b : En} (ha : a.Ok) (hb : b.Ok) (hk : a.k = b.k) (hs : a.st = b.st) : a = b := by
  rw [ha, hb, hk, hs]
theorem fold_k : ∀ (l : List Ms) (e : En), (foldE e l).k = e.k
  | [], e => rfl
  | m :: l, e => by
    rw [foldE, fold_k l]
    split <;> rfl
theorem fold_ok : ∀ (l : List Ms) (e : En), e.Ok → (foldE e l).Ok
  | [], e, h => h
  | m :: l, e, h => by
    rw [foldE]
    refine fold_ok l _ ?_
    split
    · exact apply_ok _ _
    · exact h
theorem fold_append : ∀ (a b : List Ms) (e : En), foldE e (a ++ b) = foldE (foldE e a) b
  | [], b, e => rfl
  | m :: a, b, e => by rw [List.cons_append, foldE, foldE, fold_append a b]
theorem fold_own : ∀ (l : List Ms) (e : En), foldE e (l.filter (isFor e.k)) = foldE e l
  | [], e => rfl
  | m :: l, e => by
    rw [List.filter_cons]
    by_cases h : isFor e.k m = true
    · rw [if_pos h, foldE, foldE, if_pos h]
      exact fold_own l (applyE e m)
    · rw [if_neg h, foldE, if_neg h]
      exact fold_own l e

/-! ### Bytes -/
theorem mk_toList (l : List UInt8) : (ByteArray.mk l.toArray).toList = l := ByteArray.toList_mk l
theorem ba_len (s : ByteArray) : s.toList.length = s.size := by rw [ByteArray.toList_eq]; rfl
theorem mk_size (l : List UInt8) : (ByteArray.mk l.toArray).size = l.length := by rw [← ba_len, mk_toList]
theorem ba_ext {a b : ByteArray} (h : a.toList = b.toList) : a = b := by
  rw [ByteArray.toList_eq, ByteArray.toList_eq] at h
  obtain ⟨⟨x⟩⟩ := a
  obtain ⟨⟨y⟩⟩ := b
  simp only at h
  rw [h]
theorem addL_length (l : List UInt8) (off num : Nat) (h : off + 8 ≤ l.length) : (addL l off num).length = l.length := by
  unfold addL
  simp only [List.length_append, List.length_take, List.length_drop, beB_length]
  omega
theorem addL_parts (l : List UInt8) (off num : Nat) (h : off + 8 ≤ l.length) : (addL l off num).take off = l.take off ∧ ((addL l off num).drop off).take 8 = beB 8 (numB ((l.drop off).take 8) + num) ∧ (addL l off num).drop (off + 8) = l.drop (off + 8) := by
  have h1 : (l.take off).length = off := by rw [List.length_take]; omega
  have h2 : (addL l off num).drop off = beB 8 (numB ((l.drop off).take 8) + num) ++ l.drop (off + 8) := List.drop_left' h1
  refine ⟨List.take_left' h1, ?_, ?_⟩
  · rw [h2]
    exact List.take_left' (beB_length _ _)
  · rw [← List.drop_drop, h2]
    exact List.drop_left' (beB_length _ _)
theorem addL_add (l : List UInt8) (off x y : Nat) (h : off + 8 ≤ l.length) : addL (addL l off x) off y = addL l off ((x + y) % 18446744073709551616) := by
  obtain ⟨h1, h2, h3⟩ := addL_parts l off x h
  rw [addL, h1, h2, h3]
  show _ = l.take off ++ (beB 8 (numB ((l.drop off).take 8) + (x + y) % 18446744073709551616) ++ l.drop (off + 8))
  congr 2
  refine beB_mod 8 _ _ ?_
  rw [numB_be]
  show ((numB ((l.drop off).take 8) + x) % 18446744073709551616 + y) % 18446744073709551616 = (numB ((l.drop off).take 8) + (x + y) % 18446744073709551616) % 18446744073709551616
  omega

/-! ### The laws -/
theorem mv_add_size {v : Mv} {m : Ms} (h0 : 0 ≤ m.off) : (v.add m).b.size = v.b.size := by
  unfold Mv.add
  split
  · rfl
  · rename_i h
    rw [mk_size, addL_length _ _ _ (by rw [ba_len]; omega), ba_len]
theorem mv_add_add {v : Mv} {m n b : Ms} (h0 : 0 ≤ m.off) (h1 : n.off = m.off) (h2 : b.off = m.off) (hx : 0 ≤ m.num) (hy : 0 ≤ n.num) (hb : b.num = (m.num + n.num) % 18446744073709551616) : (v.add m).add n = v.add b := by
  have hs := mv_add_size (v := v) h0
  by_cases h : (v.b.size : Int) - 8 < m.off
  · have e : v.add m = v := if_pos h
    rw [e]
    unfold Mv.add
    rw [if_pos (by omega), if_pos (by omega)]
  · have e : v.add m = ⟨true, ⟨(addL v.b.toList m.off.toNat m.num.toNat).toArray⟩⟩ := if_neg h
    have e2 : (v.add m).add n = ⟨true, ⟨(addL (v.add m).b.toList n.off.toNat n.num.toNat).toArray⟩⟩ := if_neg (by rw [hs]; omega)
    have e3 : v.add b = ⟨true, ⟨(addL v.b.toList b.off.toNat b.num.toNat).toArray⟩⟩ := if_neg (by omega)
    rw [e2, e3, e, mk_toList, h1, h2, addL_add _ _ _ _ (by rw [ba_len]; omega), hb]
    congr 4
    omega
theorem mv_grow_twice {v : Mv} {m : Ms} (h0 : 0 ≤ m.off) (h1 : m.off < 255) : (v.grow m).grow m = v.grow m := by
  by_cases a1 : v.b.size = 0
  · have e : v.grow m = v := if_pos a1
    rw [e, e]
  by_cases a2 : ((v.b.toList.getD 0 0).toNat : Int) ≠ m.off
  · have e : v.grow m = v := by unfold Mv.grow; rw [if_neg a1, if_pos a2]
    rw [e, e]
  by_cases a3 : 512 < v.b.size + m.v.size
  · have e : v.grow m = v := by unfold Mv.grow; rw [if_neg a1, if_neg a2, if_pos a3]
    rw [e, e]
  · have e : v.grow m = ⟨true, ⟨(growL v.b.toList m.v.toList).toArray⟩⟩ := by unfold Mv.grow; rw [if_neg a1, if_neg a2, if_neg a3]
    rw [e]
    unfold Mv.grow
    rw [if_neg (by rw [mk_size]; simp [growL]), if_pos]
    rw [mk_toList]
    show ((UInt8.ofNat ((v.b.toList.getD 0 0).toNat + 1)).toNat : Int) ≠ m.off
    have h3 : ((v.b.toList.getD 0 0).toNat : Int) = m.off := by simpa using a2
    have h4 : (UInt8.ofNat ((v.b.toList.getD 0 0).toNat + 1)).toNat = (v.b.toList.getD 0 0).toNat + 1 := by
      rw [UInt8.toNat_ofNat']
      exact Nat.mod_eq_of_lt (by omega)
    omega
theorem chg4 {v : Mv} {m : Ms} (h : m.K = 4) : chg v m = v.grow m := by unfold chg; rw [if_neg (by omega), if_neg (by omega), if_neg (by omega)]
theorem chg3 {v : Mv} {m : Ms} (h : m.K = 3) : chg v m = v.add m := by unfold chg; rw [if_neg (by omega), if_neg (by omega), if_pos h]
theorem after4 {s : St} {m : Ms} (h : m.K = 4) : s.after m = ⟨s.c.grow m, s.x, s.m.grow m⟩ := by
  unfold St.after St.grown; rw [if_neg (by omega), if_neg (by omega), if_pos h, chg4 h, chg4 h]
theorem after5 {s : St} {m : Ms} (h : m.K = 5) : s.after m = s.ended m.x s.m := by
  unfold St.after; rw [if_neg (by omega), if_neg (by omega), if_neg (by omega), if_pos h]
theorem after6 {s : St} {m : Ms} (h : m.K = 6) : s.after m = s.ended m.x s.c := by
  unfold St.after; rw [if_neg (by omega), if_neg (by omega), if_neg (by omega), if_neg (by omega), if_pos h]
theorem after0 {s : St} {m : Ms} (h : m.K < 1 ∨ 6 < m.K) : s.after m = s := by
  unfold St.after; rw [if_neg (by omega), if_neg (by omega), if_neg (by omega), if_neg (by omega), if_neg (by omega)]
theorem after123 {s : St} {m : Ms} (h1 : 1 ≤ m.K) (h3 : m.K ≤ 3) (h0 : 0 ≤ m.off) : s.after m = s.changed m := by
  unfold St.after
  by_cases h : m.K = 3
  · rw [if_pos h, if_neg (by omega)]
  · rw [if_neg h, if_pos (by omega)]
theorem after3 {s : St} {m : Ms} (h : m.K = 3) (hx : m.x = 0) : s.after m = if m.off < 0 then s else ⟨s.c.add m, s.x, s.m⟩ := by
  unfold St.after St.changed; rw [if_pos h, if_pos hx, chg3 h]
/-- A Grow ahead of a Commit of the one who has touched the entry, or behind it. -/
theorem grow_commit {s : St} {g c : Ms} (hs : s.Ok) (hg : g.K = 4) (hc : c.K = 5) (hx : c.x = s.x) : (s.after g).after c = (s.after c).after g := by
  rw [after4 hg, after5 hc, after5 hc, after4 hg]
  unfold St.ended
  by_cases h0 : c.x = 0
  · rw [if_pos (.inl h0), if_pos (.inl h0)]
  · rw [if_neg (fun e => e.elim h0 (fun e => e hx.symm)), if_neg (fun e => e.elim h0 (fun e => e hx.symm))]
    simp only [grow_no]
theorem grow_twice {s : St} {g : Ms} (hg : g.K = 4) (h0 : 0 ≤ g.off) (h1 : g.off < 255) : (s.after g).after g = s.after g := by
  rw [after4 hg, after4 hg, mv_grow_twice h0 h1, mv_grow_twice h0 h1]
theorem add_add {s : St} {m n b : Ms} (hm : m.K = 3) (hn : n.K = 3) (hb : b.K = 3) (m0 : m.x = 0) (n0 : n.x = 0) (b0 : b.x = 0) (h1 : n.off = m.off) (h2 : b.off = m.off) (hx : 0 ≤ m.num) (hy : 0 ≤ n.num) (hbn : b.num = (m.num + n.num) % 18446744073709551616) :
    (s.after m).after n = s.after b := by
  rw [after3 hm m0, after3 hn n0, after3 hb b0]
  by_cases h : m.off < 0
  · rw [if_pos h, if_pos (by omega), if_pos (by omega)]
  · rw [if_neg h, if_neg (by omega), if_neg (by omega), mv_add_add (by omega) h1 h2 hx hy hbn]

end Go.Proofs.YtookbmpaoljelaaGreat

namespace Go.Proofs.YtookbmpaoljelaaGreat
open Go Go.RowKit
set_option linter.unusedVariables false
set_option linter.unusedSimpArgs false
set_option maxRecDepth 100000
set_option linter.unusedSimpArgs false
set_option maxRecDepth 100000

/-- A node. -/
structure Nd where
  leaf : Bool
  es : List En
  ps : List ByteArray
  ks : List Int
  bs : List (List Ms)
instance : Inhabited En := ⟨⟨⟨#[]⟩, false, ⟨#[]⟩, 0, false, ⟨#[]⟩⟩⟩
instance : Inhabited ByteArray := ⟨⟨#[]⟩⟩

/-! ### Which are right -/
def blt (a b : ByteArray) : Bool := Op.bytesLess a.toList b.toList
def ble (a b : ByteArray) : Bool := Op.bytesLess a.toList b.toList || (a.toList == b.toList)
/-- The kid of a key. -/
def routeN (ps : List ByteArray) (k : ByteArray) : Nat := (ps.filter fun p => ble p k).length
/-- How many messages wait. -/
def waitN (bs : List (List Ms)) : Nat := (bs.map List.length).sum
/-- Of each two neighbours the first comes ahead of the second. -/
def riseB {α : Type} (lt : α → α → Bool) : List α → Bool
  | a :: b :: r => lt a b && riseB lt (b :: r)
  | _ => true
def entryB (e : En) : Bool := decide (e.k.size ≤ 256) && decide (e.v.size ≤ 512) && decide (e.nv.size ≤ 512) && (e.h || decide (e.v.size = 0)) && (!decide (e.x = 0) || !e.n) && (e.n || decide (e.nv.size = 0)) && !goneE e
def entryLt (a b : En) : Bool := blt a.k b.k
def leafB (n : Nd) : Bool := decide (n.ps.length = 0) && decide (n.ks.length = 0) && decide (n.bs.length = 0) && decide (n.es.length ≤ 255) && riseB entryLt n.es && n.es.all entryB
def msgLt (a b : Ms) : Bool := decide (a.sq < b.sq)
/-- May this message wait for the kid i? -/
def waitB (ps : List ByteArray) (i : Nat) (m : Ms) : Bool := decide (checkE m = 0) && (decide (m.K = 4) || decide (routeN ps m.k = i))
def bufB (ps : List ByteArray) (i : Nat) (l : List Ms) : Bool := riseB msgLt l && l.all (waitB ps i)
def bufsB (ps : List ByteArray) : Nat → List (List Ms) → Bool
  | _, [] => true
  | i, l :: r => bufB ps i l && bufsB ps (i + 1) r
def shapeB (n : Nd) : Bool := decide (1 ≤ n.ks.length) && decide (n.ks.length ≤ 64) && decide (n.ps.length + 1 = n.ks.length) && decide (n.bs.length = n.ks.length) && decide (n.es.length = 0)
def innerB (n : Nd) : Bool := shapeB n && !n.ks.contains 0 && riseB blt n.ps && n.ps.all (fun p => decide (p.size ≤ 256)) && decide (waitN n.bs ≤ 1024) && bufsB n.ps 0 n.bs
def rightB (n : Nd) : Bool := if n.leaf then leafB n else innerB n

theorem rise_iff {α : Type} [Inhabited α] (lt : α → α → Bool) : ∀ l : List α, riseB lt l = true ↔ ∀ i, i + 1 < l.length → lt (l.getD i default) (l.getD (i + 1) default) = true
  | [] => by simp [riseB]
  | [a] => by simp [riseB]
  | a :: b :: r => by
    rw [riseB, Bool.and_eq_true, rise_iff lt (b :: r)]
    constructor
    · rintro ⟨h1, h2⟩ i hi
      cases i with
      | zero => exact h1
      | succ i => exact h2 i (by simpa using hi)
    · intro h
      exact ⟨h 0 (by simp), fun i hi => h (i + 1) (by simpa using hi)⟩
theorem rise_no {α : Type} [Inhabited α] {lt : α → α → Bool} {l : List α} {i : Nat} (hi : i + 1 < l.length) (h : lt (l.getD i default) (l.getD (i + 1) default) = false) : riseB lt l = false := by
  rw [← Bool.not_eq_true, rise_iff]
  intro k
  rw [k i hi] at h
  cases h
theorem all_iff {α : Type} [Inhabited α] {f : α → Bool} {l : List α} : l.all f = true ↔ ∀ i, i < l.length → f (l.getD i default) = true := by
  rw [List.all_eq_true]
  constructor
  · intro h i hi
    exact h _ (by simp [hi])
  · intro h x hx
    obtain ⟨i, hi, rfl⟩ := List.mem_iff_getElem.1 hx
    have := h i hi
    rwa [show l.getD i default = l[i] by simp [hi]] at this
theorem all_no {α : Type} [Inhabited α] {f : α → Bool} {l : List α} {i : Nat} (hi : i < l.length) (h : f (l.getD i default) = false) : l.all f = false := by
  rw [← Bool.not_eq_true, all_iff]
  intro k
  rw [k i hi] at h
  cases h
theorem bufs_iff (ps : List ByteArray) : ∀ (l : List (List Ms)) (q : Nat), bufsB ps q l = true ↔ ∀ i, i < l.length → bufB ps (q + i) (l.getD i default) = true
  | [], q => by simp [bufsB]
  | x :: r, q => by
    rw [bufsB, Bool.and_eq_true, bufs_iff ps r (q + 1)]
    constructor
    · rintro ⟨h1, h2⟩ i hi
      cases i with
      | zero => exact h1
      | succ i =>
        have := h2 i (by simpa using hi)
        rwa [Nat.add_assoc, Nat.add_comm 1 i] at this
    · intro h
      refine ⟨h 0 (by simp), fun i hi => ?_⟩
      have := h (i + 1) (by simpa using hi)
      rwa [← Nat.add_assoc, Nat.add_right_comm] at this
theorem bufs_no {ps : List ByteArray} {l : List (List Ms)} {i : Nat} (hi : i < l.length) (h : bufB ps i (l.getD i default) = false) : bufsB ps 0 l = false := by
  rw [← Bool.not_eq_true, bufs_iff]
  intro k
  have := k i hi
  rw [Nat.zero_add] at this
  rw [this] at h
  cases h
theorem route_le (ps : List ByteArray) (k : ByteArray) : routeN ps k ≤ ps.length := List.length_filter_le _ _

/-! ### Numbers and sizes -/
structure MsW (m : Ms) : Prop where
  s0 : 0 ≤ m.sq
  s1 : m.sq < 18446744073709551616
  x0 : 0 ≤ m.x
  x1 : m.x < 18446744073709551616
  n0 : 0 ≤ m.num
  n1 : m.num < 18446744073709551616
def NumW (x : Int) : Prop := 0 ≤ x ∧ x < 18446744073709551616
structure NdW (n : Nd) : Prop where
  e : ∀ e ∈ n.es, NumW e.x
  k : ∀ k ∈ n.ks, NumW k
  m : ∀ l ∈ n.bs, ∀ m ∈ l, MsW m

/-! ### The bytes -/
def encE (e : En) : List UInt8 := txtB e.k.toList ++ (flagB e.h ++ (txtB e.v.toList ++ (beB 8 e.x.toNat ++ (flagB e.n ++ txtB e.nv.toList))))
def encM (m : Ms) : List UInt8 := beB 8 m.sq.toNat ++ (beB 1 m.K.toNat ++ (txtB m.k.toList ++ (beB 8 m.x.toNat ++ (txtB m.v.toList ++ (beB 2 m.off.toNat ++ beB 8 m.num.toNat)))))
def encL (l : List Ms) : List UInt8 := beB 2 l.length ++ l.flatMap encM
def encK (k : Int) : List UInt8 := beB 8 k.toNat
def encP (p : ByteArray) : List UInt8 := txtB p.toList
def encN (n : Nd) : List UInt8 :=
  flagB n.leaf ++ (if n.leaf then beB 2 n.es.length ++ n.es.flatMap encE else beB 2 n.ks.length ++ (n.ks.flatMap encK ++ (n.ps.flatMap encP ++ n.bs.flatMap encL)))

/-! ### Reading -/
abbrev Prs (α : Type) := List UInt8 → Option (α × List UInt8)
def pBind {α β : Type} (p : Prs α) (q : α → Prs β) : Prs β := fun xs => match p xs with
  | none => none
  | some (a, ys) => q a ys
def pRet {α : Type} (a : α) : Prs α := fun xs => some (a, xs)
def pNum (n : Nat) : Prs Nat := fun xs => if can n xs false = true then some (numB (nextR n xs false), nextL n xs false) else none
def pFlag : Prs Bool := fun xs => if flagOk xs false = true then some (flagR xs false, flagL xs false) else none
def pText : Prs ByteArray := fun xs => if txtOk xs false = true then some (⟨(txtR xs false).toArray⟩, txtL xs false) else none
def pMany {α : Type} (p : Prs α) : Nat → Prs (List α)
  | 0 => pRet []
  | n + 1 => pBind p fun a => pBind (pMany p n) fun l => pRet (a :: l)
def pKid : Prs Int := pBind (pNum 8) fun x => pRet (x : Int)
def pEntry : Prs En := pBind pText fun k => pBind pFlag fun h => pBind pText fun v => pBind (pNum 8) fun x => pBind pFlag fun n => pBind pText fun nv => pRet ⟨k, h, v, (x : Int), n, nv⟩
def pMsg : Prs Ms := pBind (pNum 8) fun sq => pBind (pNum 1) fun K => pBind pText fun k => pBind (pNum 8) fun x => pBind pText fun v => pBind (pNum 2) fun off => pBind (pNum 8) fun num => pRet ⟨(sq : Int), (K : Int), k, (x : Int), v, (off : Int), (num : Int)⟩
def pBuf : Prs (List Ms) := pBind (pNum 2) fun c => pMany pMsg c
def pLeaf : Prs Nd := pBind (pNum 2) fun c => pBind (pMany pEntry c) fun es => pRet ⟨true, es, [], [], []⟩
def pInner : Prs Nd := pBind (pNum 2) fun c => pBind (pMany pKid c) fun ks => pBind (pMany pText (c - 1)) fun ps => pBind (pMany pBuf c) fun bs => pRet ⟨false, [], ps, ks, bs⟩
def pNode : Prs Nd := pBind pFlag fun leaf => if leaf = true then pLeaf else pInner
/-- The node of these bytes. -/
def decN (xs : List UInt8) : Option Nd := if 32768 < xs.length then none else match pNode xs with
  | some (n, []) => if rightB n = true then some n else none
  | _ => none

theorem pBind_some {α β : Type} {p : Prs α} {q : α → Prs β} {xs ys : List UInt8} {a : α} (h : p xs = some (a, ys)) : pBind p q xs = q a ys := by unfold pBind; rw [h]
theorem pBind_inv {α β : Type} {p : Prs α} {q : α → Prs β} {xs zs : List UInt8} {c : β} (h : pBind p q xs = some (c, zs)) : ∃ a ys, p xs = some (a, ys) ∧ q a ys = some (c, zs) := by
  unfold pBind at h
  match hp : p xs with
  | none => rw [hp] at h; cases h
  | some (a, ys) => rw [hp] at h; exact ⟨a, ys, rfl, h⟩
theorem pRet_inv {α : Type} {a b : α} {xs ys : List UInt8} (h : pRet a xs = some (b, ys)) : b = a ∧ ys = xs := by
  unfold pRet at h
  simp at h
  exact ⟨h.1.symm, h.2.symm⟩

/-- What a reader that may be bad leaves: bad stays bad; else what the bytes say, or bad. -/
structure Rd {α : Type} (p : Prs α) (xs : List UInt8) (bad : Bool) (a : α) (ys : List UInt8) (bad' : Bool) : Prop where
  b : bad = true → bad' = true
  g : bad = false → p xs = if bad' = true then none else some (a, ys)
theorem Rd.ret {α : Type} (a : α) (xs : List UInt8) (bad : Bool) : Rd (pRet a) xs bad a xs bad := ⟨id, fun h => by subst h; rfl⟩
theorem Rd.bind {α β : Type} {p : Prs α} {q : α → Prs β} {xs ys zs : List UInt8} {b b1 b2 : Bool} {a : α} {c : β} (h : Rd p xs b a ys b1) (k : Rd (q a) ys b1 c zs b2) : Rd (pBind p q) xs b c zs b2 := by
  refine ⟨fun e => k.b (h.b e), fun e => ?_⟩
  have h1 := h.g e
  unfold pBind
  cases b1 with
  | true =>
    rw [h1, k.b rfl]
    rfl
  | false =>
    rw [h1]
    exact k.g rfl
theorem Rd.num (n : Nat) (xs : List UInt8) (bad : Bool) : Rd (pNum n) xs bad (numB (nextR n xs bad)) (nextL n xs bad) (!can n xs bad) := by
  refine ⟨fun e => by subst e; simp [can], fun e => ?_⟩
  subst e
  unfold pNum
  cases can n xs false <;> rfl
theorem Rd.flag (xs : List UInt8) (bad : Bool) : Rd pFlag xs bad (flagR xs bad) (flagL xs bad) (!flagOk xs bad) := by
  refine ⟨fun e => by subst e; simp [flagOk, can], fun e => ?_⟩
  subst e
  unfold pFlag
  cases flagOk xs false <;> rfl
theorem Rd.text (xs : List UInt8) (bad : Bool) : Rd pText xs bad ⟨(txtR xs bad).toArray⟩ (txtL xs bad) (!txtOk xs bad) := by
  refine ⟨fun e => by subst e; simp [txtOk, can], fun e => ?_⟩
  subst e
  unfold pText
  cases txtOk xs false <;> rfl

/-- Where a loop stands that takes n parts: it has l, what is left is ys. -/
structure Many {α : Type} (p : Prs α) (n : Nat) (xs : List UInt8) (bad : Bool) (l : List α) (ys : List UInt8) (b : Bool) : Prop where
  b0 : bad = true → b = true
  g : bad = false → b = false → pMany p n xs = ((pMany p (n - l.length)) ys).map fun r => (l ++ r.1, r.2)
  e : bad = false → b = true → pMany p n xs = none
theorem Many.start {α : Type} (p : Prs α) (n : Nat) (xs : List UInt8) (bad : Bool) : Many p n xs bad [] xs bad :=
  ⟨id, fun _ _ => by simp, fun h k => by rw [h] at k; cases k⟩
theorem Many.step {α : Type} {p : Prs α} {n : Nat} {xs ys zs : List UInt8} {bad b' : Bool} {l : List α} {a : α} (h : Many p n xs bad l ys false) (hl : l.length < n) (k : Rd p ys false a zs b') : Many p n xs bad (l ++ [a]) zs b' := by
  have hk := k.g rfl
  have hs : n - l.length = (n - (l ++ [a]).length) + 1 := by simp; omega
  have hb : bad = false := by
    cases bad with
    | false => rfl
    | true => exact absurd (h.b0 rfl) (by simp)
  have hg := h.g hb rfl
  rw [hs, pMany] at hg
  refine ⟨fun e => (by rw [hb] at e; cases e), fun _ e => ?_, fun _ e => ?_⟩
  · subst e
    rw [hg, pBind_some (by rw [hk]; rfl)]
    unfold pBind
    match pMany p (n - (l ++ [a]).length) zs with
    | none => rfl
    | some (r, qs) => simp [pRet]
  · subst e
    rw [hg]
    unfold pBind
    rw [hk]
    rfl
theorem Many.done {α : Type} {p : Prs α} {n : Nat} {xs ys : List UInt8} {bad b : Bool} {l : List α} (h : Many p n xs bad l ys b) (hd : b = true ∨ n ≤ l.length) : Rd (pMany p n) xs bad l ys b := by
  refine ⟨h.b0, fun e => ?_⟩
  cases b with
  | true => rw [h.e e rfl]; rfl
  | false =>
    have hl : n ≤ l.length := hd.resolve_left (by simp)
    rw [h.g e rfl, show n - l.length = 0 by omega, pMany]
    simp [pRet]

end Go.Proofs.YtookbmpaoljelaaGreat

namespace Go.Proofs.YtookbmpaoljelaaGreat
open Go Go.RowKit
set_option linter.unusedVariables false
set_option linter.unusedSimpArgs false
set_option maxRecDepth 100000

theorem Sep.comm_eq (I J : Res) : Sep I J = Sep J I := funext fun w => funext fun F => propext ⟨Sep.comm, Sep.comm⟩
theorem Sep.assoc_eq (I J K : Res) : Sep (Sep I J) K = Sep I (Sep J K) :=
  funext fun w => funext fun F => propext ⟨Sep.assoc, fun h => Sep.comm (Sep.assoc (Sep.comm (Sep.assoc (Sep.comm h))))⟩
instance : Std.Associative Sep := ⟨Sep.assoc_eq⟩
instance : Std.Commutative Sep := ⟨Sep.comm_eq⟩
theorem Own.ac {w0 w : World} {I J : Res} (h : Own w0 w I) (e : I = J) : Own w0 w J := e ▸ h

end Go.Proofs.YtookbmpaoljelaaGreat

namespace Go.Proofs.YtookbmpaoljelaaGreat
open Go Go.RowKit
set_option linter.unusedVariables false
set_option linter.unusedSimpArgs false
set_option maxRecDepth 100000

def RowV (e : TypeId) (size : Nat) (v : Value) (n : Nat) (xs : List Value) : Res := fun w F => w.ownsRow 0 e size v n xs ∧ ∀ k, F k ↔ v.ownBlock = some k
instance {e : TypeId} {size : Nat} {v : Value} {n : Nat} {xs : List Value} : Stab (RowV e size v n xs) where
  lt := fun h k hk => own_lt h.1 ((h.2 k).1 hk)
  keep := fun h hk => ⟨own_keepAt h.1 (fun k e => hk k ((h.2 k).2 e)), h.2⟩
theorem RowV.nil (e : TypeId) (size : Nat) (w : World) : RowV e size (.slice none 0 0) 0 [] w (fun _ => False) :=
  ⟨World.ownsRow_nil _ _ _ _, fun k => by simp [Value.ownBlock]⟩
theorem Own.row_nil {w0 w : World} {I : Res} (h : Own w0 w I) (e : TypeId) (size : Nat) : Own w0 w (Sep (RowV e size (.slice none 0 0) 0 []) I) := by
  obtain ⟨F, h1, h2, h3⟩ := h
  exact ⟨F, ⟨fun _ => False, F, RowV.nil e size w, h1, fun _ h => h.elim, fun k => by simp⟩, h2, h3⟩
theorem Own.owns {w0 w : World} {e : TypeId} {size : Nat} {v : Value} {n : Nat} {xs : List Value} {J : Res} (h : Own w0 w (Sep (RowV e size v n xs) J)) : w.ownsRow 0 e size v n xs := by
  obtain ⟨F, ⟨A, B, hA, _⟩, _⟩ := h
  exact hA.1
/-- What append leaves. -/
theorem Own.appended {w0 w w' : World} {e : TypeId} {size : Nat} {v : Value} {n n' g cap : Nat} {xs xs' : List Value} {J : Res} [Stab J] (h : Own w0 w (Sep (RowV e size v n xs) J))
    (hown : w'.ownsRow 0 e size (.slice (some ⟨g, 0, none⟩) n' cap) n' xs') (hg : w.grownBy w' v.ownBlock) (hor : v.ownBlock = some g ∨ w.heap.size ≤ g) : Own w0 w' (Sep (RowV e size (.slice (some ⟨g, 0, none⟩) n' cap) n' xs') J) := by
  obtain ⟨F, ⟨A, B, hA, hB, hd, hF⟩, h2, h3⟩ := h
  have hv : ∀ k, v.ownBlock = some k → A k := fun k hk => (hA.2 k).2 hk
  refine ⟨fun k => k = g ∨ B k, ⟨fun k => k = g, B, ⟨hown, fun k => by simp [Value.ownBlock, eq_comm]⟩, Stab.keep hB (fun k hk => hg.block k (Stab.lt hB k hk) (fun e => hd k (hv k e.symm) hk)), ?_, fun k => Iff.rfl⟩, ?_, ?_⟩
  · rintro k rfl hk
    rcases hor with e | e
    · exact hd _ (hv _ e) hk
    · have := Stab.lt hB _ hk; omega
  · rintro k (rfl | hk)
    · rcases hor with e | e
      · exact h2 _ ((hF _).2 (.inl (hv _ e)))
      · have := h3.size; omega
    · exact h2 _ ((hF _).2 (.inr hk))
  · exact h3.grown hg (fun k hk e => by have := h2 k ((hF k).2 (.inl (hv k e))); omega)

end Go.Proofs.YtookbmpaoljelaaGreat

namespace Go.Proofs.YtookbmpaoljelaaGreat
open Go Go.RowKit
set_option linter.unusedVariables false
set_option linter.unusedSimpArgs false
set_option maxRecDepth 100000

/-- One block of a part is turned. -/
theorem Own.put {w0 w : World} {k : Nat} {o : Obj} {J : Res} [Stab J] (h : Own w0 w (Sep (Blk k o) J)) (o' : Obj) : Own w0 (w.putObj k o') (Sep (Blk k o') J) := by
  obtain ⟨F, ⟨A, B, hA, hB, hd, hF⟩, h2, h3⟩ := h
  have hk : A k := (hA.2 k).2 rfl
  have hlt := lt_of_some hA.1
  refine ⟨F, ⟨A, B, ⟨World.putObj_heap_same hlt, hA.2⟩, Stab.keep hB (fun i hi => World.putObj_heap_other (fun e => hd k hk (e ▸ hi))), hd, hF⟩, h2, ?_⟩
  refine h3.trans (T := fun i => i = k) ⟨rfl, rfl, rfl, by simp, fun i _ hi => World.putObj_heap_other hi⟩ (fun i hi e => ?_)
  have := h2 k ((hF k).2 (.inl hk))
  omega
theorem Own.held {w0 w : World} {k : Nat} {o : Obj} {J : Res} (h : Own w0 w (Sep (Blk k o) J)) : w.heap[k]? = some o := by
  obtain ⟨F, ⟨A, B, hA, _⟩, _⟩ := h
  exact hA.1

/-- The loop's record and its block for deferred calls, behind a part. -/
abbrev Held (R : Res) (l D : Nat) (r : Loop) : Res := Sep R (Sep (Blk l (.loop r)) (Blk D (.deferred (some []))))
theorem Held.turn {w0 w : World} {R : Res} [Stab R] {l D : Nat} {r : Loop} (h : Own w0 w (Held R l D r)) (r' : Loop) : Own w0 (w.putObj l (.loop r')) (Held R l D r') :=
  (h.swap.put (.loop r')).swap
theorem Held.rec {w0 w : World} {R : Res} {l D : Nat} {r : Loop} (h : Own w0 w (Held R l D r)) : w.heap[l]? = some (.loop r) := h.swap.held

def YR {α : Type} (J Jx : List α → World → Prop) (xs : List α) (e : Ending) (W' : World) : Prop := (e = .returned (.bool true) ∧ J xs W') ∨ (e = .returned (.bool false) ∧ Jx xs W')
/-- What an iterator gives: all of 'all', one by one, as long as the rounds go on; between two rounds it finds what Rd says. -/
def Gives {α : Type} (P : Program) (n : Nat) (gf : Nat) (fst : Array Value) (enc : α → Value) (Rd : World → Prop) (all : List α) : Prop :=
  ∀ (l : Nat) (J Jx : List α → World → Prop) (W : World), (∀ pre W, J pre W → Rd W) →
    (∀ pre x W1, J pre W1 → pre ++ [x] <+: all → YieldAt Fence.wide n P l #[enc x] W1 (YR J Jx (pre ++ [x]))) →
    J [] W → Calls P gf (fst ++ #[.func (.yield l) #[] #[]]) W fun e W' => (∃ v, e = .returned v) ∧ (J all W' ∨ ∃ pre, pre <+: all ∧ Jx pre W')

/-- How a round may be left: at its end, or by a return. -/
def RoundPost {α : Type} (w0 : World) (R X : List α → Res) (xs : List α) (I : Res) : Exit → Act → World → Prop
  | .normal, _, W => Own w0 W (Sep (R xs) I)
  | .ret, _, W => Own w0 W (Sep (X xs) I)
  | _, _, _ => False

def Marked (a : Act) (D : Nat) : Act := { a with defers := { target := .collected D, args := #[] } :: a.defers }

theorem wp_range {α : Type} {P : Program} {n m : Nat} {Q : Exit → Act → World → Prop} {a : Act} {w0 w : World} {g : Operand} {ps : Array Tmp} {assign body : Code} {gf : Nat} {fst : Array Value} {enc : α → Value} {Rd : World → Prop} {all : List α}
    (hg : a.eval g = .func (.func gf) fst #[]) (eg : ∀ args w, (callFunc gf args).run P w = .ok (.enter gf args) w) (hps : ps.size = 1) (hit : Gives P m gf fst enc Rd all)
    (R X : List α → Res) (A : α → Act → List α → Res) [∀ l, Stab (R l)] [∀ l, Stab (X l)] [∀ x a' l, Stab (A x a' l)]
    (hRd : ∀ pre W I, Own w0 W (Sep (R pre) I) → Rd W) (h0 : Own w0 w (R []))
    (hassign : ∀ (l : Nat) (pre : List α) (x : α) (W : World) (I : Res) [Stab I], pre ++ [x] <+: all → Own w0 W (Sep (R pre) I) →
      assign.wpIn (Fence.wide.inRound l) m P (Exit.then (fun a' W' => Own w0 W' (Sep (A x a' pre) I)) (fun _ _ _ => False)) { tmps := (ps.zip #[enc x]).foldl (fun t (p, v) => t.setIfInBounds p v) a.tmps, defers := [] } W)
    (hbody : ∀ (l : Nat) (pre : List α) (x : α) (a' : Act) (W : World) (I : Res) [Stab I], pre ++ [x] <+: all → Own w0 W (Sep (A x a' pre) I) →
      body.wpIn (Fence.wide.inRound l) m P (RoundPost w0 R X (pre ++ [x]) I) a' W)
    (hdone : ∀ (D : Nat) (W : World), Own w0 W (Sep (R all) (Blk D (.deferred (some [])))) → Q .normal (Marked a D) W)
    (hstop : ∀ (D : Nat) (pre : List α) (W : World), pre <+: all → Own w0 W (Sep (X pre) (Blk D (.deferred (some [])))) → Q .ret (Marked a D) W) :
    (Code.rangeFunc g ps assign body).wpIn Fence.wide n P Q a w := by
  refine wpIn_rangeFunc fun fn _ => ?_
  obtain ⟨rc, hrc⟩ : ∃ rc : LoopState → Option Code → Loop, rc = fun st pe => { state := st, pending := pe, fn, tmps := a.tmps, params := ps, assign, body, defers := w.heap.size } := ⟨_, rfl⟩
  have hown : Own w0 ((w.alloc (.deferred (some []))).alloc (.loop (rc .ready none))) (Held (R []) (w.heap.size + 1) w.heap.size (rc .ready none)) := by
    have h1 := (h0.alloc (.deferred (some []))).alloc (.loop (rc .ready none))
    rw [World.size_alloc] at h1
    exact h1.assoc'.comm
  refine ⟨w.heap.size + 1, [{ target := .collected w.heap.size, args := #[] }], (w.alloc (.deferred (some []))).alloc (.loop (rc .ready none)), { target := .fn (.func gf) #[], args := fst ++ #[.func (.yield (w.heap.size + 1)) #[] #[]] }, (w.alloc (.deferred (some []))).alloc (.loop (rc .ready none)), gf,
    fst ++ #[.func (.yield (w.heap.size + 1)) #[] #[]], (w.alloc (.deferred (some []))).alloc (.loop (rc .ready none)), ?_, ?_, fun _ _ => trivial, ?_, (fun h => by cases h), ?_⟩
  · rw [hrc]; exact run_enterLoop_outer _ _ _ _ _
  · simp only [resolve, hg]
    simp [go_sem]
  · simp [invoke, go_sem, eg]
  refine (callsIn_wide (n := n - 1)).2 ((hit (w.heap.size + 1)
    (fun pre W => Own w0 W (Held (R pre) (w.heap.size + 1) w.heap.size (rc .ready none)))
    (fun pre W => Own w0 W (Held (X pre) (w.heap.size + 1) w.heap.size (rc .done (some .ret)))) _
    (fun pre W h => hRd pre W _ h) ?_ hown).mono ?_)
  · intro pre x W hJ hpre
    have hl := Held.rec hJ
    have hy := run_yield (P := P) (args := #[enc x]) hl (by rw [hrc]; simp [hps])
    rw [hrc] at hy
    refine ⟨fn, _, assign, body, hy, roundIn_of_wpIn trivial ?_⟩
    refine Code.wpIn_mono ?_ (hassign (w.heap.size + 1) pre x W _ hpre hJ)
    intro e a1 W1 h1
    cases e <;> try exact h1.elim
    have h1 : Own w0 W1 (Held (A x a1 pre) (w.heap.size + 1) w.heap.size (rc .ready none)) := h1
    refine ⟨_, run_beginRound (Held.rec h1) (by rw [hrc]), ?_⟩
    refine Code.wpIn_mono ?_ (hbody (w.heap.size + 1) pre x a1 _ _ hpre (Held.turn h1 { rc .ready none with state := .busy }))
    intro e a2 W2 h2
    cases e <;> try exact h2.elim
    · have h2 : Own w0 W2 (Held (R (pre ++ [x])) (w.heap.size + 1) w.heap.size { rc .ready none with state := .busy }) := h2
      refine ⟨_, _, run_endRound none (Held.rec h2), .inl ⟨rfl, ?_⟩⟩
      have h3 := Held.turn h2 (rc .ready none)
      rw [hrc] at h3 ⊢
      exact h3
    · have h2 : Own w0 W2 (Held (X (pre ++ [x])) (w.heap.size + 1) w.heap.size { rc .ready none with state := .busy }) := h2
      refine ⟨_, _, run_endRound (some .ret) (Held.rec h2), .inr ⟨rfl, ?_⟩⟩
      have h3 := Held.turn h2 (rc .done (some .ret))
      rw [hrc] at h3 ⊢
      exact h3
  · rintro e W ⟨⟨v, rfl⟩, hJ | ⟨pre, hpre, hJ⟩⟩
    · have he := run_endLoop (P := P) (Held.rec hJ) (by rw [hrc]; simp)
      have h3 := Held.turn hJ { rc .ready none with state := .exhausted }
      rw [hrc] at he h3
      exact ⟨none, _, he, hdone _ _ h3.drop2⟩
    · have he := run_endLoop (P := P) (Held.rec hJ) (by rw [hrc]; simp)
      have h3 := Held.turn hJ { rc .done (some .ret) with state := .exhausted }
      rw [hrc] at he h3
      exact ⟨some .ret, _, he, wpIn_ret (hstop _ pre _ hpre h3.drop2)⟩

end Go.Proofs.YtookbmpaoljelaaGreat

namespace Go.Proofs.YtookbmpaoljelaaGreat
open Go Go.RowKit
set_option linter.unusedVariables false
set_option linter.unusedSimpArgs false
set_option maxRecDepth 100000
theorem Own.exR {α : Type} {w0 w : World} {I : α → Res} {J : Res} (h : Own w0 w (Sep (ExR I) J)) : ∃ x, Own w0 w (Sep (I x) J) := by
  obtain ⟨F, ⟨A, B, ⟨x, hA⟩, hB, hd, hF⟩, h2, h3⟩ := h
  exact ⟨x, F, ⟨A, B, hA, hB, hd, hF⟩, h2, h3⟩
theorem Own.andR {p : Prop} {w0 w : World} {I J : Res} (h : Own w0 w (Sep (AndR p I) J)) : p ∧ Own w0 w (Sep I J) := by
  obtain ⟨F, ⟨A, B, ⟨hp, hA⟩, hB, hd, hF⟩, h2, h3⟩ := h
  exact ⟨hp, F, ⟨A, B, hA, hB, hd, hF⟩, h2, h3⟩
theorem blk_cell {w : World} {b : Nat} {cs : Array Value} {t : TypeId} {v : Value} (h : w.heap[b]? = some (.cells cs t (0, 0))) (j : Nat) (hv : cs[j]? = some v) : w.cell? ⟨b, j, none⟩ = some v := by simp [World.cell?, h, hv]
theorem blk_free {w : World} {b : Nat} {cs : Array Value} {t : TypeId} (h : w.heap[b]? = some (.cells cs t (0, 0))) (j : Nat) : w.frozen? ⟨b, j, none⟩ = false := by simp [World.frozen?, h]
/-- A store into a block of one's own. -/
theorem Own.store {w0 w : World} {k : Nat} {cs : Array Value} {t : TypeId} {J : Res} [Stab J] (h : Own w0 w (Sep (Blk k (.cells cs t (0, 0))) J)) (j : Nat) (u : Value) : Own w0 (w.setCell ⟨k, j, none⟩ u) (Sep (Blk k (.cells (cs.setIfInBounds j u) t (0, 0))) J) := by
  obtain ⟨F, ⟨A, B, hA, hB, hd, hF⟩, h2, h3⟩ := h
  have hk : A k := (hA.2 k).2 rfl
  refine ⟨F, ⟨A, B, ⟨heap_set hA.1 j u, hA.2⟩, Stab.keep hB (fun i hi => Below.heap_setCell _ _ _ _ (fun e => hd k hk (by have e : i = k := e; rwa [e] at hi))), hd, hF⟩, h2, ?_⟩
  refine h3.setCell (fun hlt => ?_) u
  have := h2 k ((hF k).2 (.inl hk))
  exact absurd hlt (by simp; omega)
theorem rowV_cell {w : World} {e : TypeId} {size : Nat} {ao : Option Addr} {n cap : Nat} {xs : List Value} (h : w.ownsRow 0 e size (.slice ao n cap) n xs) {j : Nat} {u : Value} (hj : xs[j]? = some u) :
    ∃ g, ao = some ⟨g, 0, none⟩ ∧ w.cell? ⟨g, j, none⟩ = some u ∧ w.frozen? ⟨g, j, none⟩ = false ∧ n ≤ cap := by
  rcases h.2 with ⟨e1, e2⟩ | ⟨g, cap', cur, e1, _, hg, hn, _, _, ht⟩
  · have hx := h.1
    rw [e2] at hx
    have := List.getElem?_eq_some_iff.1 hj
    obtain ⟨h1, _⟩ := this
    simp at hx
    subst hx
    simp at h1
  · simp at e1
    obtain ⟨rfl, rfl⟩ := e1
    refine ⟨g, rfl, ?_, by simp [World.frozen?, hg], hn⟩
    rw [← ht, List.getElem?_take] at hj
    split at hj
    · simpa [World.cell?, hg] using hj
    · cases hj
theorem own_base {w : World} {B B' : Nat} {e : TypeId} {size : Nat} {v : Value} {n : Nat} {xs : List Value} (h : w.ownsRow B e size v n xs) (hB : B' ≤ B) : w.ownsRow B' e size v n xs := by
  refine ⟨h.1, ?_⟩
  rcases h.2 with h0 | ⟨g, cap, cur, rfl, hb, rest⟩
  · exact .inl h0
  · exact .inr ⟨g, cap, cur, rfl, Nat.le_trans hB hb, rest⟩

end Go.Proofs.YtookbmpaoljelaaGreat
