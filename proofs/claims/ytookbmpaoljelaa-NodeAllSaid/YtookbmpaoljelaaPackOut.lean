/-
  Contracts of package pack's Out: number.
-/
import Derived.Test.YtookbmpaoljelaaBeB
import Derived.Test.YtookbmpaoljelaaRows
import Derived.Test.YtookbmpaoljelaaPackSt
import Derived.Test.YtookbmpaoljelaaMemP
import Derived.Deep.QuietTactic
import Derived.BigQuiet
import Derived.Deep.RegionLaw
import Derived.Laws.BitsAllLaws
namespace Go.Proofs.Ytookbmpaoljelaa
open Go Go.RowKit
set_option linter.unusedVariables false
set_option linter.unusedSimpArgs false
set_option maxRecDepth 100000

def PutPost (w : World) (p : Nat) (v : Value) (xs : List UInt8) (e : Ending) (w' : World) : Prop :=
  e = .returned (.tuple #[]) ∧ ∃ v', OutV w' p v' xs ∧ (v'.ownBlock = v.ownBlock ∨ ∃ g, v'.ownBlock = some g ∧ w.heap.size ≤ g) ∧ Only (OutS p v) w w'

set_option maxHeartbeats 400000 in
theorem number_nil (x n : Int) (w : World) :
    Calls Try.prog 74 #[.pointer none, .int .u64 x, .int .i64 n] w fun e w' => e = .returned (.tuple #[]) ∧ w = w' := by
  go_enter Try.func74, Try.ntmps74
  go_wp2
  exact bodyPost_ret (results_none rfl _ _ _) rfl ⟨rfl, rfl⟩

def NumInv (w : World) (p x n : Nat) (v : Value) (xs : List UInt8) (k : Nat) (wr : World) : Prop :=
  ∃ D v', D ++ beB k x = beB n x ∧ OutV wr p v' (xs ++ D) ∧ (v'.ownBlock = v.ownBlock ∨ ∃ g, v'.ownBlock = some g ∧ w.heap.size ≤ g) ∧ Only (OutS p v) w wr

theorem OutV.cell {w : World} {p : Nat} {v : Value} {xs : List UInt8} (h : OutV w p v xs) : w.cell? ⟨p, 0, none⟩ = some v := by simp [World.cell?, h.at']
theorem OutV.free {w : World} {p : Nat} {v : Value} {xs : List UInt8} (h : OutV w p v xs) : w.frozen? ⟨p, 0, none⟩ = false := by simp [World.frozen?, h.at']
theorem OutV.ne {w : World} {p : Nat} {v : Value} {xs : List UInt8} (h : OutV w p v xs) : v.ownBlock ≠ some p := by
  intro e
  have h1 := h.at'
  rcases h.own.2 with ⟨rfl, _⟩ | ⟨g, cap, cur, rfl, _, hg, _⟩
  · simp [Value.ownBlock] at e
  · simp [Value.ownBlock] at e
    subst e
    rw [hg] at h1
    simp at h1

/-- Behind the append of one byte, ahead of its store into the Out's field. -/
structure PutMid (wr : World) (p : Nat) (v : Value) (ys : List UInt8) (v1 : Value) (w1 : World) : Prop where
  at' : w1.heap[p]? = some (.cells #[v] 50 (0, 0))
  own : w1.ownsRow 0 5 1 v1 ys.length (u8s ys)
  row : v1.ownBlock = v.ownBlock ∨ ∃ g, v1.ownBlock = some g ∧ wr.heap.size ≤ g
  only : Only (OutS p v) wr w1

theorem PutMid.done {wr w1 : World} {p : Nat} {v v1 : Value} {ys : List UInt8} (h : PutMid wr p v ys v1 w1) : OutV (w1.setCell ⟨p, 0, none⟩ v1) p v1 ys := by
  have hne : v1.ownBlock ≠ some p := by
    intro e
    have h1 := h.at'
    rcases h.own.2 with ⟨rfl, _⟩ | ⟨g, cap, cur, rfl, _, hg, _⟩
    · simp [Value.ownBlock] at e
    · simp [Value.ownBlock] at e
      subst e
      rw [hg] at h1
      simp at h1
  exact ⟨one_setCell h.at', ownsRow_setCell_other h.own hne _⟩

/-- The append itself, in whatever world the new bytes lie. -/
theorem PutMid.mk' {wr w0 w1 : World} {p : Nat} {v : Value} {xs ys : List UInt8} (hV : OutV wr p v xs) (h0 : Only (fun _ => False) wr w0) {g cap n : Nat}
    (hown : w1.ownsRow 0 5 1 (.slice (some ⟨g, 0, none⟩) n cap) n (u8s ys)) (hn : n = ys.length) (hg : w0.grownBy w1 v.ownBlock) (hat : v.ownBlock = some g ∨ wr.heap.size ≤ g) :
    PutMid wr p v ys (.slice (some ⟨g, 0, none⟩) n cap) w1 := by
  have hp := h0.keep hV.at' (fun h => h)
  subst hn
  refine ⟨(hg.block p (lt_of_some hp) (fun e => hV.ne e.symm)).trans hp, hown, ?_, ?_⟩
  · rcases hat with h | h
    · exact .inl h.symm
    · exact .inr ⟨g, rfl, h⟩
  · exact (h0.mono (T := OutS p v) (fun _ _ h => h.elim)).grown hg (fun k _ e => .inr e)

theorem step_put {ops : Array Oper} {o : Oper} {a : Act} {K : Act → World → Prop} {Q : Exit → Act → World → Prop} {E : Prop} (wr : World) (p : Nat) (v : Value) (xs : List UInt8) (z : Int) (b : UInt8)
    (hV : OutV wr p v xs) (hz : z = (b.toNat : Int)) (hlen : xs.length + 1 ≤ 140737488355328) (hgd : o.guard = none) (s x : Operand)
    (ho : o.op = .call { callee := .builtin .append, args := #[s, x], argTypes := #[29, 29] })
    (hs : a.eval s = v) (hx : a.eval x = .slice (some ⟨wr.heap.size, 0, none⟩) 1 1)
    (h : ∀ g cap w1, w1.cell? ⟨p, 0, none⟩ = some v → w1.frozen? ⟨p, 0, none⟩ = false → Hid (PutMid wr p v (xs ++ [b]) (.slice (some ⟨g, 0, none⟩) (xs.length + 1) cap) w1) →
      K (a.put o.dst (.slice (some ⟨g, 0, none⟩) (xs.length + 1) cap)) w1) :
    if Region.wanted o (yielded ops a.tmps) = true then Oper.wp Try.prog o a (wr.alloc (.cells #[.int .u8 z] 5)).drew K Q else E := by
  obtain ⟨i0, hi, hz0, hz1, hz2⟩ := info_parts Try.infoU8
  subst hz
  refine step_append_lies (P := Try.prog) (wr.alloc (.cells #[.int .u8 (b.toNat : Int)] 5)).drew hgd s x 29 ho 0 5 i0 (.int .u8 0) 1 1 Try.underlying29 hi hz0 hz1 hz2 rfl (by decide) v xs.length (u8s xs) hs
    ((hV.own.alloc _).drew) ⟨wr.heap.size, 0, none⟩ 1 1 (u8s [b]) hx rfl (World.news_of_block (B := wr.heap.size) (heap_alloc_new wr _)) (u8s_oneCell _) Nat.zero_lt_one (by unfold maxLen; omega) (by omega) (Nat.zero_le _) (wr.heap.size + 1) (by simp) ?_
  intro g cap w1 hown hgrow hat hlt
  rw [← u8s_append] at hown
  have hm := PutMid.mk' (ys := xs ++ [b]) hV (((Only.refl _ wr).alloc (.cells #[.int .u8 (b.toNat : Int)] 5)).drew) hown (by simp) hgrow (hat.imp id (fun e => by omega))
  exact h g cap w1 (cell_of_one hm.at') (free_of_one hm.at') hm

theorem NumInv.step {w wr w1 : World} {p x n m q : Nat} {v v' v1 : Value} {xs ys D : List UInt8} (hys : ys = xs ++ D) (hD : D ++ beB (m + 1) x = beB n x)
    (hb : v'.ownBlock = v.ownBlock ∨ ∃ g, v'.ownBlock = some g ∧ w.heap.size ≤ g) (ho : Only (OutS p v) w wr) (hq : q = x / 256 ^ m) (hm : PutMid wr p v' (ys ++ [UInt8.ofNat q]) v1 w1) :
    NumInv w p x n v xs m (w1.setCell ⟨p, 0, none⟩ v1) := by
  subst hys hq
  refine ⟨D ++ [UInt8.ofNat (x / 256 ^ m)], v1, by rw [← hD]; simp [beB], by simpa using hm.done, row_trans ho.size hb hm.row, ?_⟩
  exact (ho.trans (hm.only.trans (Only.cell w1 p 0 v1) (fun k _ e => .inl e)) (fun k hk h => OutS.sub hb k hk h))

set_option maxHeartbeats 400000 in
theorem putNumber (p x n : Nat) (v : Value) (xs : List UInt8) (w : World) (hO : OutV w p v xs) (hn8 : n ≤ 8) (hx : x < 18446744073709551616) (hlen : xs.length + n ≤ 140737488355328) :
    Calls Try.prog 74 #[.pointer (some ⟨p, 0, none⟩), .int .u64 x, .int .i64 n] w (PutPost w p v (xs ++ beB n x)) := by
  have HX := Lib.hid hx
  clear hx
  have HO := Lib.hid hO
  clear hO
  obtain ⟨i0, hi, hz0, hz1, hz2⟩ := info_parts Try.infoU8
  go_enter Try.func74, Try.ntmps74
  go_wp2
  go_loopw [6] (fun i wr => ∃ k : Nat, k ≤ n ∧ i = .int .i64 ((k : Int) - 1) ∧ NumInv w p x n v xs k wr) (fun i _ => (intOf i + 1).toNat)
  case atStart => exact ⟨n, Nat.le_refl _, rfl, [], v, rfl, by rw [List.append_nil]; exact HO.out, .inl rfl, Only.refl _ _⟩
  case round =>
    obtain ⟨k, hk, rfl, hinv⟩ := hrel
    have HI := Lib.hid hinv; clear hinv
    match k, hk, HI with
    | 0, hk, HI =>
      go_wp2
      obtain ⟨D, v', hD, hV, hb, ho⟩ := HI.out
      exact bodyPost_end (results_none rfl _ _ _) rfl ⟨rfl, v', by rw [← hD]; simpa [beB] using hV, hb, ho⟩
    | m + 1, hk, HI =>
      obtain ⟨D, v', hD, hV, hb, ho⟩ := HI.out
      rw [show (((m + 1 : Nat) : Int) - 1) = (m : Int) from by omega]
      obtain ⟨ys, hys⟩ : ∃ ys, ys = xs ++ D := ⟨_, rfl⟩
      rw [← hys] at hV
      have hc0 := hV.cell
      have hf := hV.free
      obtain ⟨q, hq⟩ : ∃ q, q = x / 256 ^ m := ⟨_, rfl⟩
      have hsh := shift_at x m (by omega)
      rw [← hq] at hsh
      have hlen2 : ys.length + 1 ≤ 140737488355328 := by
        have h1 := congrArg List.length hD
        rw [hys]
        simp only [List.length_append, beB_length] at h1 ⊢
        omega
      have hz : IntKind.u8.wrap (q : Int) = ((UInt8.ofNat q).toNat : Int) := by rw [IntKind.wrap_u8']; simp
      have hc0' : (wr.alloc (.cells #[.int .u8 (IntKind.u8.wrap (q : Int))] 5)).cell? ⟨p, 0, none⟩ = some v' := cell_of_one ((Below.heap_alloc wr _ p (lt_of_some hV.at')).trans hV.at')
      have HV := Lib.hid hV; clear hV
      have HD := Lib.hid hD; clear hD
      have HB := Lib.hid hb; clear hb
      have HW := Lib.hid ho; clear ho
      have HQ := Lib.hid hq; clear hq
      have HYS := Lib.hid hys; clear hys
      have HZ := Lib.hid hz; clear hz
      clear HI HO
      go_wp2
      go_region_law ((refine step_put wr p v' ys (IntKind.u8.wrap (q : Int)) (UInt8.ofNat q) HV.out HZ.out hlen2 rfl (.tmp 19) (.tmp 25) rfl ?_ ?_ ?_; (go_must (simp [Act.eval])); (go_must (simp [Act.eval])); (go_must (intro g cap w1 c1 f1 HM))))
      all_goals
        have HN := Lib.hid (NumInv.step HYS.out HD.out HB.out HW.out HQ.out HM.out)
        clear HM HYS HD HB HW HQ HV HZ hc0 hf hsh hlen2 hc0' c1 f1
        go_wp2
        go_roundw
        case rel => exact ⟨m, by omega, by go_num, HN.out⟩
        case measure => (simp [intOf] <;> omega)

end Go.Proofs.Ytookbmpaoljelaa
