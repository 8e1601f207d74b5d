/-
  Package msg: its values, states and entries by value; the small functions.
-/
import Derived.Test.YtlmpknhekoeecaaMsgSt
import Derived.Test.YtlmpknhekoeecaaShelf2
import Derived.Deep.RegionHeld3
import Derived.StillTailTactics
import Derived.BigQuiet
import Derived.Deep.QuietTactic
import Derived.Deep.CutBlock
import Derived.Deep.DeepCutAuto
import Derived.Laws.StructEq
namespace Go.Proofs.Ytlmpknhekoeecaa
open Go Go.RowKit
set_option linter.unusedVariables false
set_option linter.unusedSimpArgs false
set_option maxRecDepth 100000

abbrev mvv (x : Mv) : Value := .agg #[.bool x.t, .string x.b]
abbrev stv (s : St) : Value := .agg #[.bool s.c.t, .string s.c.b, .int .u64 s.x, .bool s.m.t, .string s.m.b]
abbrev env (e : En) : Value := .agg #[.string e.k, .bool e.h, .string e.v, .int .u64 e.x, .bool e.n, .string e.nv]
abbrev msv (m : Ms) : Value := .agg #[.int .u64 m.sq, .int .i64 m.K, .string m.k, .int .u64 m.x, .string m.v, .int .i64 m.off, .int .u64 m.num]
theorem below_quiet {w w' : World} (h : Below w.heap.size w w') : Only (fun _ => False) w w' := ⟨h.os, h.tape, h.output, h.size, fun k hk _ => h.block k hk⟩
theorem only_b {w w' : World} (h : Only (fun _ => False) w w') : Below w.heap.size w w' := h.below (Nat.le_refl _) (fun _ h => h.elim)
theorem qkeep {w w' : World} (h : Only (fun _ => False) w w') {k : Nat} {o : Obj} (hk : w.heap[k]? = some o) : w'.heap[k]? = some o := h.keep hk (fun h => h)
theorem blk2 {w : World} {k : Nat} {t : TypeId} {a0 a1 : Value} (h : w.heap[k]? = some (.cells #[a0, a1] t (0, 0))) :
    (w.cell? ⟨k, 0, none⟩ = some a0 ∧ w.cell? ⟨k, 1, none⟩ = some a1) ∧ (w.frozen? ⟨k, 0, none⟩ = false ∧ w.frozen? ⟨k, 1, none⟩ = false) := by
  simp [World.cell?, World.frozen?, h]
theorem blk5 {w : World} {k : Nat} {t : TypeId} {a0 a1 a2 a3 a4 : Value} (h : w.heap[k]? = some (.cells #[a0, a1, a2, a3, a4] t (0, 0))) :
    (w.cell? ⟨k, 0, none⟩ = some a0 ∧ w.cell? ⟨k, 1, none⟩ = some a1 ∧ w.cell? ⟨k, 2, none⟩ = some a2 ∧ w.cell? ⟨k, 3, none⟩ = some a3 ∧ w.cell? ⟨k, 4, none⟩ = some a4) ∧
    (w.frozen? ⟨k, 0, none⟩ = false ∧ w.frozen? ⟨k, 1, none⟩ = false ∧ w.frozen? ⟨k, 2, none⟩ = false ∧ w.frozen? ⟨k, 3, none⟩ = false ∧ w.frozen? ⟨k, 4, none⟩ = false) := by
  simp [World.cell?, World.frozen?, h]
theorem blk6 {w : World} {k : Nat} {t : TypeId} {a0 a1 a2 a3 a4 a5 : Value} (h : w.heap[k]? = some (.cells #[a0, a1, a2, a3, a4, a5] t (0, 0))) :
    (w.cell? ⟨k, 0, none⟩ = some a0 ∧ w.cell? ⟨k, 1, none⟩ = some a1 ∧ w.cell? ⟨k, 2, none⟩ = some a2 ∧ w.cell? ⟨k, 3, none⟩ = some a3 ∧ w.cell? ⟨k, 4, none⟩ = some a4 ∧ w.cell? ⟨k, 5, none⟩ = some a5) ∧
    (w.frozen? ⟨k, 0, none⟩ = false ∧ w.frozen? ⟨k, 1, none⟩ = false ∧ w.frozen? ⟨k, 2, none⟩ = false ∧ w.frozen? ⟨k, 3, none⟩ = false ∧ w.frozen? ⟨k, 4, none⟩ = false ∧ w.frozen? ⟨k, 5, none⟩ = false) := by
  simp [World.cell?, World.frozen?, h]
theorem blk7 {w : World} {k : Nat} {t : TypeId} {a0 a1 a2 a3 a4 a5 a6 : Value} (h : w.heap[k]? = some (.cells #[a0, a1, a2, a3, a4, a5, a6] t (0, 0))) :
    (w.cell? ⟨k, 0, none⟩ = some a0 ∧ w.cell? ⟨k, 1, none⟩ = some a1 ∧ w.cell? ⟨k, 2, none⟩ = some a2 ∧ w.cell? ⟨k, 3, none⟩ = some a3 ∧ w.cell? ⟨k, 4, none⟩ = some a4 ∧ w.cell? ⟨k, 5, none⟩ = some a5 ∧ w.cell? ⟨k, 6, none⟩ = some a6) := by
  simp [World.cell?, h]

theorem only_set {w W : World} (h : Only (fun _ => False) w W) {p : Nat} (hp : w.heap.size ≤ p) (o : Nat) (u : Value) : Only (fun _ => False) w (W.setCell ⟨p, o, none⟩ u) :=
  h.trans (Only.cell W p o u) (fun i hi e => by omega)
theorem set2 {W : World} {p : Nat} {t : TypeId} {a0 a1 : Value} (h : W.heap[p]? = some (.cells #[a0, a1] t (0, 0))) (u0 u1 : Value) :
    ((W.setCell ⟨p, 0, none⟩ u0).setCell ⟨p, 1, none⟩ u1).heap[p]? = some (.cells #[u0, u1] t (0, 0)) := by
  have := heap_set (heap_set h 0 u0) 1 u1
  simpa using this
theorem set5 {W : World} {p : Nat} {t : TypeId} {a0 a1 a2 a3 a4 : Value} (h : W.heap[p]? = some (.cells #[a0, a1, a2, a3, a4] t (0, 0))) (u0 u1 u2 u3 u4 : Value) :
    (((((W.setCell ⟨p, 0, none⟩ u0).setCell ⟨p, 1, none⟩ u1).setCell ⟨p, 2, none⟩ u2).setCell ⟨p, 3, none⟩ u3).setCell ⟨p, 4, none⟩ u4).heap[p]? = some (.cells #[u0, u1, u2, u3, u4] t (0, 0)) := by
  have := heap_set (heap_set (heap_set (heap_set (heap_set h 0 u0) 1 u1) 2 u2) 3 u3) 4 u4
  simpa using this
theorem set6 {W : World} {p : Nat} {t : TypeId} {a0 a1 a2 a3 a4 a5 : Value} (h : W.heap[p]? = some (.cells #[a0, a1, a2, a3, a4, a5] t (0, 0))) (u0 u1 u2 u3 u4 u5 : Value) :
    ((((((W.setCell ⟨p, 0, none⟩ u0).setCell ⟨p, 1, none⟩ u1).setCell ⟨p, 2, none⟩ u2).setCell ⟨p, 3, none⟩ u3).setCell ⟨p, 4, none⟩ u4).setCell ⟨p, 5, none⟩ u5).heap[p]? = some (.cells #[u0, u1, u2, u3, u4, u5] t (0, 0)) := by
  have := heap_set (heap_set (heap_set (heap_set (heap_set (heap_set h 0 u0) 1 u1) 2 u2) 3 u3) 4 u4) 5 u5
  simpa using this
theorem set7 {W : World} {p : Nat} {t : TypeId} {a0 a1 a2 a3 a4 a5 a6 : Value} (h : W.heap[p]? = some (.cells #[a0, a1, a2, a3, a4, a5, a6] t (0, 0))) (u0 u1 u2 u3 u4 u5 u6 : Value) :
    (((((((W.setCell ⟨p, 0, none⟩ u0).setCell ⟨p, 1, none⟩ u1).setCell ⟨p, 2, none⟩ u2).setCell ⟨p, 3, none⟩ u3).setCell ⟨p, 4, none⟩ u4).setCell ⟨p, 5, none⟩ u5).setCell ⟨p, 6, none⟩ u6).heap[p]? = some (.cells #[u0, u1, u2, u3, u4, u5, u6] t (0, 0)) := by
  have := heap_set (heap_set (heap_set (heap_set (heap_set (heap_set (heap_set h 0 u0) 1 u1) 2 u2) 3 u3) 4 u4) 5 u5) 6 u6
  simpa using this
theorem set_keep {W : World} {p q o : Nat} {u : Value} {x : Obj} (hq : q ≠ p) (h : W.heap[q]? = some x) : (W.setCell ⟨p, o, none⟩ u).heap[q]? = some x := (Below.heap_setCell _ _ _ _ hq).trans h
theorem alloc_keep {W : World} {q : Nat} {o x : Obj} (h : W.heap[q]? = some x) : (W.alloc o).heap[q]? = some x := (Below.heap_alloc _ _ _ (lt_of_some h)).trans h

theorem clone_any (s : ByteArray) (w : World) (hs : s.size ≤ 281474976710656) : Calls Try.prog 18 #[.string s] w fun e w' => e = .returned (.string s) ∧ Below w.heap.size w w' := by
  go_enter Try.func18, Try.ntmps18
  go_wp2_with fail
  refine (Try.stringslite_Clone s _ hs).mono ?_
  rintro e w1 ⟨rfl, hb⟩
  have H := Lib.hid hb
  clear hb
  go_wp2
  go_ret
  exact ⟨rfl, H.out⟩

theorem valof_any (t : Bool) (b : ByteArray) (w : World) : Calls Try.prog 22 #[.bool t, .string b] w fun e w' => e = .returned (mvv (valOf t b)) ∧ Below w.heap.size w w' := by
  have HB := Lib.hid (fun o => (Below.refl w.heap.size w).alloc (Nat.le_refl _) o)
  cases t with
  | false =>
    go_enter Try.func22, Try.ntmps22
    go_wp2
    exact bodyPost_ret (v := .agg #[.bool false, .string ⟨#[]⟩]) (by simp [results, Try.results22, go_sem]) rfl ⟨rfl, HB.out _⟩
  | true =>
    go_enter Try.func22, Try.ntmps22
    go_wp2
    exact bodyPost_ret (v := .agg #[.bool true, .string b]) (by simp [results, Try.results22, go_sem]) rfl ⟨rfl, HB.out _⟩

theorem sview_any (s : St) (x : Int) (w : World) : Calls Try.prog 17 #[stv s, .int .u64 x] w fun e w' => e = .returned (mvv (s.view x)) ∧ Below w.heap.size w w' := by
  have HB := Lib.hid (fun o p => ((Below.refl w.heap.size w).alloc (Nat.le_refl _) o).alloc (by simp) p)
  obtain ⟨⟨t, b⟩, y, ⟨t2, b2⟩⟩ := s
  by_cases hx : x = 0
  · subst hx
    go_enter Try.func17, Try.ntmps17
    go_wp2
    exact bodyPost_ret (v := .agg #[.bool t, .string b]) (by simp [results, Try.results17, go_sem]) rfl ⟨by simp [St.view], HB.out _ _⟩
  · have h0 : (x != 0) = true := by simpa using hx
    by_cases hy : y = x
    · subst hy
      have HV : Hid (St.view ⟨⟨t, b⟩, y, ⟨t2, b2⟩⟩ y = ⟨t2, b2⟩) := Lib.hid (by unfold St.view; rw [if_pos ⟨hx, rfl⟩])
      clear hx
      go_enter Try.func17, Try.ntmps17
      go_wp2
      exact bodyPost_ret (v := .agg #[.bool t2, .string b2]) (by simp [results, Try.results17, go_sem]) rfl ⟨by rw [HV.out], HB.out _ _⟩
    · have HV : Hid (St.view ⟨⟨t, b⟩, y, ⟨t2, b2⟩⟩ x = ⟨t, b⟩) := Lib.hid (by unfold St.view; rw [if_neg (fun h => hy h.2)])
      have h1 : (y == x) = false := by simpa using hy
      clear hx hy
      go_enter Try.func17, Try.ntmps17
      go_wp2
      exact bodyPost_ret (v := .agg #[.bool t, .string b]) (by simp [results, Try.results17, go_sem]) rfl ⟨by rw [HV.out], HB.out _ _⟩

theorem sentry_any (s : St) (k : ByteArray) (w : World) : Calls Try.prog 21 #[stv s, .string k] w fun e w' => e = .returned (env (s.en k)) ∧ Below w.heap.size w w' := by
  have HB := Lib.hid (fun o p => ((Below.refl w.heap.size w).alloc (Nat.le_refl _) o).alloc (by simp) p)
  obtain ⟨⟨t, b⟩, y, ⟨t2, b2⟩⟩ := s
  go_enter Try.func21, Try.ntmps21
  go_wp2
  exact bodyPost_ret (v := .agg #[.string k, .bool t, .string b, .int .u64 y, .bool t2, .string b2]) (by simp [results, Try.results21, go_sem]) rfl ⟨rfl, HB.out _ _⟩

theorem sended_any (s : St) (x : Int) (v : Mv) (w : World) : Calls Try.prog 27 #[stv s, .int .u64 x, mvv v] w fun e w' => e = .returned (stv (s.ended x v)) ∧ Below w.heap.size w w' := by
  have HB := Lib.hid (fun o p q => (((Below.refl w.heap.size w).alloc (Nat.le_refl _) o).alloc (by simp) p).alloc (by simp; omega) q)
  obtain ⟨⟨t, b⟩, y, ⟨t2, b2⟩⟩ := s
  obtain ⟨t3, b3⟩ := v
  by_cases hx : x = 0
  · subst hx
    go_enter Try.func27, Try.ntmps27
    go_wp2
    exact bodyPost_ret (v := .agg #[.bool t, .string b, .int .u64 y, .bool t2, .string b2]) (by simp [results, Try.results27, go_sem]) rfl ⟨by simp [St.ended], HB.out _ _ _⟩
  · have h0 : (x == 0) = false := by simpa using hx
    by_cases hy : y = x
    · subst hy
      have HV : Hid (St.ended ⟨⟨t, b⟩, y, ⟨t2, b2⟩⟩ y ⟨t3, b3⟩ = ⟨⟨t3, b3⟩, 0, Mv.no⟩) := Lib.hid (by unfold St.ended; rw [if_neg (fun h => h.elim hx (fun h => h rfl))])
      clear hx
      go_enter Try.func27, Try.ntmps27
      go_wp2
      exact bodyPost_ret (v := .agg #[.bool t3, .string b3, .int .u64 0, .bool false, .string ⟨#[]⟩]) (by simp [results, Try.results27, go_sem]) rfl ⟨by rw [HV.out], HB.out _ _ _⟩
    · have HV : Hid (St.ended ⟨⟨t, b⟩, y, ⟨t2, b2⟩⟩ x ⟨t3, b3⟩ = ⟨⟨t, b⟩, y, ⟨t2, b2⟩⟩) := Lib.hid (by unfold St.ended; rw [if_pos (.inr hy)])
      have h1 : (y != x) = true := by simpa using hy
      clear hx hy
      go_enter Try.func27, Try.ntmps27
      go_wp2
      exact bodyPost_ret (v := .agg #[.bool t, .string b, .int .u64 y, .bool t2, .string b2]) (by simp [results, Try.results27, go_sem]) rfl ⟨by rw [HV.out], HB.out _ _ _⟩

end Go.Proofs.Ytlmpknhekoeecaa
