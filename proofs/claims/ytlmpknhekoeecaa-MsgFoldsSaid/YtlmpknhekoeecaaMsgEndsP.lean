/-
  MsgEnds: what it says of entries; lists of messages in memory.
-/
import Derived.Test.YtlmpknhekoeecaaMsgB
namespace Go.Proofs.Ytlmpknhekoeecaa
open Go Go.RowKit
set_option linter.unusedVariables false
set_option linter.unusedSimpArgs false
set_option maxRecDepth 100000

/-- A message in seven cells. -/
structure MsAt (w : World) (g o : Nat) (m : Ms) : Prop where
  c0 : w.cell? ⟨g, o, none⟩ = some (.int .u64 m.sq)
  c1 : w.cell? ⟨g, o + 1, none⟩ = some (.int .i64 m.K)
  c2 : w.cell? ⟨g, o + 2, none⟩ = some (.string m.k)
  c3 : w.cell? ⟨g, o + 3, none⟩ = some (.int .u64 m.x)
  c4 : w.cell? ⟨g, o + 4, none⟩ = some (.string m.v)
  c5 : w.cell? ⟨g, o + 5, none⟩ = some (.int .i64 m.off)
  c6 : w.cell? ⟨g, o + 6, none⟩ = some (.int .u64 m.num)
  ok : MsOk m
theorem MsAt.keep {w w' : World} {g o : Nat} {m : Ms} (h : MsAt w g o m) (ho : Only (fun _ => False) w w') : MsAt w' g o m :=
  ⟨ho.cellq h.c0, ho.cellq h.c1, ho.cellq h.c2, ho.cellq h.c3, ho.cellq h.c4, ho.cellq h.c5, ho.cellq h.c6, h.ok⟩
/-- A slice of messages. -/
def SlM (w : World) (ao : Option Addr) (l : List Ms) : Prop := ∀ j, j < l.length → ∃ g off, ao = some ⟨g, off, none⟩ ∧ MsAt w g (off + j * 7) (l.getD j default)
theorem SlM.keep {w w' : World} {ao : Option Addr} {l : List Ms} (h : SlM w ao l) (ho : Only (fun _ => False) w w') : SlM w' ao l := fun j hj => by
  obtain ⟨g, off, e, h⟩ := h j hj
  exact ⟨g, off, e, h.keep ho⟩
theorem SlM.ok {w : World} {ao : Option Addr} {l : List Ms} (h : SlM w ao l) : ∀ m ∈ l, MsOk m := fun m hm => by
  obtain ⟨j, hj, rfl⟩ := List.mem_iff_getElem.1 hm
  obtain ⟨g, off, _, h⟩ := h j hj
  have := h.ok
  rwa [show l.getD j default = l[j] by simp [hj]] at this

/-- The transaction's own entry, when its value is p (or nothing was done yet), and the entry that was changed with none. -/
def ownSt (c : Mv) (x : Int) (p : Mv) (t : Bool) : St := if t then ⟨c, x, p⟩ else ⟨c, 0, Mv.no⟩
structure EndsAt (k : ByteArray) (c : Mv) (x : Int) (own plain : En) (t : Bool) (p : Mv) : Prop where
  o : own = (ownSt c x p t).en k
  q : plain = (St.mk p 0 Mv.no).en k
  z : t = false → p = c
theorem chg_x (v : Mv) (m : Ms) (x : Int) (k : ByteArray) : chg v { m with x := x, k := k } = chg v m := rfl
theorem ownSt_ok {c p : Mv} {x : Int} {t : Bool} (hc : c.Ok) (hp : p.Ok) (hx : x ≠ 0) : (ownSt c x p t).Ok := by
  unfold ownSt
  cases t with
  | false => exact ⟨hc, Mv.no_ok, fun _ => rfl⟩
  | true => exact ⟨hc, hp, fun h => absurd h hx⟩
theorem plain_ok {p : Mv} (hp : p.Ok) : (St.mk p 0 Mv.no).Ok := ⟨hp, Mv.no_ok, fun _ => rfl⟩
/-- A Put, Del or Add of the transaction, and the same with none. -/
theorem ends_step {k : ByteArray} {c p : Mv} {x : Int} {own plain : En} {t : Bool} {m : Ms} (h : EndsAt k c x own plain t p) (hc : c.Ok) (hp : p.Ok) (hx : x ≠ 0) (h1 : 1 ≤ m.K) (h3 : m.K ≤ 3) (h0 : 0 ≤ m.off) (mk : ByteArray) :
    EndsAt k c x (applyE own { m with x := x, k := mk }) (applyE plain { m with x := 0, k := mk }) true (chg p m) ∧ (chg p m).Ok := by
  have hso := st_en (ownSt_ok (t := t) hc hp hx) k
  have hsp := st_en (plain_ok hp) k
  refine ⟨⟨?_, ?_, fun e => by cases e⟩, chg_ok hp⟩
  · rw [h.o]
    unfold applyE
    rw [hso, after123 (by exact h1) (by exact h3) (by exact h0)]
    unfold St.changed
    rw [if_neg (show ¬ (x = 0) from hx)]
    cases t with
    | false =>
      have e : ownSt c x p false = ⟨c, 0, Mv.no⟩ := rfl
      rw [e, if_pos (.inl rfl)]
      have hv : (St.mk c 0 Mv.no).view x = c := by unfold St.view; rw [if_neg (fun h => h.1 h.2.symm)]
      show St.en ⟨c, x, chg ((St.mk c 0 Mv.no).view x) _⟩ k = St.en ⟨c, x, chg p m⟩ k
      rw [hv, chg_x, h.z rfl]
    | true =>
      have e : ownSt c x p true = ⟨c, x, p⟩ := rfl
      rw [e, if_pos (.inr rfl)]
      have hv : (St.mk c x p).view x = p := by unfold St.view; rw [if_pos ⟨hx, rfl⟩]
      show St.en ⟨c, x, chg ((St.mk c x p).view x) _⟩ k = St.en ⟨c, x, chg p m⟩ k
      rw [hv, chg_x]
  · rw [h.q]
    unfold applyE
    rw [hsp, after123 (by exact h1) (by exact h3) (by exact h0)]
    unfold St.changed
    rw [if_pos (show (0 : Int) = 0 from rfl), chg_x]
    rfl
theorem ends_view {k : ByteArray} {c p : Mv} {x : Int} {own plain : En} (h : EndsAt k c x own plain true p) (hc : c.Ok) (hp : p.Ok) (hx : x ≠ 0) :
    viewE own x = p ∧ viewE plain 0 = p ∧ ∀ y, y ≠ x → viewE own y = c := by
  have hso := st_en (ownSt_ok (t := true) hc hp hx) k
  have hsp := st_en (plain_ok hp) k
  unfold viewE
  rw [h.o, h.q, hso, hsp]
  refine ⟨?_, ?_, fun y hy => ?_⟩
  · unfold St.view ownSt
    rw [if_pos rfl, if_pos ⟨hx, rfl⟩]
  · unfold St.view
    rw [if_neg (fun h => h.1 rfl)]
  · unfold St.view ownSt
    rw [if_pos rfl, if_neg (fun h => hy h.2.symm)]
theorem ends_end {k : ByteArray} {c p : Mv} {x : Int} {own plain : En} {t : Bool} (h : EndsAt k c x own plain t p) (hc : c.Ok) (hp : p.Ok) (hx : x ≠ 0) (mk : ByteArray) :
    applyE own ⟨0, 6, mk, x, ⟨#[]⟩, 0, 0⟩ = (St.mk c 0 Mv.no).en k ∧ applyE own ⟨0, 5, mk, x, ⟨#[]⟩, 0, 0⟩ = plain ∧ ∀ y, y ≠ x → applyE own ⟨0, 5, mk, y, ⟨#[]⟩, 0, 0⟩ = own := by
  have hso := st_en (ownSt_ok (t := t) hc hp hx) k
  have hk : own.k = k := by rw [h.o]; rfl
  unfold applyE
  rw [hk]
  refine ⟨?_, ?_, fun y hy => ?_⟩
  · rw [h.o, hso, after6 rfl]
    cases t with
    | false =>
      show ((St.mk c 0 Mv.no).ended x c).en k = _
      unfold St.ended
      rw [if_pos (.inr (fun e => hx e.symm))]
    | true =>
      show ((St.mk c x p).ended x c).en k = _
      unfold St.ended
      rw [if_neg (fun e => e.elim hx (fun e => e rfl))]
  · rw [h.o, h.q, hso, after5 rfl]
    cases t with
    | false =>
      show ((St.mk c 0 Mv.no).ended x Mv.no).en k = _
      unfold St.ended
      rw [if_pos (.inr (fun e => hx e.symm)), h.z rfl]
    | true =>
      show ((St.mk c x p).ended x p).en k = _
      unfold St.ended
      rw [if_neg (fun e => e.elim hx (fun e => e rfl))]
  · rw [h.o, hso, after5 rfl]
    cases t with
    | false =>
      show ((St.mk c 0 Mv.no).ended y Mv.no).en k = _
      unfold St.ended
      by_cases h0 : y = 0
      · rw [if_pos (.inl h0)]
        rfl
      · rw [if_pos (.inr (fun e => h0 e.symm))]
        rfl
    | true =>
      show ((St.mk c x p).ended y p).en k = _
      unfold St.ended
      rw [if_pos (.inr (fun e => hy e.symm))]
      rfl
theorem ends_size {k : ByteArray} {c p : Mv} {x : Int} {own plain : En} {t : Bool} (h : EndsAt k c x own plain t p) (hk : k.size ≤ 100) (hc : c.b.size ≤ 140737488355328) (hp : p.b.size ≤ 140737488355328) : EnOk own ∧ EnOk plain := by
  rw [h.o, h.q]
  refine ⟨⟨?_, ?_, ?_⟩, ⟨by show k.size ≤ _; omega, hp, Nat.zero_le _⟩⟩
  · show k.size ≤ _
    omega
  · show (ownSt c x p t).c.b.size ≤ _
    unfold ownSt
    split <;> exact hc
  · show (ownSt c x p t).m.b.size ≤ _
    unfold ownSt
    split
    · exact hp
    · exact Nat.zero_le _

end Go.Proofs.Ytlmpknhekoeecaa
