/-
  Package key's reader: text.
-/
import Derived.Test.YtpedcpehomkikaaDoorKey1
namespace Go.Proofs.YtpedcpehomkikaaDoor
open Go Go.RowKit
set_option linter.unusedVariables false
set_option linter.unusedSimpArgs false
set_option maxRecDepth 100000

theorem RdIn.cell2 {p : Nat} {d : Bool} {l : List UInt8} {bad : Bool} {w : World} (h : RdIn p d l bad w) : w.cell? ⟨p, 2, none⟩ = some (.bool bad) := by
  obtain ⟨s, _, hp⟩ := h
  simp [World.cell?, hp]
theorem RdIn.free {p : Nat} {d : Bool} {l : List UInt8} {bad : Bool} {w : World} (h : RdIn p d l bad w) (o : Nat) : w.frozen? ⟨p, o, none⟩ = false := by
  obtain ⟨s, _, hp⟩ := h
  simp [World.frozen?, hp]
theorem RdIn.lt {p : Nat} {d : Bool} {l : List UInt8} {bad : Bool} {w : World} (h : RdIn p d l bad w) : p < w.heap.size := by
  obtain ⟨s, _, hp⟩ := h
  exact lt_of_some hp
theorem RdIn.keep {p : Nat} {d : Bool} {l : List UInt8} {bad : Bool} {w w' : World} (h : RdIn p d l bad w) (hk : w'.heap[p]? = w.heap[p]?) : RdIn p d l bad w' := by
  obtain ⟨s, hs, hp⟩ := h
  exact ⟨s, hs, hk.trans hp⟩
theorem RdIn.mark {p : Nat} {d : Bool} {l : List UInt8} {bad : Bool} {w : World} (h : RdIn p d l bad w) (b : Bool) : RdIn p d l b (w.setCell ⟨p, 2, none⟩ (.bool b)) := by
  obtain ⟨s, hs, hp⟩ := h
  exact ⟨s, hs, by rw [heap_set hp]; rfl⟩
/-- What is left to do. -/
def rdM (p : Nat) (w : World) : Nat := match w.cell? ⟨p, 2, none⟩ with
  | some (.bool false) => (match w.cell? ⟨p, 0, none⟩ with | some (.string s) => s.size + 1 | _ => 0)
  | _ => 0
theorem RdIn.m {p : Nat} {d : Bool} {l : List UInt8} {w : World} (h : RdIn p d l false w) : rdM p w = l.length + 1 := by
  obtain ⟨s, hs, hp⟩ := h
  have h2 : w.cell? ⟨p, 2, none⟩ = some (.bool false) := by simp [World.cell?, hp]
  have h0 : w.cell? ⟨p, 0, none⟩ = some (.string s) := by simp [World.cell?, hp]
  unfold rdM
  rw [h2, h0]
  show s.size + 1 = _
  rw [← hs, ba_size]
theorem RdIn.m0 {p : Nat} {d : Bool} {l : List UInt8} {w : World} (h : RdIn p d l true w) : rdM p w = 0 := by
  unfold rdM
  rw [h.cell2]
theorem isB_only {B b p : Nat} {bs : List Value} {w w' : World} (h : IsB B b bs w) (ho : Only (fun k => k = p) w w') (hp : p < B) : IsB B b bs w' := by
  refine h.imp (fun h => ?_) (fun h => ?_)
  all_goals
    obtain ⟨hB, v, hbk, hown, hne⟩ := h
    exact ⟨hB, v, ho.keep hbk (fun e => by omega), own_keepAt hown (fun k hk => ho.block k (hown.lt k hk).2 (fun e => by have := (hown.lt k hk).1; omega)), hne⟩
theorem only_below {B : Nat} {S : Nat → Prop} {w w1 w2 : World} (h : Only S w w1) (hb : Below B w1 w2) (hB : w.heap.size ≤ B) : Only S w w2 :=
  h.trans (T := fun k => B ≤ k) ⟨hb.os, hb.tape, hb.output, hb.size, fun k _ hk => hb.block k (by omega)⟩ (fun k hk e => by omega)

structure TxtAt (w : World) (p : Nat) (d : Bool) (l acc l1 : List UInt8) (bad : Bool) (wr : World) : Prop where
  at' : RdIn p d l1 bad wr
  bld : IsB w.heap.size w.heap.size (Lib.byteCells acc) wr
  only : Only (fun k => k = p) w wr
  lt : p < w.heap.size
  len : acc.length + l1.length ≤ l.length
  good : bad = false → txtK (turnL d l) = (txtK (turnL d l1)).map (fun x => (acc ++ x.1, x.2))
  fell : bad = true → txtK (turnL d l) = none
theorem TxtAt.size {w : World} {p : Nat} {d : Bool} {l acc l1 : List UInt8} {bad : Bool} {wr : World} (h : TxtAt w p d l acc l1 bad wr) : w.heap.size ≤ wr.heap.size := h.only.size
theorem turnL_cons (d : Bool) (b : UInt8) (r : List UInt8) : turnL d (b :: r) = nxt d (b :: r) :: turnL d r := by cases d <;> rfl
/-- Behind a byte that isn't 0. -/
theorem TxtAt.own {w wr w1 w2 : World} {p : Nat} {d : Bool} {l acc r : List UInt8} {c : UInt8} (h : TxtAt w p d l acc (c :: r) false wr) (hc : nxt d (c :: r) ≠ 0)
    (hr : RdIn p d r false w1) (ho : Only (fun k => k = p) wr w1) (hb : UsedB w.heap.size w.heap.size (Lib.byteCells (acc ++ [nxt d (c :: r)])) w2) (hbe : Below w.heap.size w1 w2) : TxtAt w p d l (acc ++ [nxt d (c :: r)]) r false w2 := by
  refine ⟨hr.keep (hbe.block p h.lt), .inr hb, only_below (h.only.trans ho (fun _ _ e => e)) hbe (Nat.le_refl _), h.lt, by have := h.len; simp only [List.length_append, List.length_cons, List.length_nil] at this ⊢; omega, fun _ => ?_, fun e => by cases e⟩
  rw [h.good rfl, turnL_cons, txtK_own hc, Option.map_map]
  congr 1
  funext x
  simp
/-- Behind a byte 0 and a mark that isn't the end's. -/
theorem TxtAt.zero {w wr w1 w2 : World} {p : Nat} {d : Bool} {l acc q : List UInt8} {c m : UInt8} {bad : Bool} (h : TxtAt w p d l acc (c :: m :: q) false wr) (hc : nxt d (c :: m :: q) = 0) (hm : nxt d (m :: q) ≠ 0) (hbad : bad = !decide (nxt d (m :: q) = 255))
    (hr : RdIn p d q bad w1) (ho : Only (fun k => k = p) wr w1) (hb : UsedB w.heap.size w.heap.size (Lib.byteCells (acc ++ [0])) w2) (hbe : Below w.heap.size w1 w2) : TxtAt w p d l (acc ++ [0]) q bad w2 := by
  have e : txtK (turnL d l) = (if nxt d (m :: q) = 255 then (txtK (turnL d q)).map (fun x => ((0 : UInt8) :: x.1, x.2)) else none).map (fun x => (acc ++ x.1, x.2)) := by
    rw [h.good rfl, turnL_cons, turnL_cons, hc, txtK_zero, if_neg hm]
  refine ⟨hr.keep (hbe.block p h.lt), .inr hb, only_below (h.only.trans ho (fun _ _ e => e)) hbe (Nat.le_refl _), h.lt, by have := h.len; simp only [List.length_append, List.length_cons, List.length_nil] at this ⊢; omega, fun hf => ?_, fun hf => ?_⟩
  · have h255 : nxt d (m :: q) = 255 := by rw [hbad] at hf; simpa using hf
    rw [e, if_pos h255, Option.map_map]
    congr 1
    funext x
    simp
  · have h255 : ¬ nxt d (m :: q) = 255 := by rw [hbad] at hf; simpa using hf
    rw [e, if_neg h255]
    rfl
theorem nxt_nil (d : Bool) : nxt d [] = 0 := by cases d <;> rfl
theorem nxt_int {b : UInt8} (h : b ≠ 0) : ((b.toNat : Int) == 0) = false := by
  have : b.toNat ≠ 0 := fun e => h (UInt8.toNat_inj.1 e)
  simp
  omega
def TxtPost (p : Nat) (d : Bool) (l : List UInt8) (w : World) (e : Ending) (w' : World) : Prop :=
  ∃ (s : List UInt8) (l' : List UInt8) (bad : Bool), e = .returned (.string ⟨s.toArray⟩) ∧ RdIn p d l' bad w' ∧ Only (fun k => k = p) w w' ∧
      (txtK (turnL d l) = none ∧ bad = true ∨ bad = false ∧ txtK (turnL d l) = some (s, turnL d l'))

set_option maxHeartbeats 2000000 in
theorem rd_text (p : Nat) (d : Bool) (l : List UInt8) (w : World) (h : RdIn p d l false w) (hl : l.length ≤ 4096) :
    Calls Tryd.prog 54 #[.pointer (some ⟨p, 0, none⟩)] w fun e w' => TxtPost p d l w e w' := by
  have HB := Lib.hid (show TxtAt w p d l [] l false (w.alloc (.cells #[.pointer none, .slice none 0 0] 96)) from
    ⟨h.keep (Below.heap_alloc _ _ _ h.lt), Lib.fresh_isBuilder _ _ w, (Only.refl _ w).alloc _, h.lt, by simp, fun _ => by
      have : (fun x : List UInt8 × List UInt8 => (([] : List UInt8) ++ x.1, x.2)) = id := by funext x; simp
      rw [this, Option.map_id]; rfl, fun e => by cases e⟩)
  clear h
  go_enter Tryd.func54, Tryd.ntmps54
  go_wp2
  generalize w.alloc (.cells #[.pointer none, .slice none 0 0] 96) = w0 at *
  go_loopw [4, 5] (fun _ _ wr => ∃ (acc l1 : List UInt8) (bad : Bool), Hid (TxtAt w p d l acc l1 bad wr)) (fun _ _ wr => rdM p wr)
  case atStart => exact ⟨[], l, false, HB⟩
  case round =>
    clear HB
    obtain ⟨acc, l1, bad, HT⟩ := hrel
    have c2 := HT.out.at'.cell2
    cases bad with
    | true =>
      go_wp2_with fail
      go_ret
      exact ⟨[], l1, true, rfl, HT.out.at', HT.out.only, .inl ⟨HT.out.fell rfl, rfl⟩⟩
    | false =>
      have HM := Lib.hid HT.out.at'.m
      have HLEN := Lib.hid HT.out.len
      match l1, HT, HM, HLEN with
      | [], HT, HM, HLEN =>
        go_wp2_with fail
        refine (rd_next p d [] _ _ HT.out.at').mono ?_
        rintro e w1 ⟨rfl, hr1, ho1⟩
        have HR1 := Lib.hid hr1
        have HO1 := Lib.hid (HT.out.only.trans ho1 (fun _ _ e => e))
        have HI1 := Lib.hid (isB_only HT.out.bld ho1 HT.out.lt)
        clear hr1 ho1 c2
        rw [nxt_nil]
        go_wp2_with fail
        refine (rd_next p d [] _ _ HR1.out).mono ?_
        rintro e w2 ⟨rfl, hr2, ho2⟩
        have HR2 := Lib.hid hr2
        have HO2 := Lib.hid (HO1.out.trans ho2 (fun _ _ e => e))
        have HI2 := Lib.hid (isB_only HI1.out ho2 HT.out.lt)
        clear hr2 ho2
        rw [nxt_nil]
        go_wp2_with fail
        refine (Tryd.Builder_String_any _ w.heap.size acc _ HI2.out HO2.out.size).mono ?_
        rintro e w3 ⟨rfl, hb3⟩
        have HR3 := Lib.hid (HR2.out.keep (hb3.block p HT.out.lt))
        have HO3 := Lib.hid (only_below HO2.out hb3 (Nat.le_refl _))
        clear hb3
        go_wp2_with fail
        go_ret
        refine ⟨acc, [], true, rfl, HR3.out, HO3.out, .inl ⟨?_, rfl⟩⟩
        rw [HT.out.good rfl, turnL_nil]
        rfl
      | c :: r, HT, HM, HLEN =>
        go_wp2_with fail
        refine (rd_next p d (c :: r) _ _ HT.out.at').mono ?_
        rintro e w1 ⟨rfl, hr1, ho1⟩
        obtain ⟨b, hb⟩ : ∃ b, nxt d (c :: r) = b := ⟨_, rfl⟩
        have HBN := Lib.hid hb
        rw [hb]
        have HR1 : Hid (RdIn p d r false w1) := Lib.hid hr1
        have HO1 := Lib.hid ho1
        have HI1 := Lib.hid (isB_only HT.out.bld ho1 HT.out.lt)
        have HS1 : Hid (w.heap.size ≤ w1.heap.size) := Lib.hid (Nat.le_trans HT.out.only.size ho1.size)
        clear hr1 ho1 hb c2
        by_cases hb0 : b = 0
        · have HB0 := Lib.hid hb0
          rw [hb0]
          rw [show ((0 : UInt8).toNat : Int) = 0 from rfl]
          clear hb0
          match r, HT, HR1, HBN, HM, HLEN with
          | [], HT, HR1, HBN, HM, HLEN =>
            go_wp2_with fail
            refine (rd_next p d [] _ _ HR1.out).mono ?_
            rintro e w2 ⟨rfl, hr2, ho2⟩
            have HR2 := Lib.hid hr2
            have HO2 := Lib.hid ((HT.out.only.trans HO1.out (fun _ _ e => e)).trans ho2 (fun _ _ e => e))
            have HI2 := Lib.hid (isB_only HI1.out ho2 HT.out.lt)
            clear hr2 ho2
            rw [nxt_nil]
            go_wp2_with fail
            refine (Tryd.Builder_String_any _ w.heap.size acc _ HI2.out HO2.out.size).mono ?_
            rintro e w3 ⟨rfl, hb3⟩
            have HR3 := Lib.hid (HR2.out.keep (hb3.block p HT.out.lt))
            have HO3 := Lib.hid (only_below HO2.out hb3 (Nat.le_refl _))
            clear hb3
            go_wp2_with fail
            go_ret
            refine ⟨acc, [], true, rfl, HR3.out, HO3.out, .inl ⟨?_, rfl⟩⟩
            rw [HT.out.good rfl, turnL_cons, HBN.out, HB0.out, turnL_nil]
            rfl
          | m :: q, HT, HR1, HBN, HM, HLEN =>
            go_wp2_with fail
            refine (rd_next p d (m :: q) _ _ HR1.out).mono ?_
            rintro e w2 ⟨rfl, hr2, ho2⟩
            obtain ⟨x, hx⟩ : ∃ x, nxt d (m :: q) = x := ⟨_, rfl⟩
            have HXN := Lib.hid hx
            rw [hx]
            have HR2 : Hid (RdIn p d q false w2) := Lib.hid hr2
            have HO2 := Lib.hid (HO1.out.trans ho2 (fun _ _ e => e))
            have HI2 := Lib.hid (isB_only HI1.out ho2 HT.out.lt)
            have HS2 : Hid (w.heap.size ≤ w2.heap.size) := Lib.hid (Nat.le_trans HS1.out ho2.size)
            clear hr2 ho2 hx
            by_cases hx0 : x = 0
            · have HX0 := Lib.hid hx0
              rw [hx0]
              rw [show ((0 : UInt8).toNat : Int) = 0 from rfl]
              clear hx0
              go_wp2_with fail
              refine (Tryd.Builder_String_any _ w.heap.size acc _ HI2.out HS2.out).mono ?_
              rintro e w3 ⟨rfl, hb3⟩
              have HR3 := Lib.hid (HR2.out.keep (hb3.block p HT.out.lt))
              have HO3 := Lib.hid (only_below (HT.out.only.trans HO2.out (fun _ _ e => e)) hb3 (Nat.le_refl _))
              clear hb3
              go_wp2_with fail
              go_ret
              refine ⟨acc, q, false, rfl, HR3.out, HO3.out, .inr ⟨rfl, ?_⟩⟩
              rw [HT.out.good rfl, turnL_cons, turnL_cons, HBN.out, HB0.out, HXN.out, HX0.out, txtK_zero, if_pos rfl]
              simp
            · have HX0 := Lib.hid hx0
              have hxz := nxt_int hx0
              have hxb : ((x.toNat : Int) != 255) = !decide (x = 255) := by
                rw [Bool.eq_iff_iff]
                simp only [bne_iff_ne, ne_eq, Bool.not_eq_true', decide_eq_false_iff_not]
                constructor
                · intro h e; exact h (by rw [e]; rfl)
                · intro h e; exact h (UInt8.toNat_inj.1 (by have : (255 : UInt8).toNat = 255 := rfl; omega))
              obtain ⟨bd, hbd⟩ : ∃ bd, (!decide (x = 255)) = bd := ⟨_, rfl⟩
              rw [hbd] at hxb
              have HBD := Lib.hid hbd
              have c2 := HR2.out.cell2
              have f2 := HR2.out.free 2
              have HR3 := Lib.hid (HR2.out.mark bd)
              have HO3 := Lib.hid (HO2.out.trans (Only.cell w2 p 2 (.bool bd)) (fun _ _ e => e))
              have HI3 := Lib.hid (isB_only HI2.out (Only.cell w2 p 2 (.bool bd)) HT.out.lt)
              have HS3 : Hid (w.heap.size ≤ (w2.setCell ⟨p, 2, none⟩ (.bool bd)).heap.size) := Lib.hid (by simpa [World.setCell] using HS2.out)
              clear hx0 hbd
              go_wp2_with fail
              refine (wbyte_any _ w.heap.size _ ((0 : UInt8).toNat : Int) _ HI3.out (by rw [bytes_len]; have := HLEN.out; simp at this; omega) HS3.out).mono ?_
              rintro e w4 ⟨rfl, hu, hb4⟩
              rw [bytes_snoc] at hu
              have HT4 := Lib.hid (HT.out.zero (by rw [HBN.out, HB0.out]) (by rw [HXN.out]; exact HX0.out) (by rw [HXN.out]; exact HBD.out.symm) HR3.out HO3.out hu hb4)
              clear hu hb4 hxz hxb c2 f2
              go_wp2_with fail
              go_roundw
              case rel => exact ⟨_, _, _, HT4⟩
              case measure =>
                rw [HM.out]
                cases bd
                · rw [HT4.out.at'.m]; first | (simp; done) | (simp; omega)
                · rw [HT4.out.at'.m0]; first | omega | simp
        · have HB0 := Lib.hid hb0
          have hbz := nxt_int hb0
          clear hb0
          go_wp2_with fail
          refine (wbyte_any _ w.heap.size _ (b.toNat : Int) _ HI1.out (by rw [bytes_len]; have := HLEN.out; simp at this; omega) HS1.out).mono ?_
          rintro e w4 ⟨rfl, hu, hb4⟩
          rw [bytes_snoc] at hu
          have HT4 := Lib.hid (HT.out.own (by rw [HBN.out]; exact HB0.out) HR1.out HO1.out (by rw [HBN.out]; exact hu) hb4)
          clear hu hb4 hbz
          go_wp2_with fail
          go_roundw
          case rel => exact ⟨_, _, _, HT4⟩
          case measure =>
            rw [HM.out, HT4.out.at'.m]; simp

end Go.Proofs.YtpedcpehomkikaaDoor
