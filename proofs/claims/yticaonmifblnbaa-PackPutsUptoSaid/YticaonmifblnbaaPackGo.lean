/-
  Contracts of package pack for a caller that made its Outs and Ins itself: what was put is taken again.
-/
import Derived.Test.YticaonmifblnbaaPackTake
import Derived.Test.YticaonmifblnbaaPackWide
namespace Go.Proofs.Yticaonmifblnbaa
open Go Go.RowKit Go.Lib
set_option linter.unusedVariables false

/-- An Out that was made since w0, and nothing else changed. -/
structure OutG (w0 w : World) (p : Nat) (xs : List UInt8) : Prop where
  out : ∃ v, OutV w p v xs ∧ (v.ownBlock = .none ∨ ∃ g, v.ownBlock = some g ∧ w0.heap.size ≤ g)
  ge : w0.heap.size ≤ p
  only : Only (fun _ => False) w0 w

theorem OutG.new {w0 w : World} (h : Only (fun _ => False) w0 w) : OutG w0 (w.alloc (.cells #[.slice none 0 0] 42)) w.heap.size [] :=
  ⟨⟨_, OutV.new w, .inl rfl⟩, h.size, h.alloc _⟩

def OutGPost (w0 : World) (p : Nat) (xs : List UInt8) (e : Ending) (w' : World) : Prop := e = .returned (.tuple #[]) ∧ OutG w0 w' p xs

theorem OutG.put {w0 w : World} {p : Nat} {xs ys : List UInt8} (h : OutG w0 w p xs) {f : FuncId} {args : Array Value} (hc : ∀ v, OutV w p v xs → Calls Try.prog f args w (PutPost w p v ys)) : Calls Try.prog f args w (OutGPost w0 p ys) := by
  obtain ⟨v, hV, hv⟩ := h.out
  refine (hc v hV).mono ?_
  rintro e w' ⟨rfl, v', hV', hr, ho⟩
  exact ⟨rfl, ⟨v', hV', row_ge h.only.size hv hr⟩, h.ge, h.only.none ho (OutS.ge h.ge hv)⟩

theorem goU64 {w0 w : World} {p : Nat} {xs : List UInt8} (h : OutG w0 w p xs) (x : Nat) (hx : x < 18446744073709551616) (hl : xs.length + 8 ≤ 140737488355328) :
    Calls Try.prog 22 #[.pointer (some ⟨p, 0, none⟩), .int .u64 x] w (OutGPost w0 p (xs ++ beB 8 x)) := h.put (fun v hV => outU64 p x v xs w hV hx hl)
theorem goU32 {w0 w : World} {p : Nat} {xs : List UInt8} (h : OutG w0 w p xs) (x : Nat) (hx : x < 4294967296) (hl : xs.length + 4 ≤ 140737488355328) :
    Calls Try.prog 26 #[.pointer (some ⟨p, 0, none⟩), .int .u32 x] w (OutGPost w0 p (xs ++ beB 4 x)) := h.put (fun v hV => outU32 p x v xs w hV hx hl)
theorem goU16 {w0 w : World} {p : Nat} {xs : List UInt8} (h : OutG w0 w p xs) (x : Nat) (hx : x < 65536) (hl : xs.length + 2 ≤ 140737488355328) :
    Calls Try.prog 33 #[.pointer (some ⟨p, 0, none⟩), .int .u16 x] w (OutGPost w0 p (xs ++ beB 2 x)) := h.put (fun v hV => outU16 p x v xs w hV hx hl)
theorem goU8 {w0 w : World} {p : Nat} {xs : List UInt8} (h : OutG w0 w p xs) (x : Nat) (hx : x < 256) (hl : xs.length + 1 ≤ 140737488355328) :
    Calls Try.prog 23 #[.pointer (some ⟨p, 0, none⟩), .int .u8 x] w (OutGPost w0 p (xs ++ beB 1 x)) := h.put (fun v hV => outU8 p x v xs w hV hx hl)
theorem goFlag {w0 w : World} {p : Nat} {xs : List UInt8} (h : OutG w0 w p xs) (b : Bool) (hl : xs.length + 1 ≤ 140737488355328) :
    Calls Try.prog 24 #[.pointer (some ⟨p, 0, none⟩), .bool b] w (OutGPost w0 p (xs ++ flagB b)) := h.put (fun v hV => outFlag p b v xs w hV hl)
def OutTPost (w0 : World) (p : Nat) (xs : List UInt8) (e : Ending) (w' : World) : Prop := e = .returned (.bool true) ∧ OutG w0 w' p xs
theorem goText {w0 w : World} {p : Nat} {xs : List UInt8} (h : OutG w0 w p xs) (s : ByteArray) (hs : s.size ≤ 65535) (hl : xs.length + 2 + s.size ≤ 140737488355328) :
    Calls Try.prog 25 #[.pointer (some ⟨p, 0, none⟩), .string s] w (OutTPost w0 p (xs ++ txtB s.data.toList)) := by
  obtain ⟨v, hV, hv⟩ := h.out
  refine (outText p s v xs w hV hs hl).mono ?_
  rintro e w' ⟨rfl, v', hV', hr, ho⟩
  exact ⟨rfl, ⟨v', hV', row_ge h.only.size hv hr⟩, h.ge, h.only.none ho (OutS.ge h.ge hv)⟩
theorem OutG.quiet {w0 w w' : World} {p : Nat} {xs : List UInt8} (h : OutG w0 w p xs) (ho : Only (fun _ => False) w w') : OutG w0 w' p xs := by
  obtain ⟨v, hV, hv⟩ := h.out
  exact ⟨⟨v, hV.keep ho (fun h => h) (fun _ _ h => h), hv⟩, h.ge, h.only.trans ho (fun _ _ h => h)⟩

/-- Bytes: a slice in new memory with these bytes. -/
def BytesPost (w0 w : World) (p : Nat) (xs : List UInt8) (e : Ending) (w' : World) : Prop :=
  ∃ ao cap, e = .returned (.slice ao xs.length cap) ∧ w'.ownsRow w.heap.size 5 1 (.slice ao xs.length cap) xs.length (u8s xs) ∧ OutG w0 w' p xs ∧ Only (fun _ => False) w w'
theorem goBytes {w0 w : World} {p : Nat} {xs : List UInt8} (h : OutG w0 w p xs) (hl : xs.length ≤ 140737488355328) :
    Calls Try.prog 27 #[.pointer (some ⟨p, 0, none⟩)] w (BytesPost w0 w p xs) := by
  obtain ⟨v, hV, hv⟩ := h.out
  refine (outBytes p v xs w hV hl).mono ?_
  rintro e w' ⟨r, rfl, hr, ho⟩
  obtain ⟨ao, cap, rfl⟩ := own_shape hr
  exact ⟨ao, cap, rfl, hr, h.quiet ho, ho⟩

/-- An In that was made since w0. -/
structure InG (w0 w : World) (p : Nat) (xs : List UInt8) (bd : Bool) : Prop where
  inn : ∃ v, InV w p v xs bd
  ge : w0.heap.size ≤ p
  only : Only (fun _ => False) w0 w

theorem InG.of {w0 w w' : World} {p : Nat} {xs ys : List UInt8} {bd bd' : Bool} {v : Value} (h : InG w0 w p xs bd) (hI : InV w' p v ys bd') (ho : Only (fun k => k = p) w w') : InG w0 w' p ys bd' :=
  ⟨⟨v, hI⟩, h.ge, h.only.none ho (fun k e => e ▸ h.ge)⟩
theorem InG.quiet {w0 w w' : World} {p : Nat} {xs : List UInt8} {bd : Bool} (h : InG w0 w p xs bd) (ho : Only (fun _ => False) w w') : InG w0 w' p xs bd := by
  obtain ⟨v, hI⟩ := h.inn
  exact ⟨⟨v, hI.keep ho (fun h => h) (fun _ _ _ h => h)⟩, h.ge, h.only.trans ho (fun _ _ h => h)⟩

theorem take_be {n x : Nat} {ys : List UInt8} : nextR n (beB n x ++ ys) false = beB n x ∧ nextL n (beB n x ++ ys) false = ys ∧ (!can n (beB n x ++ ys) false) = false := by
  have h := next_ok_eq (n := n) (xs := beB n x ++ ys) (by simp [beB_length])
  have h1 : (beB n x ++ ys).take n = beB n x := by
    rw [List.take_append_of_le_length (by rw [beB_length]; exact Nat.le_refl _)]
    exact List.take_of_length_le (by rw [beB_length]; exact Nat.le_refl _)
  have h2 : (beB n x ++ ys).drop n = ys := by
    rw [List.drop_append_of_le_length (by rw [beB_length]; exact Nat.le_refl _), List.drop_of_length_le (by rw [beB_length]; exact Nat.le_refl _), List.nil_append]
  rw [h1, h2] at h
  exact h

theorem giU64 {w0 w : World} {p x : Nat} {ys : List UInt8} (h : InG w0 w p (beB 8 x ++ ys) false) (hx : x < 18446744073709551616) :
    Calls Try.prog 28 #[.pointer (some ⟨p, 0, none⟩)] w fun e w' => e = .returned (.int .u64 x) ∧ InG w0 w' p ys false ∧ Only (fun k => k = p) w w' := by
  obtain ⟨v, hI⟩ := h.inn
  refine (inU64 p v _ false w hI).mono ?_
  rintro e w' ⟨v', rfl, hI', ho⟩
  obtain ⟨e1, e2, e3⟩ := take_be (n := 8) (x := x) (ys := ys)
  rw [e2, e3] at hI'
  refine ⟨?_, h.of hI' ho, ho⟩
  rw [e1, numB_be]
  congr 3
  omega
theorem giU8 {w0 w : World} {p x : Nat} {ys : List UInt8} (h : InG w0 w p (beB 1 x ++ ys) false) (hx : x < 256) :
    Calls Try.prog 29 #[.pointer (some ⟨p, 0, none⟩)] w fun e w' => e = .returned (.int .u8 x) ∧ InG w0 w' p ys false ∧ Only (fun k => k = p) w w' := by
  obtain ⟨v, hI⟩ := h.inn
  refine (inU8 p v _ false w hI).mono ?_
  rintro e w' ⟨v', rfl, hI', ho⟩
  obtain ⟨e1, e2, e3⟩ := take_be (n := 1) (x := x) (ys := ys)
  rw [e2, e3] at hI'
  refine ⟨?_, h.of hI' ho, ho⟩
  rw [e1, numB_be]
  congr 3
  omega
theorem giFlag {w0 w : World} {p : Nat} {f : Bool} {ys : List UInt8} (h : InG w0 w p (flagB f ++ ys) false) :
    Calls Try.prog 30 #[.pointer (some ⟨p, 0, none⟩)] w fun e w' => e = .returned (.bool f) ∧ InG w0 w' p ys false ∧ Only (fun k => k = p) w w' := by
  obtain ⟨v, hI⟩ := h.inn
  refine (inFlag p v _ false w hI).mono ?_
  rintro e w' ⟨v', rfl, hI', ho⟩
  have e1 : flagR (flagB f ++ ys) false = f := by cases f <;> simp [flagR, flagOk, can, flagB]
  have e2 : flagL (flagB f ++ ys) false = ys := by cases f <;> simp [flagL, flagOk, can, flagB]
  have e3 : (!flagOk (flagB f ++ ys) false) = false := by cases f <;> simp [flagOk, can, flagB]
  rw [e2, e3] at hI'
  exact ⟨by rw [e1], h.of hI' ho, ho⟩
theorem txt_eq {l ys : List UInt8} (hl : l.length ≤ 65535) : txtR (txtB l ++ ys) false = l ∧ txtL (txtB l ++ ys) false = ys ∧ (!txtOk (txtB l ++ ys) false) = false := by
  have hb : (beB 2 l.length).length = 2 := beB_length 2 _
  have ha : txtB l ++ ys = beB 2 l.length ++ (l ++ ys) := by simp [txtB]
  have h1 : (txtB l ++ ys).take 2 = beB 2 l.length := by
    rw [ha, List.take_append_of_le_length (by omega)]
    exact List.take_of_length_le (by omega)
  have h2 : (txtB l ++ ys).drop 2 = l ++ ys := by
    rw [ha, List.drop_append_of_le_length (by omega), List.drop_of_length_le (by omega), List.nil_append]
  have hn : txtN (txtB l ++ ys) = l.length := by unfold txtN; rw [h1, numB_be]; omega
  have hok : txtOk (txtB l ++ ys) false = true := by
    unfold txtOk
    rw [hn, h2]
    simp [can, txtB, hb]
  refine ⟨?_, ?_, by rw [hok]; rfl⟩
  · unfold txtR; rw [hok, if_pos rfl, h2, hn]; simp
  · unfold txtL; rw [hok, if_pos rfl, h2, hn]; simp
theorem giText {w0 w : World} {p : Nat} {l ys : List UInt8} (h : InG w0 w p (txtB l ++ ys) false) (hl : l.length ≤ 65535) :
    Calls Try.prog 31 #[.pointer (some ⟨p, 0, none⟩)] w fun e w' => e = .returned (.string ⟨l.toArray⟩) ∧ InG w0 w' p ys false ∧ Only (fun k => k = p) w w' := by
  obtain ⟨v, hI⟩ := h.inn
  refine (inText p v _ false w hI).mono ?_
  rintro e w' ⟨v', rfl, hI', ho⟩
  obtain ⟨e1, e2, e3⟩ := txt_eq (l := l) (ys := ys) hl
  rw [e2, e3] at hI'
  exact ⟨by rw [e1], h.of hI' ho, ho⟩

/-- An In, and a slice that lies elsewhere. -/
structure InB (w0 w : World) (p : Nat) (xs : List UInt8) (v : Value) (bs : List UInt8) : Prop where
  ing : InG w0 w p xs false
  sl : SlB w v bs
theorem InB.of {w0 w w' : World} {p : Nat} {xs ys : List UInt8} {v : Value} {bs : List UInt8} (h : InB w0 w p xs v bs) (hI : InG w0 w' p ys false) (ho : Only (fun k => k = p) w w') : InB w0 w' p ys v bs :=
  ⟨hI, h.sl.keep ho (fun k cur hk e => by
    obtain ⟨u, hu⟩ := h.ing.inn
    subst e
    have := hu.at'
    rw [hk] at this
    simp at this)⟩
theorem InB.quiet {w0 w w' : World} {p : Nat} {xs : List UInt8} {v : Value} {bs : List UInt8} (h : InB w0 w p xs v bs) (ho : Only (fun _ => False) w w') : InB w0 w' p xs v bs :=
  ⟨h.ing.quiet ho, h.sl.keep ho (fun _ _ _ h => h)⟩
theorem ibU64 {w0 w : World} {p x : Nat} {ys : List UInt8} {v : Value} {bs : List UInt8} (h : InB w0 w p (beB 8 x ++ ys) v bs) (hx : x < 18446744073709551616) :
    Calls Try.prog 28 #[.pointer (some ⟨p, 0, none⟩)] w fun e w' => e = .returned (.int .u64 x) ∧ InB w0 w' p ys v bs :=
  (giU64 h.ing hx).mono fun e w' ⟨he, hi, ho⟩ => ⟨he, h.of hi ho⟩
theorem ibU8 {w0 w : World} {p x : Nat} {ys : List UInt8} {v : Value} {bs : List UInt8} (h : InB w0 w p (beB 1 (x % 256) ++ ys) v bs) :
    Calls Try.prog 29 #[.pointer (some ⟨p, 0, none⟩)] w fun e w' => e = .returned (.int .u8 ((x : Int) % 256)) ∧ InB w0 w' p ys v bs :=
  (giU8 h.ing (by omega)).mono fun e w' ⟨he, hi, ho⟩ => ⟨by rw [he]; congr 2, h.of hi ho⟩
theorem ibFlag {w0 w : World} {p x : Nat} {ys : List UInt8} {v : Value} {bs : List UInt8} (h : InB w0 w p (flagB (x % 2 == 1) ++ ys) v bs) :
    Calls Try.prog 30 #[.pointer (some ⟨p, 0, none⟩)] w fun e w' => e = .returned (.bool ((x : Int) % 2 == 1)) ∧ InB w0 w' p ys v bs :=
  (giFlag h.ing).mono fun e w' ⟨he, hi, ho⟩ => ⟨by rw [he]; congr 2; rw [Bool.eq_iff_iff]; simp; omega, h.of hi ho⟩
theorem ibText {w0 w : World} {p : Nat} {t : ByteArray} {ys : List UInt8} {v : Value} {bs : List UInt8} (h : InB w0 w p (txtB t.data.toList ++ ys) v bs) (hl : t.size ≤ 65535) :
    Calls Try.prog 31 #[.pointer (some ⟨p, 0, none⟩)] w fun e w' => e = .returned (.string t) ∧ InB w0 w' p ys v bs :=
  (giText h.ing (by rw [Array.length_toList]; exact hl)).mono fun e w' ⟨he, hi, ho⟩ => ⟨by rw [he], h.of hi ho⟩

end Go.Proofs.Yticaonmifblnbaa
