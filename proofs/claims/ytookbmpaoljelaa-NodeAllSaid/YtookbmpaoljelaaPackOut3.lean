/-
  Contracts of package pack's Out: Text. Contracts of Bytes, To and the library's bytes.Clone.
-/
import Derived.Test.YtookbmpaoljelaaPackOut2
namespace Go.Proofs.Ytookbmpaoljelaa
open Go Go.RowKit Go.Lib
set_option linter.unusedVariables false
set_option linter.unusedSimpArgs false
set_option maxRecDepth 100000

def TextPutPost (w : World) (p : Nat) (v : Value) (xs : List UInt8) (e : Ending) (w' : World) : Prop :=
  e = .returned (.bool true) ∧ ∃ v', OutV w' p v' xs ∧ (v'.ownBlock = v.ownBlock ∨ ∃ g, v'.ownBlock = some g ∧ w.heap.size ≤ g) ∧ Only (OutS p v) w w'

/-- What Text puts of s. -/
def txtB (l : List UInt8) : List UInt8 := beB 2 l.length ++ l

set_option maxHeartbeats 400000 in
theorem outText (p : Nat) (s : ByteArray) (v : Value) (xs : List UInt8) (w : World) (hO : OutV w p v xs) (hs : s.size ≤ 65535) (hlen : xs.length + 2 + s.size ≤ 140737488355328) :
    Calls Try.prog 73 #[.pointer (some ⟨p, 0, none⟩), .string s] w (TextPutPost w p v (xs ++ txtB s.data.toList)) := by
  have HO := Lib.hid hO; clear hO
  have hs' : ¬ (65535 : Int) < (s.size : Int) := by omega
  have HE : Hid (IntKind.u16.wrap (s.size : Int) = (s.size : Int)) := by show _ = _; rw [IntKind.wrap_u16]; omega
  have hne : (p : Nat) = p := rfl
  clear hne
  go_enter Try.func73, Try.ntmps73
  go_wp2_with fail
  try rw [HE.out]
  refine (outU16 p s.size v xs w HO.out (by omega) (by omega)).mono ?_
  rintro e w1 ⟨rfl, v1, hV1, hb1, ho1⟩
  have hl2 : (xs ++ beB 2 s.size).length + s.size ≤ 140737488355328 := by simp [beB_length]; omega
  obtain ⟨ys, hys⟩ : ∃ ys, ys = xs ++ beB 2 s.size := ⟨_, rfl⟩
  rw [← hys] at hV1 hl2
  have hc0 := hV1.cell
  have hf := hV1.free
  have HV1 := Lib.hid hV1; clear hV1
  have HB1 := Lib.hid hb1; clear hb1
  have HO1 := Lib.hid ho1; clear ho1
  have HY := Lib.hid hys; clear hys
  go_wp2_with (at_builtin; refine wp_text w1 p v1 ys s HV1.out hl2 rfl (.tmp 21) (.tmp 22) rfl rfl rfl rfl ?_; intro ao cap w2 c2 f2 HM)
  go_ret
  refine ⟨rfl, .slice ao (ys.length + s.size) cap, ?_, row_trans HO1.out.size HB1.out HM.out.row, put_chain HO1.out HB1.out (HM.out.only.trans (Only.cell _ _ _ _) (fun k _ e => .inl e))⟩
  have := HM.out.done
  rw [show xs ++ txtB s.data.toList = ys ++ s.data.toList by rw [HY.out]; simp [txtB]]
  exact this

theorem SlB.toC {w : World} {v : Value} {xs : List UInt8} (h : SlB w v xs) : SlC w v xs := by
  rcases h with h | ⟨g, off, cap, cur, rfl, h1, h2, h3, h4⟩
  · exact .inl h
  · exact .inr ⟨_, cap, rfl, fun j hj => by rw [add_lit]; simp [World.cell?, h3, h4 j hj]⟩
theorem own_toB {w : World} {B : Nat} {v : Value} {xs : List UInt8} (h : w.ownsRow B 5 1 v xs.length (u8s xs)) : SlB w v xs := by
  rcases h.2 with ⟨rfl, h0⟩ | ⟨g, cap, cur, rfl, _, hg, hc, hm, hs, ht⟩
  · exact .inl ⟨rfl, List.eq_nil_of_length_eq_zero h0⟩
  · refine .inr ⟨g, 0, cap, cur, rfl, hc, hm, hg, fun j hj => ?_⟩
    have h1 := u8s_at hj
    rw [← ht, List.getElem?_take, if_pos (by omega)] at h1
    simpa using h1

/-- A fresh copy: in a new block (or nil), nothing that was there is changed. -/
def ClonePost (w : World) (xs : List UInt8) (e : Ending) (w' : World) : Prop :=
  ∃ r, e = .returned r ∧ w'.ownsRow w.heap.size 5 1 r xs.length (u8s xs) ∧ Only (fun _ => False) w w'

set_option maxHeartbeats 400000 in
theorem clone_any (v : Value) (xs : List UInt8) (w : World) (h : SlC w v xs) (hlen : xs.length ≤ 140737488355328) :
    Calls Try.prog 44 #[v] w (ClonePost w xs) := by
  obtain ⟨i0, hi, hz0, hz1, hz2⟩ := info_parts Try.infoU8
  rcases h with ⟨rfl, rfl⟩ | ⟨a, cap, rfl, hc⟩
  · have hnil := fun (w : World) => Lib.run_eql_slice_nil (P := Try.prog) w 29 5 none 0 0 0 0 Try.underlying29
    go_enter Try.func44, Try.ntmps44
    go_wp2
    go_ret
    exact ⟨_, rfl, World.ownsRow_nil _ _ _ _, Only.refl _ _⟩
  · have hn : ∀ j u, (u8s xs)[j]? = some u → w.cell? (a.add j) = some u := fun j u hu => by
      obtain ⟨hj, rfl⟩ := u8s_get hu
      exact hc j hj
    have HN : Hid (∀ j u, (u8s xs)[j]? = some u → (w.alloc (.cells #[] 5)).cell? (a.add j) = some u) := fun j u hu => by
      have h1 := hn j u hu
      have hb : (a.add j).block < w.heap.size := World.block_lt_of_cell? w _ h1
      exact (World.cell?_of_block (Below.heap_alloc w _ _ hb)).trans h1
    clear hn hc
    have HL := Lib.hid hlen; clear hlen
    obtain ⟨l, hl⟩ : ∃ l, l = xs.length := ⟨_, rfl⟩
    rw [← hl]
    have HE := Lib.hid hl; clear hl
    have hnil := fun (w : World) => Lib.run_eql_slice_nil (P := Try.prog) w 29 5 (some a) l cap 0 0 Try.underlying29
    go_enter Try.func44, Try.ntmps44
    go_wp2_with (at_builtin; refine wpList_append_own _ rfl _ _ 29 rfl w.heap.size 5 i0 (.int .u8 0) 1 1 Try.underlying29 hi hz0 hz1 hz2 rfl (by decide) _ _ _ rfl (World.ownsRow_made w #[] 0 (Nat.le_refl _) (by decide) rfl) a l cap (u8s xs) rfl ?c1 HN.out (u8s_oneCell xs) ?c3 ?c4 ?c5 ?_)
    case c1 => rw [HE.out, u8s_length, Nat.mul_one]
    case c3 => have := HL.out; rw [HE.out]; unfold maxLen; omega
    case c4 => have := HL.out; rw [HE.out]; omega
    case c5 => simp
    intro v' w1 hown hg _
    have HG := Lib.hid hg; clear hg
    have HW := Lib.hid hown; clear hown
    go_wp2
    go_ret
    refine ⟨_, rfl, ?_, ((Only.refl _ w).alloc _).grown HG.out (fun k hk e => ?_)⟩
    · rw [← HE.out]; exact HW.out
    · simp [Value.ownBlock] at e; omega

set_option maxHeartbeats 400000 in
theorem outBytes (p : Nat) (v : Value) (xs : List UInt8) (w : World) (hV : OutV w p v xs) (hlen : xs.length ≤ 140737488355328) :
    Calls Try.prog 22 #[.pointer (some ⟨p, 0, none⟩)] w (ClonePost w xs) := by
  have hc := hV.cell
  have HC := Lib.hid (own_toB hV.own).toC
  clear hV
  go_enter Try.func22, Try.ntmps22
  go_wp2_with fail
  refine (clone_any v xs w HC.out hlen).mono ?_
  rintro e w1 ⟨r, rfl, hr, ho⟩
  have HR := Lib.hid hr; clear hr
  have HO := Lib.hid ho; clear ho
  go_wp2
  go_ret
  exact ⟨_, rfl, HR.out, HO.out⟩

set_option maxHeartbeats 400000 in
theorem outBytes_nil (w : World) :
    Calls Try.prog 22 #[.pointer none] w fun e w' => e = .returned (.slice none 0 0) ∧ w = w' := by
  go_enter Try.func22, Try.ntmps22
  go_wp2
  go_ret
  exact ⟨rfl, rfl⟩

def ToPost (w : World) (xs : List UInt8) (e : Ending) (w' : World) : Prop :=
  ∃ p v, e = .returned (.pointer (some ⟨p, 0, none⟩)) ∧ InV w' p v xs false ∧ w.heap.size ≤ p ∧ Only (fun _ => False) w w'

theorem SlB.alloc {w : World} {v : Value} {xs : List UInt8} (h : SlB w v xs) (o : Obj) : SlB (w.alloc o) v xs :=
  h.keep ((Only.refl (fun _ => False) w).alloc o) (fun _ _ _ h => h)

set_option maxHeartbeats 400000 in
theorem to_any (v : Value) (xs : List UInt8) (w : World) (h : SlC w v xs) (hlen : xs.length ≤ 140737488355328) :
    Calls Try.prog 28 #[v] w (ToPost w xs) := by
  have HC := Lib.hid h
  clear h
  go_enter Try.func28, Try.ntmps28
  go_wp2_with fail
  refine (clone_any v xs w HC.out hlen).mono ?_
  rintro e w1 ⟨r, rfl, hr, ho⟩
  obtain ⟨ao, cap, rfl⟩ := own_shape hr
  have HR := Lib.hid hr; clear hr
  have HO := Lib.hid ho; clear ho
  go_wp2
  go_ret
  exact ⟨w1.heap.size, _, rfl, ⟨heap_alloc_new w1 _, (own_toB HR.out).alloc _⟩, HO.out.size, HO.out.alloc _⟩

end Go.Proofs.Ytookbmpaoljelaa
