/-
  Messages and what they make of entries: plain functions on values, states and entries, and their laws (nothing is walked here).
-/
import Derived.Test.YtookbmpaoljelaaBeB
namespace Go.Proofs.Ytookbmpaoljelaa
open Go Go.RowKit
set_option linter.unusedVariables false
set_option linter.unusedSimpArgs false
set_option maxRecDepth 100000

/-- A value, if it is there. -/
structure Mv where
  t : Bool
  b : ByteArray
abbrev Mv.no : Mv := ⟨false, ⟨#[]⟩⟩
/-- A message. -/
structure Ms where
  sq : Int
  K : Int
  k : ByteArray
  x : Int
  v : ByteArray
  off : Int
  num : Int
instance : Inhabited Ms := ⟨⟨0, 0, ⟨#[]⟩, 0, ⟨#[]⟩, 0, 0⟩⟩
/-- An entry. -/
structure En where
  k : ByteArray
  h : Bool
  v : ByteArray
  x : Int
  n : Bool
  nv : ByteArray
/-- What an entry says. -/
structure St where
  c : Mv
  x : Int
  m : Mv

def addL (l : List UInt8) (off num : Nat) : List UInt8 := l.take off ++ (beB 8 (numB ((l.drop off).take 8) + num) ++ l.drop (off + 8))
def growL (l v : List UInt8) : List UInt8 := UInt8.ofNat ((l.getD 0 0).toNat + 1) :: (l.drop 1 ++ v)
def Mv.add (v : Mv) (m : Ms) : Mv := if (v.b.size : Int) - 8 < m.off then v else ⟨true, ⟨(addL v.b.toList m.off.toNat m.num.toNat).toArray⟩⟩
def Mv.grow (v : Mv) (m : Ms) : Mv :=
  if v.b.size = 0 then v else if ((v.b.toList.getD 0 0).toNat : Int) ≠ m.off then v else if 512 < v.b.size + m.v.size then v else ⟨true, ⟨(growL v.b.toList m.v.toList).toArray⟩⟩
def chg (v : Mv) (m : Ms) : Mv := if m.K = 1 then ⟨true, m.v⟩ else if m.K = 2 then Mv.no else if m.K = 3 then v.add m else v.grow m
def valOf (t : Bool) (b : ByteArray) : Mv := if t then ⟨true, b⟩ else Mv.no
def St.view (s : St) (x : Int) : Mv := if x ≠ 0 ∧ s.x = x then s.m else s.c
def St.changed (s : St) (m : Ms) : St :=
  if m.x = 0 then ⟨chg s.c m, s.x, s.m⟩ else if s.x = 0 ∨ s.x = m.x then ⟨s.c, m.x, chg (s.view m.x) m⟩ else s
def St.grown (s : St) (m : Ms) : St := ⟨chg s.c m, s.x, chg s.m m⟩
def St.ended (s : St) (x : Int) (v : Mv) : St := if x = 0 ∨ s.x ≠ x then s else ⟨v, 0, Mv.no⟩
def St.after (s : St) (m : Ms) : St :=
  if m.K = 3 then (if m.off < 0 then s else s.changed m) else if m.K = 1 ∨ m.K = 2 then s.changed m else if m.K = 4 then s.grown m else if m.K = 5 then s.ended m.x s.m else if m.K = 6 then s.ended m.x s.c else s
def En.st (e : En) : St := ⟨valOf e.h e.v, e.x, if e.x ≠ 0 then valOf e.n e.nv else Mv.no⟩
def St.en (s : St) (k : ByteArray) : En := ⟨k, s.c.t, s.c.b, s.x, s.m.t, s.m.b⟩
def applyE (e : En) (m : Ms) : En := (e.st.after m).en e.k
def goneE (e : En) : Bool := !e.h && decide (e.x = 0)
def viewE (e : En) (x : Int) : Mv := e.st.view x
def isFor (k : ByteArray) (m : Ms) : Bool := decide (m.K = 4) || (m.k.toList == k.toList)
def foldE : En → List Ms → En
  | e, [] => e
  | e, m :: l => foldE (if isFor e.k m = true then applyE e m else e) l
def checkE (m : Ms) : Int :=
  if m.K < 1 ∨ 6 < m.K then 1 else if 256 < m.k.size ∨ 512 < m.v.size then 7 else
  if (if m.K = 1 then decide (m.off = 0 ∧ m.num = 0) else if m.K = 2 then decide (m.off = 0 ∧ m.num = 0 ∧ m.v.size = 0) else if m.K = 3 then decide (0 ≤ m.off ∧ m.off ≤ 504 ∧ m.v.size = 0) else
    if m.K = 4 then decide (0 ≤ m.off ∧ m.off ≤ 254 ∧ m.num = 0 ∧ m.k.size = 0 ∧ m.x = 0) else decide (m.off = 0 ∧ m.num = 0 ∧ m.v.size = 0 ∧ m.x ≠ 0)) = true then 0 else 1

/-! ### States in their plain form -/
def Mv.Ok (v : Mv) : Prop := v.t = false → v.b = ⟨#[]⟩
structure St.Ok (s : St) : Prop where
  c : s.c.Ok
  m : s.m.Ok
  z : s.x = 0 → s.m = Mv.no
theorem Mv.no_ok : Mv.no.Ok := fun _ => rfl
theorem valOf_ok (t : Bool) (b : ByteArray) : (valOf t b).Ok := by
  cases t with
  | false => exact fun _ => rfl
  | true => intro h; cases h
theorem valOf_of {v : Mv} (h : v.Ok) : valOf v.t v.b = v := by
  obtain ⟨t, b⟩ := v
  cases t with
  | false =>
    have := h rfl
    simp only at this
    subst this
    rfl
  | true => rfl
theorem st_ok (e : En) : e.st.Ok := by
  refine ⟨valOf_ok _ _, ?_, fun h => ?_⟩
  · show (if e.x ≠ 0 then valOf e.n e.nv else Mv.no).Ok
    split
    · exact valOf_ok _ _
    · exact Mv.no_ok
  · show (if e.x ≠ 0 then valOf e.n e.nv else Mv.no) = _
    rw [if_neg (fun k => k h)]
theorem st_en {s : St} (h : s.Ok) (k : ByteArray) : (s.en k).st = s := by
  obtain ⟨c, x, m⟩ := s
  unfold En.st St.en
  simp only
  rw [valOf_of h.c]
  by_cases hx : x = 0
  · rw [if_neg (by simpa using hx), show m = Mv.no from h.z hx]
  · rw [if_pos hx, valOf_of h.m]
theorem empty_size {b : ByteArray} (h : b = ⟨#[]⟩) : b.size = 0 := by subst h; rfl
theorem add_ok {v : Mv} {m : Ms} (h : v.Ok) : (v.add m).Ok := by
  unfold Mv.add
  split
  · exact h
  · intro h; cases h
theorem grow_ok {v : Mv} {m : Ms} (h : v.Ok) : (v.grow m).Ok := by
  unfold Mv.grow
  split
  · exact h
  · split
    · exact h
    · split
      · exact h
      · intro h; cases h
theorem chg_ok {v : Mv} {m : Ms} (h : v.Ok) : (chg v m).Ok := by
  unfold chg
  split
  · intro h; cases h
  · split
    · exact Mv.no_ok
    · split
      · exact add_ok h
      · exact grow_ok h
theorem view_ok {s : St} (h : s.Ok) (x : Int) : (s.view x).Ok := by
  unfold St.view
  split
  · exact h.m
  · exact h.c
theorem grow_no (m : Ms) : Mv.no.grow m = Mv.no := by unfold Mv.grow; rw [if_pos (by rfl)]
theorem changed_ok {s : St} {m : Ms} (h : s.Ok) : (s.changed m).Ok := by
  unfold St.changed
  split
  · exact ⟨chg_ok h.c, h.m, h.z⟩
  · rename_i h0
    split
    · exact ⟨h.c, chg_ok (view_ok h _), fun e => absurd e h0⟩
    · exact h
theorem ended_ok {s : St} {x : Int} {v : Mv} (h : s.Ok) (hv : v.Ok) : (s.ended x v).Ok := by
  unfold St.ended
  split
  · exact h
  · exact ⟨hv, Mv.no_ok, fun _ => rfl⟩
theorem grown_ok {s : St} {m : Ms} (h : s.Ok) (h4 : m.K = 4) : (s.grown m).Ok := by
  refine ⟨chg_ok h.c, chg_ok h.m, fun e => ?_⟩
  show chg s.m m = _
  rw [h.z e]
  unfold chg
  rw [if_neg (by omega), if_neg (by omega), if_neg (by omega), grow_no]
theorem after_ok {s : St} {m : Ms} (h : s.Ok) : (s.after m).Ok := by
  unfold St.after
  split
  · split
    · exact h
    · exact changed_ok h
  · split
    · exact changed_ok h
    · split
      · rename_i h4; exact grown_ok h h4
      · split
        · exact ended_ok h h.m
        · split
          · exact ended_ok h h.c
          · exact h
theorem apply_st (e : En) (m : Ms) : (applyE e m).st = e.st.after m := st_en (after_ok (st_ok e)) _
theorem apply_k (e : En) (m : Ms) : (applyE e m).k = e.k := rfl
/-- An entry in its plain form. -/
def En.Ok (e : En) : Prop := e = e.st.en e.k
theorem apply_ok (e : En) (m : Ms) : (applyE e m).Ok := by
  show applyE e m = (applyE e m).st.en (applyE e m).k
  rw [apply_st, apply_k]
  rfl
theorem en_eq {a b : En} (ha : a.Ok) (hb : b.Ok) (hk : a.k = b.k) (hs : a.st = b.st) : a = b := by
  rw [ha, hb, hk, hs]
theorem fold_k : ∀ (l : List Ms) (e : En), (foldE e l).k = e.k
  | [], e => rfl
  | m :: l, e => by
    rw [foldE, fold_k l]
    split <;> rfl
theorem fold_ok : ∀ (l : List Ms) (e : En), e.Ok → (foldE e l).Ok
  | [], e, h => h
  | m :: l, e, h => by
    rw [foldE]
    refine fold_ok l _ ?_
    split
    · exact apply_ok _ _
    · exact h
theorem fold_append : ∀ (a b : List Ms) (e : En), foldE e (a ++ b) = foldE (foldE e a) b
  | [], b, e => rfl
  | m :: a, b, e => by rw [List.cons_append, foldE, foldE, fold_append a b]
theorem fold_own : ∀ (l : List Ms) (e : En), foldE e (l.filter (isFor e.k)) = foldE e l
  | [], e => rfl
  | m :: l, e => by
    rw [List.filter_cons]
    by_cases h : isFor e.k m = true
    · rw [if_pos h, foldE, foldE, if_pos h]
      exact fold_own l (applyE e m)
    · rw [if_neg h, foldE, if_neg h]
      exact fold_own l e

/-! ### Bytes -/
theorem mk_toList (l : List UInt8) : (ByteArray.mk l.toArray).toList = l := ByteArray.toList_mk l
theorem ba_len (s : ByteArray) : s.toList.length = s.size := by rw [ByteArray.toList_eq]; rfl
theorem mk_size (l : List UInt8) : (ByteArray.mk l.toArray).size = l.length := by rw [← ba_len, mk_toList]
theorem ba_ext {a b : ByteArray} (h : a.toList = b.toList) : a = b := by
  rw [ByteArray.toList_eq, ByteArray.toList_eq] at h
  obtain ⟨⟨x⟩⟩ := a
  obtain ⟨⟨y⟩⟩ := b
  simp only at h
  rw [h]
theorem addL_length (l : List UInt8) (off num : Nat) (h : off + 8 ≤ l.length) : (addL l off num).length = l.length := by
  unfold addL
  simp only [List.length_append, List.length_take, List.length_drop, beB_length]
  omega
theorem addL_parts (l : List UInt8) (off num : Nat) (h : off + 8 ≤ l.length) : (addL l off num).take off = l.take off ∧ ((addL l off num).drop off).take 8 = beB 8 (numB ((l.drop off).take 8) + num) ∧ (addL l off num).drop (off + 8) = l.drop (off + 8) := by
  have h1 : (l.take off).length = off := by rw [List.length_take]; omega
  have h2 : (addL l off num).drop off = beB 8 (numB ((l.drop off).take 8) + num) ++ l.drop (off + 8) := List.drop_left' h1
  refine ⟨List.take_left' h1, ?_, ?_⟩
  · rw [h2]
    exact List.take_left' (beB_length _ _)
  · rw [← List.drop_drop, h2]
    exact List.drop_left' (beB_length _ _)
theorem addL_add (l : List UInt8) (off x y : Nat) (h : off + 8 ≤ l.length) : addL (addL l off x) off y = addL l off ((x + y) % 18446744073709551616) := by
  obtain ⟨h1, h2, h3⟩ := addL_parts l off x h
  rw [addL, h1, h2, h3]
  show _ = l.take off ++ (beB 8 (numB ((l.drop off).take 8) + (x + y) % 18446744073709551616) ++ l.drop (off + 8))
  congr 2
  refine beB_mod 8 _ _ ?_
  rw [numB_be]
  show ((numB ((l.drop off).take 8) + x) % 18446744073709551616 + y) % 18446744073709551616 = (numB ((l.drop off).take 8) + (x + y) % 18446744073709551616) % 18446744073709551616
  omega

/-! ### The laws -/
theorem mv_add_size {v : Mv} {m : Ms} (h0 : 0 ≤ m.off) : (v.add m).b.size = v.b.size := by
  unfold Mv.add
  split
  · rfl
  · rename_i h
    rw [mk_size, addL_length _ _ _ (by rw [ba_len]; omega), ba_len]
theorem mv_add_add {v : Mv} {m n b : Ms} (h0 : 0 ≤ m.off) (h1 : n.off = m.off) (h2 : b.off = m.off) (hx : 0 ≤ m.num) (hy : 0 ≤ n.num) (hb : b.num = (m.num + n.num) % 18446744073709551616) : (v.add m).add n = v.add b := by
  have hs := mv_add_size (v := v) h0
  by_cases h : (v.b.size : Int) - 8 < m.off
  · have e : v.add m = v := if_pos h
    rw [e]
    unfold Mv.add
    rw [if_pos (by omega), if_pos (by omega)]
  · have e : v.add m = ⟨true, ⟨(addL v.b.toList m.off.toNat m.num.toNat).toArray⟩⟩ := if_neg h
    have e2 : (v.add m).add n = ⟨true, ⟨(addL (v.add m).b.toList n.off.toNat n.num.toNat).toArray⟩⟩ := if_neg (by rw [hs]; omega)
    have e3 : v.add b = ⟨true, ⟨(addL v.b.toList b.off.toNat b.num.toNat).toArray⟩⟩ := if_neg (by omega)
    rw [e2, e3, e, mk_toList, h1, h2, addL_add _ _ _ _ (by rw [ba_len]; omega), hb]
    congr 4
    omega
theorem mv_grow_twice {v : Mv} {m : Ms} (h0 : 0 ≤ m.off) (h1 : m.off < 255) : (v.grow m).grow m = v.grow m := by
  by_cases a1 : v.b.size = 0
  · have e : v.grow m = v := if_pos a1
    rw [e, e]
  by_cases a2 : ((v.b.toList.getD 0 0).toNat : Int) ≠ m.off
  · have e : v.grow m = v := by unfold Mv.grow; rw [if_neg a1, if_pos a2]
    rw [e, e]
  by_cases a3 : 512 < v.b.size + m.v.size
  · have e : v.grow m = v := by unfold Mv.grow; rw [if_neg a1, if_neg a2, if_pos a3]
    rw [e, e]
  · have e : v.grow m = ⟨true, ⟨(growL v.b.toList m.v.toList).toArray⟩⟩ := by unfold Mv.grow; rw [if_neg a1, if_neg a2, if_neg a3]
    rw [e]
    unfold Mv.grow
    rw [if_neg (by rw [mk_size]; simp [growL]), if_pos]
    rw [mk_toList]
    show ((UInt8.ofNat ((v.b.toList.getD 0 0).toNat + 1)).toNat : Int) ≠ m.off
    have h3 : ((v.b.toList.getD 0 0).toNat : Int) = m.off := by simpa using a2
    have h4 : (UInt8.ofNat ((v.b.toList.getD 0 0).toNat + 1)).toNat = (v.b.toList.getD 0 0).toNat + 1 := by
      rw [UInt8.toNat_ofNat']
      exact Nat.mod_eq_of_lt (by omega)
    omega
theorem chg4 {v : Mv} {m : Ms} (h : m.K = 4) : chg v m = v.grow m := by unfold chg; rw [if_neg (by omega), if_neg (by omega), if_neg (by omega)]
theorem chg3 {v : Mv} {m : Ms} (h : m.K = 3) : chg v m = v.add m := by unfold chg; rw [if_neg (by omega), if_neg (by omega), if_pos h]
theorem after4 {s : St} {m : Ms} (h : m.K = 4) : s.after m = ⟨s.c.grow m, s.x, s.m.grow m⟩ := by
  unfold St.after St.grown; rw [if_neg (by omega), if_neg (by omega), if_pos h, chg4 h, chg4 h]
theorem after5 {s : St} {m : Ms} (h : m.K = 5) : s.after m = s.ended m.x s.m := by
  unfold St.after; rw [if_neg (by omega), if_neg (by omega), if_neg (by omega), if_pos h]
theorem after6 {s : St} {m : Ms} (h : m.K = 6) : s.after m = s.ended m.x s.c := by
  unfold St.after; rw [if_neg (by omega), if_neg (by omega), if_neg (by omega), if_neg (by omega), if_pos h]
theorem after0 {s : St} {m : Ms} (h : m.K < 1 ∨ 6 < m.K) : s.after m = s := by
  unfold St.after; rw [if_neg (by omega), if_neg (by omega), if_neg (by omega), if_neg (by omega), if_neg (by omega)]
theorem after123 {s : St} {m : Ms} (h1 : 1 ≤ m.K) (h3 : m.K ≤ 3) (h0 : 0 ≤ m.off) : s.after m = s.changed m := by
  unfold St.after
  by_cases h : m.K = 3
  · rw [if_pos h, if_neg (by omega)]
  · rw [if_neg h, if_pos (by omega)]
theorem after3 {s : St} {m : Ms} (h : m.K = 3) (hx : m.x = 0) : s.after m = if m.off < 0 then s else ⟨s.c.add m, s.x, s.m⟩ := by
  unfold St.after St.changed; rw [if_pos h, if_pos hx, chg3 h]
/-- A Grow ahead of a Commit of the one who has touched the entry, or behind it. -/
theorem grow_commit {s : St} {g c : Ms} (hs : s.Ok) (hg : g.K = 4) (hc : c.K = 5) (hx : c.x = s.x) : (s.after g).after c = (s.after c).after g := by
  rw [after4 hg, after5 hc, after5 hc, after4 hg]
  unfold St.ended
  by_cases h0 : c.x = 0
  · rw [if_pos (.inl h0), if_pos (.inl h0)]
  · rw [if_neg (fun e => e.elim h0 (fun e => e hx.symm)), if_neg (fun e => e.elim h0 (fun e => e hx.symm))]
    simp only [grow_no]
theorem grow_twice {s : St} {g : Ms} (hg : g.K = 4) (h0 : 0 ≤ g.off) (h1 : g.off < 255) : (s.after g).after g = s.after g := by
  rw [after4 hg, after4 hg, mv_grow_twice h0 h1, mv_grow_twice h0 h1]
theorem add_add {s : St} {m n b : Ms} (hm : m.K = 3) (hn : n.K = 3) (hb : b.K = 3) (m0 : m.x = 0) (n0 : n.x = 0) (b0 : b.x = 0) (h1 : n.off = m.off) (h2 : b.off = m.off) (hx : 0 ≤ m.num) (hy : 0 ≤ n.num) (hbn : b.num = (m.num + n.num) % 18446744073709551616) :
    (s.after m).after n = s.after b := by
  rw [after3 hm m0, after3 hn n0, after3 hb b0]
  by_cases h : m.off < 0
  · rw [if_pos h, if_pos (by omega), if_pos (by omega)]
  · rw [if_neg h, if_neg (by omega), if_neg (by omega), mv_add_add (by omega) h1 h2 hx hy hbn]

end Go.Proofs.Ytookbmpaoljelaa
