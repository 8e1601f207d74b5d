/-
  Package node's putter: how the parts of a node are laid. (Written by wip/tools/gennode7.py.)
-/
import Derived.Test.YtookbmpaoljelaaNodeOut
import Derived.Test.YtookbmpaoljelaaNode1
import Derived.Test.YtookbmpaoljelaaSepAc
import Derived.IntWalk
namespace Go.Proofs.Ytookbmpaoljelaa
open Go Go.RowKit
set_option linter.unusedVariables false
set_option linter.unusedSimpArgs false
set_option maxRecDepth 100000

/-- An entry, a message that may be laid. -/
structure EnF (e : En) : Prop where
  k : e.k.size ≤ 512
  v : e.v.size ≤ 512
  n : e.nv.size ≤ 512
  x : NumW e.x
structure MsF (m : Ms) : Prop where
  k : m.k.size ≤ 512
  v : m.v.size ≤ 512
  w : MsW m
  K0 : 0 ≤ m.K
  K1 : m.K < 256
  o0 : 0 ≤ m.off
  o1 : m.off < 65536
theorem txtB_len (s : ByteArray) : (txtB s.toList).length = 2 + s.size := by
  have : s.toList.length = s.size := by rw [ByteArray.toList_eq]; rfl
  simp [txtB, beB_length, this]
theorem flagB_len (b : Bool) : (flagB b).length = 1 := by cases b <;> rfl
theorem encE_len {e : En} (h : EnF e) : (encE e).length ≤ 1600 := by
  have h1 := h.k
  have h2 := h.v
  have h3 := h.n
  simp only [encE, List.length_append, txtB_len, flagB_len, beB_length]
  omega
theorem encM_len {m : Ms} (h : MsF m) : (encM m).length ≤ 1600 := by
  have h1 := h.k
  have h2 := h.v
  simp only [encM, List.length_append, txtB_len, flagB_len, beB_length]
  omega
theorem flat_len {α : Type} {f : α → List UInt8} {b : Nat} : ∀ (l : List α), (∀ a ∈ l, (f a).length ≤ b) → (l.flatMap f).length ≤ l.length * b
  | [], _ => by simp
  | a :: l, h => by
    have h1 := h a (by simp)
    have h2 := flat_len l (fun x hx => h x (by simp [hx]))
    rw [List.flatMap_cons, List.length_append, List.length_cons, Nat.succ_mul]
    omega
theorem flat_step {α : Type} [Inhabited α] {f : α → List UInt8} {l : List α} {k : Nat} (h : k < l.length) : (l.take (k + 1)).flatMap f = (l.take k).flatMap f ++ f (l.getD k default) := by
  rw [List.take_succ_eq_append_getElem h, List.flatMap_append]
  simp [h]
theorem take_flat_len {α : Type} {f : α → List UInt8} {b k : Nat} {l : List α} (h : ∀ a ∈ l, (f a).length ≤ b) : ((l.take k).flatMap f).length ≤ l.length * b := by
  refine Nat.le_trans (flat_len _ (fun a ha => h a (List.mem_of_mem_take ha))) (Nat.mul_le_mul_right _ ?_)
  rw [List.length_take]
  omega
theorem getD_mem {α : Type} [Inhabited α] {l : List α} {k : Nat} (h : k < l.length) : l.getD k default ∈ l := by
  rw [show l.getD k default = l[k] by simp [h]]
  exact List.getElem_mem h
abbrev putv (p : Nat) : Value := .agg #[.pointer (some ⟨p, 0, none⟩)]
abbrev PutB (a p : Nat) : Res := Blk a (.cells #[.pointer (some ⟨p, 0, none⟩)] 52 (0, 0))

theorem pcount_any {w0 w : World} {p : Nat} {xs : List UInt8} {J : Res} [Stab J] (h : Own w0 w (Sep (OutR p xs) J)) (n : Nat) (hn : n < 65536) (hl : xs.length ≤ 1000000000) :
    Calls Try.prog 35 #[putv p, .int .i64 n] w fun e w' => e = .returned (.tuple #[]) ∧ Own w0 w' (Sep (OutR p (xs ++ beB 2 n)) J) := by
  have H := Lib.hid ((h.alloc (.cells #[.pointer (some ⟨p, 0, none⟩)] 52)).swap)
  have ha := blk_cell H.out.snd.held 0 rfl
  have hw : IntKind.u16.wrap (n : Int) = (n : Int) := by rw [IntKind.wrap_u16]; omega
  clear h
  go_enter Try.func35, Try.ntmps35
  go_wp2_with fail
  try rw [hw]
  refine (own_outU16 H.out n hn (by omega)).mono ?_
  rintro e w1 ⟨rfl, h1⟩
  have H1 := Lib.hid h1.drop2
  clear h1 H ha
  go_wp2_with fail
  exact bodyPost_end (results_none rfl _ _ _) rfl ⟨rfl, H1.out⟩
theorem pkey_any {w0 w : World} {p : Nat} {xs : List UInt8} {J : Res} [Stab J] (h : Own w0 w (Sep (OutR p xs) J)) (s : ByteArray) (hs : s.size ≤ 512) (hl : xs.length ≤ 1000000000) :
    Calls Try.prog 41 #[putv p, .string s] w fun e w' => e = .returned (.tuple #[]) ∧ Own w0 w' (Sep (OutR p (xs ++ encP s)) J) := by
  have H := Lib.hid ((h.alloc (.cells #[.pointer (some ⟨p, 0, none⟩)] 52)).swap)
  have ha := blk_cell H.out.snd.held 0 rfl
  clear h
  go_enter Try.func41, Try.ntmps41
  go_wp2_with fail
  refine (own_outText H.out s (by omega) (by omega)).mono ?_
  rintro e w1 ⟨rfl, h1⟩
  have H1 := Lib.hid h1.drop2
  clear h1 H ha
  go_wp2_with fail
  exact bodyPost_end (results_none rfl _ _ _) rfl ⟨rfl, H1.out⟩

set_option maxHeartbeats 4000000 in
theorem pentry_any {w0 w : World} {p : Nat} {xs : List UInt8} {J : Res} [Stab J] (h : Own w0 w (Sep (OutR p xs) J)) (k v nv : ByteArray) (h0 n : Bool) (x : Nat) (hk : k.size ≤ 512) (hv : v.size ≤ 512) (hnv : nv.size ≤ 512) (hx : x < 18446744073709551616) (hl : xs.length ≤ 900000000) :
    Calls Try.prog 37 #[putv p, env ⟨k, h0, v, (x : Int), n, nv⟩] w fun r w' => r = .returned (.tuple #[]) ∧ Own w0 w' (Sep (OutR p (xs ++ encE ⟨k, h0, v, (x : Int), n, nv⟩)) J) := by
  skip
  have H := Lib.hid ((((h.alloc (.cells #[.pointer (some ⟨p, 0, none⟩)] 52)).alloc (.cells #[.string k, .bool h0, .string v, .int .u64 (x : Int), .bool n, .string nv] 45)).ac (by ac_rfl) : Own w0 ((w.alloc (.cells #[.pointer (some ⟨p, 0, none⟩)] 52)).alloc (.cells #[.string k, .bool h0, .string v, .int .u64 (x : Int), .bool n, .string nv] 45)) (Sep (OutR p xs) (Sep (Blk w.heap.size (.cells #[.pointer (some ⟨p, 0, none⟩)] 52 (0, 0))) (Sep (Blk (w.alloc (.cells #[.pointer (some ⟨p, 0, none⟩)] 52)).heap.size (.cells #[.string k, .bool h0, .string v, .int .u64 (x : Int), .bool n, .string nv] 45 (0, 0))) J)))))
  rw [World.size_alloc] at H
  obtain ⟨E, hE⟩ : ∃ E, encE ⟨k, h0, v, (x : Int), n, nv⟩ = E := ⟨_, rfl⟩
  rw [hE]
  have HE := Lib.hid hE
  clear hE h
  have ha := blk_cell H.out.snd.held 0 rfl
  have y0 := blk_cell H.out.snd.snd.held 0 rfl
  have y1 := blk_cell H.out.snd.snd.held 1 rfl
  have y2 := blk_cell H.out.snd.snd.held 2 rfl
  have y3 := blk_cell H.out.snd.snd.held 3 rfl
  have y4 := blk_cell H.out.snd.snd.held 4 rfl
  have y5 := blk_cell H.out.snd.snd.held 5 rfl
  go_enter Try.func37, Try.ntmps37
  go_wp2_with fail
  refine (own_outText H.out k (by omega) (by omega)).mono ?_
  rintro r w1 ⟨rfl, h1⟩
  obtain ⟨ys1, hys⟩ : ∃ ys, xs ++ txtB k.toList = ys := ⟨_, rfl⟩
  have hl1 : ys1.length ≤ 900000600 := by rw [← hys, List.length_append, txtB_len]; omega
  rw [hys] at h1
  have HY1 := Lib.hid hys
  have H1 := Lib.hid h1
  clear h1 H hys ha y0 y1 y2 y3 y4 y5
  have ha := blk_cell H1.out.snd.held 0 rfl
  have y0 := blk_cell H1.out.snd.snd.held 0 rfl
  have y1 := blk_cell H1.out.snd.snd.held 1 rfl
  have y2 := blk_cell H1.out.snd.snd.held 2 rfl
  have y3 := blk_cell H1.out.snd.snd.held 3 rfl
  have y4 := blk_cell H1.out.snd.snd.held 4 rfl
  have y5 := blk_cell H1.out.snd.snd.held 5 rfl
  go_wp2_with fail
  refine (own_outFlag H1.out h0 (by omega)).mono ?_
  rintro r w2 ⟨rfl, h1⟩
  obtain ⟨ys2, hys⟩ : ∃ ys, ys1 ++ flagB h0 = ys := ⟨_, rfl⟩
  have hl2 : ys2.length ≤ 900001200 := by rw [← hys, List.length_append, flagB_len]; omega
  rw [hys] at h1
  have HY2 := Lib.hid hys
  have H2 := Lib.hid h1
  clear h1 H1 hys ha y0 y1 y2 y3 y4 y5
  have ha := blk_cell H2.out.snd.held 0 rfl
  have y0 := blk_cell H2.out.snd.snd.held 0 rfl
  have y1 := blk_cell H2.out.snd.snd.held 1 rfl
  have y2 := blk_cell H2.out.snd.snd.held 2 rfl
  have y3 := blk_cell H2.out.snd.snd.held 3 rfl
  have y4 := blk_cell H2.out.snd.snd.held 4 rfl
  have y5 := blk_cell H2.out.snd.snd.held 5 rfl
  go_wp2_with fail
  refine (own_outText H2.out v (by omega) (by omega)).mono ?_
  rintro r w3 ⟨rfl, h1⟩
  obtain ⟨ys3, hys⟩ : ∃ ys, ys2 ++ txtB v.toList = ys := ⟨_, rfl⟩
  have hl3 : ys3.length ≤ 900001800 := by rw [← hys, List.length_append, txtB_len]; omega
  rw [hys] at h1
  have HY3 := Lib.hid hys
  have H3 := Lib.hid h1
  clear h1 H2 hys ha y0 y1 y2 y3 y4 y5
  have ha := blk_cell H3.out.snd.held 0 rfl
  have y0 := blk_cell H3.out.snd.snd.held 0 rfl
  have y1 := blk_cell H3.out.snd.snd.held 1 rfl
  have y2 := blk_cell H3.out.snd.snd.held 2 rfl
  have y3 := blk_cell H3.out.snd.snd.held 3 rfl
  have y4 := blk_cell H3.out.snd.snd.held 4 rfl
  have y5 := blk_cell H3.out.snd.snd.held 5 rfl
  go_wp2_with fail
  refine (own_outU64 H3.out x hx (by omega)).mono ?_
  rintro r w4 ⟨rfl, h1⟩
  obtain ⟨ys4, hys⟩ : ∃ ys, ys3 ++ beB 8 x = ys := ⟨_, rfl⟩
  have hl4 : ys4.length ≤ 900002400 := by rw [← hys, List.length_append, beB_length]; omega
  rw [hys] at h1
  have HY4 := Lib.hid hys
  have H4 := Lib.hid h1
  clear h1 H3 hys ha y0 y1 y2 y3 y4 y5
  have ha := blk_cell H4.out.snd.held 0 rfl
  have y0 := blk_cell H4.out.snd.snd.held 0 rfl
  have y1 := blk_cell H4.out.snd.snd.held 1 rfl
  have y2 := blk_cell H4.out.snd.snd.held 2 rfl
  have y3 := blk_cell H4.out.snd.snd.held 3 rfl
  have y4 := blk_cell H4.out.snd.snd.held 4 rfl
  have y5 := blk_cell H4.out.snd.snd.held 5 rfl
  go_wp2_with fail
  refine (own_outFlag H4.out n (by omega)).mono ?_
  rintro r w5 ⟨rfl, h1⟩
  obtain ⟨ys5, hys⟩ : ∃ ys, ys4 ++ flagB n = ys := ⟨_, rfl⟩
  have hl5 : ys5.length ≤ 900003000 := by rw [← hys, List.length_append, flagB_len]; omega
  rw [hys] at h1
  have HY5 := Lib.hid hys
  have H5 := Lib.hid h1
  clear h1 H4 hys ha y0 y1 y2 y3 y4 y5
  have ha := blk_cell H5.out.snd.held 0 rfl
  have y0 := blk_cell H5.out.snd.snd.held 0 rfl
  have y1 := blk_cell H5.out.snd.snd.held 1 rfl
  have y2 := blk_cell H5.out.snd.snd.held 2 rfl
  have y3 := blk_cell H5.out.snd.snd.held 3 rfl
  have y4 := blk_cell H5.out.snd.snd.held 4 rfl
  have y5 := blk_cell H5.out.snd.snd.held 5 rfl
  go_wp2_with fail
  refine (own_outText H5.out nv (by omega) (by omega)).mono ?_
  rintro r w6 ⟨rfl, h1⟩
  obtain ⟨ys6, hys⟩ : ∃ ys, ys5 ++ txtB nv.toList = ys := ⟨_, rfl⟩
  have hl6 : ys6.length ≤ 900003600 := by rw [← hys, List.length_append, txtB_len]; omega
  rw [hys] at h1
  have HY6 := Lib.hid hys
  have H6 := Lib.hid h1
  clear h1 H5 hys ha y0 y1 y2 y3 y4 y5
  go_wp2_with fail
  have HF : xs ++ E = ys6 := by rw [← HE.out, ← HY6.out, ← HY5.out, ← HY4.out, ← HY3.out, ← HY2.out, ← HY1.out]; simp [encE]
  rw [HF]
  exact bodyPost_end (results_none rfl _ _ _) rfl ⟨rfl, H6.out.drop2.drop2⟩

set_option maxHeartbeats 4000000 in
theorem pmsg_any {w0 w : World} {p : Nat} {xs : List UInt8} {J : Res} [Stab J] (h : Own w0 w (Sep (OutR p xs) J)) (s K x o n : Nat) (k v : ByteArray) (hs : s < 18446744073709551616) (hK : K < 256) (hk : k.size ≤ 512) (hx : x < 18446744073709551616) (hv : v.size ≤ 512) (ho : o < 65536) (hn : n < 18446744073709551616) (hl : xs.length ≤ 900000000) :
    Calls Try.prog 76 #[putv p, msv ⟨(s : Int), (K : Int), k, (x : Int), v, (o : Int), (n : Int)⟩] w fun r w' => r = .returned (.tuple #[]) ∧ Own w0 w' (Sep (OutR p (xs ++ encM ⟨(s : Int), (K : Int), k, (x : Int), v, (o : Int), (n : Int)⟩)) J) := by
  have hwK : IntKind.u8.wrap (K : Int) = (K : Int) := by rw [IntKind.wrap_u8']; omega
  have hwO : IntKind.u16.wrap (o : Int) = (o : Int) := by rw [IntKind.wrap_u16]; omega
  have H := Lib.hid ((((h.alloc (.cells #[.pointer (some ⟨p, 0, none⟩)] 52)).alloc (.cells #[.int .u64 (s : Int), .int .i64 (K : Int), .string k, .int .u64 (x : Int), .string v, .int .i64 (o : Int), .int .u64 (n : Int)] 57)).ac (by ac_rfl) : Own w0 ((w.alloc (.cells #[.pointer (some ⟨p, 0, none⟩)] 52)).alloc (.cells #[.int .u64 (s : Int), .int .i64 (K : Int), .string k, .int .u64 (x : Int), .string v, .int .i64 (o : Int), .int .u64 (n : Int)] 57)) (Sep (OutR p xs) (Sep (Blk w.heap.size (.cells #[.pointer (some ⟨p, 0, none⟩)] 52 (0, 0))) (Sep (Blk (w.alloc (.cells #[.pointer (some ⟨p, 0, none⟩)] 52)).heap.size (.cells #[.int .u64 (s : Int), .int .i64 (K : Int), .string k, .int .u64 (x : Int), .string v, .int .i64 (o : Int), .int .u64 (n : Int)] 57 (0, 0))) J)))))
  rw [World.size_alloc] at H
  obtain ⟨E, hE⟩ : ∃ E, encM ⟨(s : Int), (K : Int), k, (x : Int), v, (o : Int), (n : Int)⟩ = E := ⟨_, rfl⟩
  rw [hE]
  have HE := Lib.hid hE
  clear hE h
  have ha := blk_cell H.out.snd.held 0 rfl
  have y0 := blk_cell H.out.snd.snd.held 0 rfl
  have y1 := blk_cell H.out.snd.snd.held 1 rfl
  have y2 := blk_cell H.out.snd.snd.held 2 rfl
  have y3 := blk_cell H.out.snd.snd.held 3 rfl
  have y4 := blk_cell H.out.snd.snd.held 4 rfl
  have y5 := blk_cell H.out.snd.snd.held 5 rfl
  have y6 := blk_cell H.out.snd.snd.held 6 rfl
  go_enter Try.func76, Try.ntmps76
  go_wp2_with fail
  refine (own_outU64 H.out s hs (by omega)).mono ?_
  rintro r w1 ⟨rfl, h1⟩
  obtain ⟨ys1, hys⟩ : ∃ ys, xs ++ beB 8 s = ys := ⟨_, rfl⟩
  have hl1 : ys1.length ≤ 900000600 := by rw [← hys, List.length_append, beB_length]; omega
  rw [hys] at h1
  have HY1 := Lib.hid hys
  have H1 := Lib.hid h1
  clear h1 H hys ha y0 y1 y2 y3 y4 y5 y6
  have ha := blk_cell H1.out.snd.held 0 rfl
  have y0 := blk_cell H1.out.snd.snd.held 0 rfl
  have y1 := blk_cell H1.out.snd.snd.held 1 rfl
  have y2 := blk_cell H1.out.snd.snd.held 2 rfl
  have y3 := blk_cell H1.out.snd.snd.held 3 rfl
  have y4 := blk_cell H1.out.snd.snd.held 4 rfl
  have y5 := blk_cell H1.out.snd.snd.held 5 rfl
  have y6 := blk_cell H1.out.snd.snd.held 6 rfl
  go_wp2_with fail
  try simp only [hwK, hwO]
  refine (own_outU8 H1.out K hK (by omega)).mono ?_
  rintro r w2 ⟨rfl, h1⟩
  obtain ⟨ys2, hys⟩ : ∃ ys, ys1 ++ beB 1 K = ys := ⟨_, rfl⟩
  have hl2 : ys2.length ≤ 900001200 := by rw [← hys, List.length_append, beB_length]; omega
  rw [hys] at h1
  have HY2 := Lib.hid hys
  have H2 := Lib.hid h1
  clear h1 H1 hys ha y0 y1 y2 y3 y4 y5 y6
  have ha := blk_cell H2.out.snd.held 0 rfl
  have y0 := blk_cell H2.out.snd.snd.held 0 rfl
  have y1 := blk_cell H2.out.snd.snd.held 1 rfl
  have y2 := blk_cell H2.out.snd.snd.held 2 rfl
  have y3 := blk_cell H2.out.snd.snd.held 3 rfl
  have y4 := blk_cell H2.out.snd.snd.held 4 rfl
  have y5 := blk_cell H2.out.snd.snd.held 5 rfl
  have y6 := blk_cell H2.out.snd.snd.held 6 rfl
  go_wp2_with fail
  refine (own_outText H2.out k (by omega) (by omega)).mono ?_
  rintro r w3 ⟨rfl, h1⟩
  obtain ⟨ys3, hys⟩ : ∃ ys, ys2 ++ txtB k.toList = ys := ⟨_, rfl⟩
  have hl3 : ys3.length ≤ 900001800 := by rw [← hys, List.length_append, txtB_len]; omega
  rw [hys] at h1
  have HY3 := Lib.hid hys
  have H3 := Lib.hid h1
  clear h1 H2 hys ha y0 y1 y2 y3 y4 y5 y6
  have ha := blk_cell H3.out.snd.held 0 rfl
  have y0 := blk_cell H3.out.snd.snd.held 0 rfl
  have y1 := blk_cell H3.out.snd.snd.held 1 rfl
  have y2 := blk_cell H3.out.snd.snd.held 2 rfl
  have y3 := blk_cell H3.out.snd.snd.held 3 rfl
  have y4 := blk_cell H3.out.snd.snd.held 4 rfl
  have y5 := blk_cell H3.out.snd.snd.held 5 rfl
  have y6 := blk_cell H3.out.snd.snd.held 6 rfl
  go_wp2_with fail
  refine (own_outU64 H3.out x hx (by omega)).mono ?_
  rintro r w4 ⟨rfl, h1⟩
  obtain ⟨ys4, hys⟩ : ∃ ys, ys3 ++ beB 8 x = ys := ⟨_, rfl⟩
  have hl4 : ys4.length ≤ 900002400 := by rw [← hys, List.length_append, beB_length]; omega
  rw [hys] at h1
  have HY4 := Lib.hid hys
  have H4 := Lib.hid h1
  clear h1 H3 hys ha y0 y1 y2 y3 y4 y5 y6
  have ha := blk_cell H4.out.snd.held 0 rfl
  have y0 := blk_cell H4.out.snd.snd.held 0 rfl
  have y1 := blk_cell H4.out.snd.snd.held 1 rfl
  have y2 := blk_cell H4.out.snd.snd.held 2 rfl
  have y3 := blk_cell H4.out.snd.snd.held 3 rfl
  have y4 := blk_cell H4.out.snd.snd.held 4 rfl
  have y5 := blk_cell H4.out.snd.snd.held 5 rfl
  have y6 := blk_cell H4.out.snd.snd.held 6 rfl
  go_wp2_with fail
  refine (own_outText H4.out v (by omega) (by omega)).mono ?_
  rintro r w5 ⟨rfl, h1⟩
  obtain ⟨ys5, hys⟩ : ∃ ys, ys4 ++ txtB v.toList = ys := ⟨_, rfl⟩
  have hl5 : ys5.length ≤ 900003000 := by rw [← hys, List.length_append, txtB_len]; omega
  rw [hys] at h1
  have HY5 := Lib.hid hys
  have H5 := Lib.hid h1
  clear h1 H4 hys ha y0 y1 y2 y3 y4 y5 y6
  have ha := blk_cell H5.out.snd.held 0 rfl
  have y0 := blk_cell H5.out.snd.snd.held 0 rfl
  have y1 := blk_cell H5.out.snd.snd.held 1 rfl
  have y2 := blk_cell H5.out.snd.snd.held 2 rfl
  have y3 := blk_cell H5.out.snd.snd.held 3 rfl
  have y4 := blk_cell H5.out.snd.snd.held 4 rfl
  have y5 := blk_cell H5.out.snd.snd.held 5 rfl
  have y6 := blk_cell H5.out.snd.snd.held 6 rfl
  go_wp2_with fail
  try simp only [hwK, hwO]
  refine (own_outU16 H5.out o ho (by omega)).mono ?_
  rintro r w6 ⟨rfl, h1⟩
  obtain ⟨ys6, hys⟩ : ∃ ys, ys5 ++ beB 2 o = ys := ⟨_, rfl⟩
  have hl6 : ys6.length ≤ 900003600 := by rw [← hys, List.length_append, beB_length]; omega
  rw [hys] at h1
  have HY6 := Lib.hid hys
  have H6 := Lib.hid h1
  clear h1 H5 hys ha y0 y1 y2 y3 y4 y5 y6
  have ha := blk_cell H6.out.snd.held 0 rfl
  have y0 := blk_cell H6.out.snd.snd.held 0 rfl
  have y1 := blk_cell H6.out.snd.snd.held 1 rfl
  have y2 := blk_cell H6.out.snd.snd.held 2 rfl
  have y3 := blk_cell H6.out.snd.snd.held 3 rfl
  have y4 := blk_cell H6.out.snd.snd.held 4 rfl
  have y5 := blk_cell H6.out.snd.snd.held 5 rfl
  have y6 := blk_cell H6.out.snd.snd.held 6 rfl
  go_wp2_with fail
  refine (own_outU64 H6.out n hn (by omega)).mono ?_
  rintro r w7 ⟨rfl, h1⟩
  obtain ⟨ys7, hys⟩ : ∃ ys, ys6 ++ beB 8 n = ys := ⟨_, rfl⟩
  have hl7 : ys7.length ≤ 900004200 := by rw [← hys, List.length_append, beB_length]; omega
  rw [hys] at h1
  have HY7 := Lib.hid hys
  have H7 := Lib.hid h1
  clear h1 H6 hys ha y0 y1 y2 y3 y4 y5 y6
  go_wp2_with fail
  have HF : xs ++ E = ys7 := by rw [← HE.out, ← HY7.out, ← HY6.out, ← HY5.out, ← HY4.out, ← HY3.out, ← HY2.out, ← HY1.out]; simp [encM]
  rw [HF]
  exact bodyPost_end (results_none rfl _ _ _) rfl ⟨rfl, H7.out.drop2.drop2⟩

theorem toNat_of {x : Int} (h : NumW x) : ∃ n : Nat, x = (n : Int) ∧ n < 18446744073709551616 := ⟨x.toNat, by have := h.1; omega, by have h1 := h.1; have h2 := h.2; omega⟩
theorem pentryE {w0 w : World} {p : Nat} {xs : List UInt8} {J : Res} [Stab J] (h : Own w0 w (Sep (OutR p xs) J)) (e : En) (he : EnF e) (hl : xs.length ≤ 900000000) :
    Calls Try.prog 37 #[putv p, env e] w fun r w' => r = .returned (.tuple #[]) ∧ Own w0 w' (Sep (OutR p (xs ++ encE e)) J) := by
  obtain ⟨k, h0, v, x, n, nv⟩ := e
  obtain ⟨x, rfl, hx⟩ := toNat_of he.x
  exact pentry_any h k v nv h0 n x he.k he.v he.n hx hl
theorem pmsgM {w0 w : World} {p : Nat} {xs : List UInt8} {J : Res} [Stab J] (h : Own w0 w (Sep (OutR p xs) J)) (m : Ms) (he : MsF m) (hl : xs.length ≤ 900000000) :
    Calls Try.prog 76 #[putv p, msv m] w fun r w' => r = .returned (.tuple #[]) ∧ Own w0 w' (Sep (OutR p (xs ++ encM m)) J) := by
  obtain ⟨s, K, k, x, v, o, n⟩ := m
  obtain ⟨s, rfl, hs⟩ := toNat_of ⟨he.w.s0, he.w.s1⟩
  obtain ⟨x, rfl, hx⟩ := toNat_of ⟨he.w.x0, he.w.x1⟩
  obtain ⟨n, rfl, hn⟩ := toNat_of ⟨he.w.n0, he.w.n1⟩
  obtain ⟨K, rfl⟩ : ∃ q : Nat, K = (q : Int) := ⟨K.toNat, by have : (0 : Int) ≤ K := he.K0; omega⟩
  obtain ⟨o, rfl⟩ : ∃ q : Nat, o = (q : Int) := ⟨o.toNat, by have : (0 : Int) ≤ o := he.o0; omega⟩
  exact pmsg_any h s K x o n k v hs (by have : (K : Int) < 256 := he.K1; omega) he.k hx he.v (by have : (o : Int) < 65536 := he.o1; omega) hn hl

end Go.Proofs.Ytookbmpaoljelaa
