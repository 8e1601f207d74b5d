/-
  Package node's taker: lists of parts. (Written by wip/tools/gennode11.py.)
-/
import Derived.Test.YtookbmpaoljelaaNode10
namespace Go.Proofs.Ytookbmpaoljelaa
open Go Go.RowKit
set_option linter.unusedVariables false
set_option linter.unusedSimpArgs false
set_option maxRecDepth 100000

theorem elEn : ElT En 22 45 72 := by
  obtain ⟨i, h1, h2, h3, h4⟩ := info_parts (show (Try.prog.info? 45).map (fun i => (i.zero, i.size, i.bytes)) = some (some (.agg #[.string ⟨#[]⟩, .bool false, .string ⟨#[]⟩, .int .u64 0, .bool false, .string ⟨#[]⟩]), 6, 72) by kernel_rfl)
  exact ⟨Try.underlying22, i, _, h1, h2, h3, h4, rfl⟩
theorem elMs : ElT Ms 46 57 72 := by
  obtain ⟨i, h1, h2, h3, h4⟩ := info_parts (show (Try.prog.info? 57).map (fun i => (i.zero, i.size, i.bytes)) = some (some (.agg #[.int .u64 0, .int .i64 0, .string ⟨#[]⟩, .int .u64 0, .string ⟨#[]⟩, .int .i64 0, .int .u64 0]), 7, 72) by kernel_rfl)
  exact ⟨Try.underlying46, i, _, h1, h2, h3, h4, rfl⟩
theorem elNu : ElT Int 24 43 8 := by
  obtain ⟨i, h1, h2, h3, h4⟩ := info_parts (show (Try.prog.info? 43).map (fun i => (i.zero, i.size, i.bytes)) = some (some (.int .u64 0), 1, 8) by kernel_rfl)
  exact ⟨Try.underlying24, i, _, h1, h2, h3, h4, rfl⟩
theorem elSt : ElT ByteArray 23 9 16 := by
  obtain ⟨i, h1, h2, h3, h4⟩ := info_parts (show (Try.prog.info? 9).map (fun i => (i.zero, i.size, i.bytes)) = some (some (.string ⟨#[]⟩), 1, 16) by kernel_rfl)
  exact ⟨Try.underlying23, i, _, h1, h2, h3, h4, rfl⟩
theorem elHd : ElT Hd 25 46 24 := by
  obtain ⟨i, h1, h2, h3, h4⟩ := info_parts (show (Try.prog.info? 46).map (fun i => (i.zero, i.size, i.bytes)) = some (some (.slice none 0 0), 1, 24) by kernel_rfl)
  exact ⟨Try.underlying25, i, _, h1, h2, h3, h4, rfl⟩
theorem infoEn2 : (Try.prog.info? 45).map (fun i => (i.zero, i.size)) = some (some (.agg #[.string ⟨#[]⟩, .bool false, .string ⟨#[]⟩, .int .u64 0, .bool false, .string ⟨#[]⟩]), 6) := by kernel_rfl
theorem infoMs2 : (Try.prog.info? 57).map (fun i => (i.zero, i.size)) = some (some (.agg #[.int .u64 0, .int .i64 0, .string ⟨#[]⟩, .int .u64 0, .string ⟨#[]⟩, .int .i64 0, .int .u64 0]), 7) := by kernel_rfl
/-- A slice's length. -/
def lenV : Value → Nat
  | .slice _ n _ => n
  | _ => 0
/-- What list leaves. -/
def ListPost {α : Type} [Cel α] (pr : Prs α) (n : Nat) (xs : List UInt8) (bad : Bool) (e : TypeId) (p : Nat) (J : Res) (w0 : World) (r : Ending) (w' : World) : Prop :=
  ∃ (v : Value) (l : List α) (ys : List UInt8) (b : Bool), r = .returned v ∧ l.length ≤ 65535 ∧ Rd (pMany pr n) xs bad l ys b ∧ Own w0 w' (Sep (RowG e v l) (Sep (InR p ys b) J))
theorem own_out3 {w0 w : World} {A B C D : Res} (h : Own w0 w (Sep A (Sep B (Sep C D)))) : Own w0 w (Sep A (Sep B D)) := (h.assoc'.comm.assoc.snd.comm.assoc)
theorem rowg_shape {α : Type} [Cel α] {w0 w : World} {e : TypeId} {v : Value} {l : List α} {J : Res} (h : Own w0 w (Sep (RowG e v l) J)) : ∃ ao cap, v = .slice ao l.length cap := own_shapeN h.owns

set_option maxHeartbeats 4000000 in
theorem list_e {w0 w : World} {p : Nat} {xs : List UInt8} {bad : Bool} {J : Res} [Stab J] (h : Own w0 w (Sep (InR p xs bad) J)) (n : Int) (hn : n ≤ 65535) :
    Calls Try.prog 60 #[putv p, .int .i64 n, .func (.func 62) #[putv p] #[]] w (ListPost (α := En) pEntry n.toNat xs bad 45 p J w0) := by
  have H0 := Lib.hid (((h.alloc (.cells #[.pointer (some ⟨p, 0, none⟩)] 62)).row_nil 45 (Cel.size En)).ac (by ac_rfl) : Own w0 (w.alloc (.cells #[.pointer (some ⟨p, 0, none⟩)] 62)) (Sep (RowV 45 (Cel.size En) (.slice none 0 0) 0 []) (Sep (InR p xs bad) (Sep (Blk w.heap.size (.cells #[.pointer (some ⟨p, 0, none⟩)] 62 (0, 0))) J))))
  clear h
  go_enter Try.func60, Try.ntmps60
  go_wp2_with fail
  go_loopw [7] (fun s wr => ∃ (v : Value) (l : List En) (ys : List UInt8) (b : Bool), v = s ∧ l.length ≤ 65535 ∧ Hid (Many pEntry n.toNat xs bad l ys b) ∧ Hid (Own w0 wr (Sep (RowG 45 v l) (Sep (InR p ys b) (Sep (Blk w.heap.size (.cells #[.pointer (some ⟨p, 0, none⟩)] 62 (0, 0))) J))))) (fun s _ => 65536 - lenV s)
  case atStart => exact ⟨.slice none 0 0, [], xs, bad, rfl, by simp, Lib.hid (Many.start _ _ _ _), H0⟩
  case round =>
    clear H0
    obtain ⟨v, l, ys, b, rfl, hl, HM, HO⟩ := hrel
    obtain ⟨ao, cap, rfl⟩ := rowg_shape HO.out
    have ha := blk_cell HO.out.snd.snd.held 0 rfl
    obtain ⟨m, hm⟩ : ∃ m, m = l.length := ⟨_, rfl⟩
    have HML := Lib.hid hm
    have hm5 : m ≤ 65535 := by rw [hm]; exact hl
    rw [← hm]
    clear hm hl
    by_cases hlt : (m : Int) < n
    · have HB := Lib.hid (own_bad HO.out.swap)
      cases b with
      | true =>
        go_wp2_with fail
        refine HB.out.mono ?_
        rintro e w1 ⟨rfl, rfl⟩
        go_wp2_with fail
        go_ret
        exact ⟨_, l, ys, true, by rw [← HML.out]; rfl, by rw [← HML.out]; exact hm5, HM.out.done (.inl rfl), own_out3 HO.out⟩
      | false =>
      go_wp2_with fail
      refine HB.out.mono ?_
      rintro e w1 ⟨rfl, rfl⟩
      have HC := Lib.hid (tentry_any HO.out.swap)
      clear HB ha
      go_wp2_with fail
      refine HC.out.mono ?_
      rintro r w2 ⟨a, zs, b2, rfl, hr, h2⟩
      skip
      have HMN := Lib.hid (HM.out.step (by have := HML.out; omega) hr)
      have H2 := Lib.hid h2.swap
      clear h2 hr HC HM HO
      have hbs := fun w => run_buildSlice_one (P := Try.prog) w 22 45 _ 6 Try.underlying22 infoEn2 rfl (by decide) (by decide) #[.string a.k, .bool a.h, .string a.v, .int .u64 a.x, .bool a.n, .string a.nv] rfl
      go_wp2_with (first | (at_builtin; refine own_appendG elEn H2.out a 1 (by have := HML.out; omega) (by have := HML.out; omega) rfl (.tmp 18) (.tmp 21) rfl (by rw [← HML.out]; rfl) #[.string a.k, .bool a.h, .string a.v, .int .u64 a.x, .bool a.n, .string a.nv] rfl rfl ?_))
      intro g2 cap2 n2 w5 hn2 hown
      have HN2 := Lib.hid hn2.out
      have H5 := Lib.hid hown.out
      have hn25 : n2 = m + 1 := by have h1 := HN2.out; have h2 := HML.out; (try simp only [List.length_append, List.length_cons, List.length_nil] at h1); omega
      subst hn25
      clear hown hn2 H2 hbs 
      go_wp2_with fail
      go_roundw
      case rel => exact ⟨_, l ++ [a], zs, b2, rfl, by simp only [List.length_append, List.length_cons, List.length_nil]; have := HML.out; omega, HMN, H5⟩
      case measure => show _ - lenV (.slice _ (m + 1) _) < _ - lenV (.slice _ m _); simp only [lenV]; omega
    · go_wp2_with fail
      go_ret
      exact ⟨_, l, ys, b, by rw [← HML.out]; rfl, by rw [← HML.out]; exact hm5, HM.out.done (.inr (by have := HML.out; omega)), own_out3 HO.out⟩

set_option maxHeartbeats 4000000 in
theorem list_m {w0 w : World} {p : Nat} {xs : List UInt8} {bad : Bool} {J : Res} [Stab J] (h : Own w0 w (Sep (InR p xs bad) J)) (n : Int) (hn : n ≤ 65535) :
    Calls Try.prog 94 #[putv p, .int .i64 n, .func (.func 95) #[putv p] #[]] w (ListPost (α := Ms) pMsg n.toNat xs bad 57 p J w0) := by
  have H0 := Lib.hid (((h.alloc (.cells #[.pointer (some ⟨p, 0, none⟩)] 62)).row_nil 57 (Cel.size Ms)).ac (by ac_rfl) : Own w0 (w.alloc (.cells #[.pointer (some ⟨p, 0, none⟩)] 62)) (Sep (RowV 57 (Cel.size Ms) (.slice none 0 0) 0 []) (Sep (InR p xs bad) (Sep (Blk w.heap.size (.cells #[.pointer (some ⟨p, 0, none⟩)] 62 (0, 0))) J))))
  clear h
  go_enter Try.func94, Try.ntmps94
  go_wp2_with fail
  go_loopw [7] (fun s wr => ∃ (v : Value) (l : List Ms) (ys : List UInt8) (b : Bool), v = s ∧ l.length ≤ 65535 ∧ Hid (Many pMsg n.toNat xs bad l ys b) ∧ Hid (Own w0 wr (Sep (RowG 57 v l) (Sep (InR p ys b) (Sep (Blk w.heap.size (.cells #[.pointer (some ⟨p, 0, none⟩)] 62 (0, 0))) J))))) (fun s _ => 65536 - lenV s)
  case atStart => exact ⟨.slice none 0 0, [], xs, bad, rfl, by simp, Lib.hid (Many.start _ _ _ _), H0⟩
  case round =>
    clear H0
    obtain ⟨v, l, ys, b, rfl, hl, HM, HO⟩ := hrel
    obtain ⟨ao, cap, rfl⟩ := rowg_shape HO.out
    have ha := blk_cell HO.out.snd.snd.held 0 rfl
    obtain ⟨m, hm⟩ : ∃ m, m = l.length := ⟨_, rfl⟩
    have HML := Lib.hid hm
    have hm5 : m ≤ 65535 := by rw [hm]; exact hl
    rw [← hm]
    clear hm hl
    by_cases hlt : (m : Int) < n
    · have HB := Lib.hid (own_bad HO.out.swap)
      cases b with
      | true =>
        go_wp2_with fail
        refine HB.out.mono ?_
        rintro e w1 ⟨rfl, rfl⟩
        go_wp2_with fail
        go_ret
        exact ⟨_, l, ys, true, by rw [← HML.out]; rfl, by rw [← HML.out]; exact hm5, HM.out.done (.inl rfl), own_out3 HO.out⟩
      | false =>
      go_wp2_with fail
      refine HB.out.mono ?_
      rintro e w1 ⟨rfl, rfl⟩
      have HC := Lib.hid (tmsg_any HO.out.swap)
      clear HB ha
      go_wp2_with fail
      refine HC.out.mono ?_
      rintro r w2 ⟨a, zs, b2, rfl, hr, h2⟩
      skip
      have HMN := Lib.hid (HM.out.step (by have := HML.out; omega) hr)
      have H2 := Lib.hid h2.swap
      clear h2 hr HC HM HO
      have hbs := fun w => run_buildSlice_one (P := Try.prog) w 46 57 _ 7 Try.underlying46 infoMs2 rfl (by decide) (by decide) #[.int .u64 a.sq, .int .i64 a.K, .string a.k, .int .u64 a.x, .string a.v, .int .i64 a.off, .int .u64 a.num] rfl
      go_wp2_with (first | (at_builtin; refine own_appendG elMs H2.out a 1 (by have := HML.out; omega) (by have := HML.out; omega) rfl (.tmp 18) (.tmp 21) rfl (by rw [← HML.out]; rfl) #[.int .u64 a.sq, .int .i64 a.K, .string a.k, .int .u64 a.x, .string a.v, .int .i64 a.off, .int .u64 a.num] rfl rfl ?_))
      intro g2 cap2 n2 w5 hn2 hown
      have HN2 := Lib.hid hn2.out
      have H5 := Lib.hid hown.out
      have hn25 : n2 = m + 1 := by have h1 := HN2.out; have h2 := HML.out; (try simp only [List.length_append, List.length_cons, List.length_nil] at h1); omega
      subst hn25
      clear hown hn2 H2 hbs 
      go_wp2_with fail
      go_roundw
      case rel => exact ⟨_, l ++ [a], zs, b2, rfl, by simp only [List.length_append, List.length_cons, List.length_nil]; have := HML.out; omega, HMN, H5⟩
      case measure => show _ - lenV (.slice _ (m + 1) _) < _ - lenV (.slice _ m _); simp only [lenV]; omega
    · go_wp2_with fail
      go_ret
      exact ⟨_, l, ys, b, by rw [← HML.out]; rfl, by rw [← HML.out]; exact hm5, HM.out.done (.inr (by have := HML.out; omega)), own_out3 HO.out⟩

set_option maxHeartbeats 4000000 in
theorem list_k {w0 w : World} {p : Nat} {xs : List UInt8} {bad : Bool} {J : Res} [Stab J] (h : Own w0 w (Sep (InR p xs bad) J)) (n : Int) (hn : n ≤ 65535) :
    Calls Try.prog 63 #[putv p, .int .i64 n, .func (.func 64) #[.pointer (some ⟨p, 0, none⟩)] #[]] w (ListPost (α := Int) pKid n.toNat xs bad 43 p J w0) := by
  have H0 := Lib.hid (((h.alloc (.cells #[.pointer (some ⟨p, 0, none⟩)] 62)).row_nil 43 (Cel.size Int)).ac (by ac_rfl) : Own w0 (w.alloc (.cells #[.pointer (some ⟨p, 0, none⟩)] 62)) (Sep (RowV 43 (Cel.size Int) (.slice none 0 0) 0 []) (Sep (InR p xs bad) (Sep (Blk w.heap.size (.cells #[.pointer (some ⟨p, 0, none⟩)] 62 (0, 0))) J))))
  clear h
  go_enter Try.func63, Try.ntmps63
  go_wp2_with fail
  go_loopw [7] (fun s wr => ∃ (v : Value) (l : List Int) (ys : List UInt8) (b : Bool), v = s ∧ l.length ≤ 65535 ∧ Hid (Many pKid n.toNat xs bad l ys b) ∧ Hid (Own w0 wr (Sep (RowG 43 v l) (Sep (InR p ys b) (Sep (Blk w.heap.size (.cells #[.pointer (some ⟨p, 0, none⟩)] 62 (0, 0))) J))))) (fun s _ => 65536 - lenV s)
  case atStart => exact ⟨.slice none 0 0, [], xs, bad, rfl, by simp, Lib.hid (Many.start _ _ _ _), H0⟩
  case round =>
    clear H0
    obtain ⟨v, l, ys, b, rfl, hl, HM, HO⟩ := hrel
    obtain ⟨ao, cap, rfl⟩ := rowg_shape HO.out
    have ha := blk_cell HO.out.snd.snd.held 0 rfl
    obtain ⟨m, hm⟩ : ∃ m, m = l.length := ⟨_, rfl⟩
    have HML := Lib.hid hm
    have hm5 : m ≤ 65535 := by rw [hm]; exact hl
    rw [← hm]
    clear hm hl
    by_cases hlt : (m : Int) < n
    · have HB := Lib.hid (own_bad HO.out.swap)
      cases b with
      | true =>
        go_wp2_with fail
        refine HB.out.mono ?_
        rintro e w1 ⟨rfl, rfl⟩
        go_wp2_with fail
        go_ret
        exact ⟨_, l, ys, true, by rw [← HML.out]; rfl, by rw [← HML.out]; exact hm5, HM.out.done (.inl rfl), own_out3 HO.out⟩
      | false =>
      go_wp2_with fail
      refine HB.out.mono ?_
      rintro e w1 ⟨rfl, rfl⟩
      have HC := Lib.hid (rd_u64 HO.out.swap)
      clear HB ha
      go_wp2_with fail
      refine HC.out.mono ?_
      rintro r w2 ⟨x, zs, b2, rfl, hx, hr0, h2⟩
      obtain ⟨a, ha⟩ : ∃ a : Int, a = (x : Int) := ⟨_, rfl⟩
      have hr : Rd pKid ys false a zs b2 := by rw [ha]; exact hr0.bind (Rd.ret _ _ _)
      rw [← ha]
      clear ha hr0 hx
      have HMN := Lib.hid (HM.out.step (by have := HML.out; omega) hr)
      have H2 := Lib.hid h2.swap
      clear h2 hr HC HM HO
      go_wp2_with (first | (at_builtin; refine own_appendG elNu H2.out a 1 (by have := HML.out; omega) (by have := HML.out; omega) rfl (.tmp 18) (.tmp 21) rfl (by rw [← HML.out]; rfl) #[.int .u64 a] rfl rfl ?_))
      intro g2 cap2 n2 w5 hn2 hown
      have HN2 := Lib.hid hn2.out
      have H5 := Lib.hid hown.out
      have hn25 : n2 = m + 1 := by have h1 := HN2.out; have h2 := HML.out; (try simp only [List.length_append, List.length_cons, List.length_nil] at h1); omega
      subst hn25
      clear hown hn2 H2 
      go_wp2_with fail
      go_roundw
      case rel => exact ⟨_, l ++ [a], zs, b2, rfl, by simp only [List.length_append, List.length_cons, List.length_nil]; have := HML.out; omega, HMN, H5⟩
      case measure => show _ - lenV (.slice _ (m + 1) _) < _ - lenV (.slice _ m _); simp only [lenV]; omega
    · go_wp2_with fail
      go_ret
      exact ⟨_, l, ys, b, by rw [← HML.out]; rfl, by rw [← HML.out]; exact hm5, HM.out.done (.inr (by have := HML.out; omega)), own_out3 HO.out⟩

set_option maxHeartbeats 4000000 in
theorem list_p {w0 w : World} {p : Nat} {xs : List UInt8} {bad : Bool} {J : Res} [Stab J] (h : Own w0 w (Sep (InR p xs bad) J)) (n : Int) (hn : n ≤ 65535) :
    Calls Try.prog 65 #[putv p, .int .i64 n, .func (.func 66) #[.pointer (some ⟨p, 0, none⟩)] #[]] w (ListPost (α := ByteArray) pText n.toNat xs bad 9 p J w0) := by
  have H0 := Lib.hid (((h.alloc (.cells #[.pointer (some ⟨p, 0, none⟩)] 62)).row_nil 9 (Cel.size ByteArray)).ac (by ac_rfl) : Own w0 (w.alloc (.cells #[.pointer (some ⟨p, 0, none⟩)] 62)) (Sep (RowV 9 (Cel.size ByteArray) (.slice none 0 0) 0 []) (Sep (InR p xs bad) (Sep (Blk w.heap.size (.cells #[.pointer (some ⟨p, 0, none⟩)] 62 (0, 0))) J))))
  clear h
  go_enter Try.func65, Try.ntmps65
  go_wp2_with fail
  go_loopw [7] (fun s wr => ∃ (v : Value) (l : List ByteArray) (ys : List UInt8) (b : Bool), v = s ∧ l.length ≤ 65535 ∧ Hid (Many pText n.toNat xs bad l ys b) ∧ Hid (Own w0 wr (Sep (RowG 9 v l) (Sep (InR p ys b) (Sep (Blk w.heap.size (.cells #[.pointer (some ⟨p, 0, none⟩)] 62 (0, 0))) J))))) (fun s _ => 65536 - lenV s)
  case atStart => exact ⟨.slice none 0 0, [], xs, bad, rfl, by simp, Lib.hid (Many.start _ _ _ _), H0⟩
  case round =>
    clear H0
    obtain ⟨v, l, ys, b, rfl, hl, HM, HO⟩ := hrel
    obtain ⟨ao, cap, rfl⟩ := rowg_shape HO.out
    have ha := blk_cell HO.out.snd.snd.held 0 rfl
    obtain ⟨m, hm⟩ : ∃ m, m = l.length := ⟨_, rfl⟩
    have HML := Lib.hid hm
    have hm5 : m ≤ 65535 := by rw [hm]; exact hl
    rw [← hm]
    clear hm hl
    by_cases hlt : (m : Int) < n
    · have HB := Lib.hid (own_bad HO.out.swap)
      cases b with
      | true =>
        go_wp2_with fail
        refine HB.out.mono ?_
        rintro e w1 ⟨rfl, rfl⟩
        go_wp2_with fail
        go_ret
        exact ⟨_, l, ys, true, by rw [← HML.out]; rfl, by rw [← HML.out]; exact hm5, HM.out.done (.inl rfl), own_out3 HO.out⟩
      | false =>
      go_wp2_with fail
      refine HB.out.mono ?_
      rintro e w1 ⟨rfl, rfl⟩
      have HC := Lib.hid (rd_text HO.out.swap)
      clear HB ha
      go_wp2_with fail
      refine HC.out.mono ?_
      rintro r w2 ⟨a, zs, b2, rfl, hr, h2⟩
      skip
      have HMN := Lib.hid (HM.out.step (by have := HML.out; omega) hr)
      have H2 := Lib.hid h2.swap
      clear h2 hr HC HM HO
      go_wp2_with (first | (at_builtin; refine own_appendG elSt H2.out a 1 (by have := HML.out; omega) (by have := HML.out; omega) rfl (.tmp 18) (.tmp 21) rfl (by rw [← HML.out]; rfl) #[.string a] rfl rfl ?_))
      intro g2 cap2 n2 w5 hn2 hown
      have HN2 := Lib.hid hn2.out
      have H5 := Lib.hid hown.out
      have hn25 : n2 = m + 1 := by have h1 := HN2.out; have h2 := HML.out; (try simp only [List.length_append, List.length_cons, List.length_nil] at h1); omega
      subst hn25
      clear hown hn2 H2 
      go_wp2_with fail
      go_roundw
      case rel => exact ⟨_, l ++ [a], zs, b2, rfl, by simp only [List.length_append, List.length_cons, List.length_nil]; have := HML.out; omega, HMN, H5⟩
      case measure => show _ - lenV (.slice _ (m + 1) _) < _ - lenV (.slice _ m _); simp only [lenV]; omega
    · go_wp2_with fail
      go_ret
      exact ⟨_, l, ys, b, by rw [← HML.out]; rfl, by rw [← HML.out]; exact hm5, HM.out.done (.inr (by have := HML.out; omega)), own_out3 HO.out⟩

end Go.Proofs.Ytookbmpaoljelaa
