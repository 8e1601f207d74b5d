/-
  Package node's taker: what waits for a kid, for all kids.
-/
import Derived.Test.YtookbmpaoljelaaNode11
namespace Go.Proofs.Ytookbmpaoljelaa
open Go Go.RowKit
set_option linter.unusedVariables false
set_option linter.unusedSimpArgs false
set_option maxRecDepth 100000

def BufPost (xs : List UInt8) (bad : Bool) (p : Nat) (J : Res) (w0 : World) (r : Ending) (w' : World) : Prop :=
  ∃ (v : Value) (l : List Ms) (ys : List UInt8) (b : Bool), r = .returned v ∧ l.length ≤ 65535 ∧ Rd pBuf xs bad l ys b ∧ Own w0 w' (Sep (RowG 57 v l) (Sep (InR p ys b) J))
set_option maxHeartbeats 4000000 in
theorem tbuf_any {w0 w : World} {p : Nat} {xs : List UInt8} {bad : Bool} {J : Res} [Stab J] (h : Own w0 w (Sep (InR p xs bad) J)) :
    Calls Try.prog 68 #[putv p] w (BufPost xs bad p J w0) := by
  have H0 := Lib.hid (((h.alloc (.cells #[.pointer (some ⟨p, 0, none⟩)] 62)).swap).drew)
  clear h
  go_enter Try.func68, Try.ntmps68
  go_upto_region 1 with fail
  generalize w.heap.size = tb at *
  refine wp_region_held_drew (S := (fun w' => w'.cell? ⟨tb, 0, none⟩ = some (.pointer (some ⟨p, 0, none⟩)))) (by kernel_rfl) ?_ (fun hHeld => ?_)
  · exact blk_cell H0.out.snd.held 0 rfl
  refine wpAnyH_take (i := 0) (oi := ?_) (v := ?_) ?_ (by kernel_rfl) (by kernel_rfl) (by kernel_rfl) ?_ (Or.inl ⟨?_, ?_⟩) (by assumption) ?_
  rotate_left 2
  · (simp only [List.getElem?_toArray, List.getElem?_cons_zero]; rfl)
  · exact fun _ _ _ h => h
  · rfl
  · (intro w hSw; (try dsimp only at hSw); go_simp <;> with_reducible rfl)
  (try simp only [Act.put, List.setIfInBounds_toArray, List.set_cons_zero, List.set_cons_succ])
  refine wpAnyH_take (i := 1) (oi := ?_) (v := ?_) ?_ (by kernel_rfl) (by kernel_rfl) (by kernel_rfl) ?_ (Or.inl ⟨?_, ?_⟩) (by assumption) ?_
  rotate_left 2
  · (simp only [List.getElem?_toArray, List.getElem?_cons_succ, List.getElem?_cons_zero]; rfl)
  · exact fun _ _ _ h => h
  · rfl
  · (intro w hSw; (try dsimp only at hSw); go_simp <;> with_reducible rfl)
  (try simp only [Act.put, List.setIfInBounds_toArray, List.set_cons_zero, List.set_cons_succ])
  refine wpAnyH_take (i := 3) (oi := ?_) (v := ?_) ?_ (by kernel_rfl) (by kernel_rfl) (by kernel_rfl) ?_ (Or.inl ⟨?_, ?_⟩) (by assumption) ?_
  rotate_left 2
  · (simp only [List.getElem?_toArray, List.getElem?_cons_succ, List.getElem?_cons_zero]; rfl)
  · exact fun _ _ _ h => h
  · rfl
  · (intro w hSw; (try dsimp only at hSw); go_simp <;> with_reducible rfl)
  (try simp only [Act.put, List.setIfInBounds_toArray, List.set_cons_zero, List.set_cons_succ])
  refine wpAnyH_take (i := 4) (oi := ?_) (v := ?_) ?_ (by kernel_rfl) (by kernel_rfl) (by kernel_rfl) ?_ (Or.inl ⟨?_, ?_⟩) (by assumption) ?_
  rotate_left 2
  · (simp only [List.getElem?_toArray, List.getElem?_cons_succ, List.getElem?_cons_zero]; rfl)
  · exact fun _ _ _ h => h
  · rfl
  · (intro w hSw; (try dsimp only at hSw); go_simp <;> with_reducible rfl)
  (try simp only [Act.put, List.setIfInBounds_toArray, List.set_cons_zero, List.set_cons_succ])
  refine wpAnyH_ready (rs := [2]) (by kernel_rfl) (by simp) (AllReadyH.cons (o := ?o2_1) ?h2_1 (fun K hK => ?s2_1) AllReadyH.nil)
  case h2_1 => (simp only [List.getElem?_toArray, List.getElem?_cons_succ, List.getElem?_cons_zero]; rfl)
  case' s2_1 =>
    (go_simp; refine (tcount_any H0.out).mono ?_; rintro r w1 ⟨x, y1, b1, rfl, hx, hr, h1⟩; have HR1 := Lib.hid hr; have H1 := Lib.hid h1; clear hr h1 H0)
    refine hK.out _ _ ?_ (fun hHeld => ?_)
  · exact blk_cell H1.out.snd.held 0 rfl
  clear hK K
  (try simp only [Act.put, List.setIfInBounds_toArray, List.set_cons_zero, List.set_cons_succ])
  refine wpAnyH_ready (rs := [5]) (by kernel_rfl) (by simp) (AllReadyH.cons (o := ?o5_2) ?h5_2 (fun K hK => ?s5_2) AllReadyH.nil)
  case h5_2 => (simp only [List.getElem?_toArray, List.getElem?_cons_succ, List.getElem?_cons_zero]; rfl)
  case' s5_2 =>
    (go_simp; refine (list_m H1.out (x : Int) (by omega)).mono ?_; rintro r w2 ⟨v, l, y2, b2, rfl, hl, hr, h2⟩; have HR2 := Lib.hid hr; have H2 := Lib.hid h2; have HL := Lib.hid hl; clear hr h2 H1 hl)
    refine hK.out _ _ ?_ (fun hHeld => ?_)
  · exact blk_cell H2.out.snd.snd.held 0 rfl
  clear hK K
  (try simp only [Act.put, List.setIfInBounds_toArray, List.set_cons_zero, List.set_cons_succ])
  refine wpAnyH_take (i := 6) (oi := ?_) (v := ?_) ?_ (by kernel_rfl) (by kernel_rfl) (by kernel_rfl) ?_ (Or.inl ⟨?_, ?_⟩) (by assumption) ?_
  rotate_left 2
  · (simp only [List.getElem?_toArray, List.getElem?_cons_succ, List.getElem?_cons_zero]; rfl)
  · exact fun _ _ _ h => h
  · rfl
  · (intro w hSw; (try dsimp only at hSw); go_simp <;> with_reducible rfl)
  (try simp only [Act.put, List.setIfInBounds_toArray, List.set_cons_zero, List.set_cons_succ])
  refine wpAnyH_done (by kernel_rfl) ?_ _
  obtain ⟨ao, cap, rfl⟩ := rowg_shape H2.out
  go_wp2_with fail
  go_ret
  refine ⟨_, l, y2, b2, rfl, HL.out, HR1.out.bind ?_, own_out3 H2.out⟩
  have := HR2.out
  rwa [Int.toNat_natCast] at this

/-- The heads of lists and what lies behind them. -/
structure BufsP (hs : List Hd) (l : List (List Ms)) (w : World) : Prop where
  len : hs.length = l.length
  at' : ∀ j, j < l.length → (hs.getD j default).n = (l.getD j default).length ∧ SlG w (hs.getD j default).ao (l.getD j default) ∧ (l.getD j default).length ≤ 65535
theorem BufsP.nil (w : World) : BufsP [] [] w := ⟨rfl, fun j hj => by simp at hj⟩
theorem getD_snoc {α : Type} [Inhabited α] (l : List α) (a : α) (j : Nat) (hj : j < l.length + 1) : (l ++ [a]).getD j default = if j = l.length then a else l.getD j default := by
  by_cases h : j = l.length
  · subst h
    rw [if_pos rfl]
    simp
  · rw [if_neg h]
    simp only [List.getD_eq_getElem?_getD]
    rw [List.getElem?_append_left (by omega)]
theorem BufsP.snoc {hs : List Hd} {l : List (List Ms)} {w : World} {ao : Option Addr} {a : List Ms} {cap : Nat} (h : BufsP hs l w) (ha : SlG w ao a) (hl : a.length ≤ 65535) : BufsP (hs ++ [⟨ao, a.length, cap⟩]) (l ++ [a]) w := by
  refine ⟨by simp [h.len], fun j hj => ?_⟩
  rw [List.length_append, List.length_singleton] at hj
  rw [getD_snoc hs _ j (by rw [h.len]; exact hj), getD_snoc l _ j hj, h.len]
  by_cases e : j = l.length
  · rw [if_pos e, if_pos e]
    exact ⟨rfl, ha, hl⟩
  · rw [if_neg e, if_neg e]
    exact h.at' j (by omega)
theorem BufsP.sll {hs : List Hd} {l : List (List Ms)} {w : World} {bo : Option Addr} (h : BufsP hs l w) (hh : SlG w bo hs) : SlL w bo l := fun j hj => by
  obtain ⟨g, off, e, hc⟩ := hh.hd (j := j) (by rw [h.len]; exact hj)
  obtain ⟨h1, h2, h3⟩ := h.at' j hj
  rw [h1] at hc
  exact ⟨g, off, _, _, e, hc, h2, by omega⟩
def ListPostL (n : Nat) (xs : List UInt8) (bad : Bool) (p : Nat) (J : Res) (w0 : World) (r : Ending) (w' : World) : Prop :=
  ∃ (v : Value) (hs : List Hd) (l : List (List Ms)) (ys : List UInt8) (b : Bool), r = .returned v ∧ l.length ≤ 65535 ∧ Rd (pMany pBuf n) xs bad l ys b ∧ Own w0 w' (Sep (RowG 46 v hs) (Sep (Fix (BufsP hs l)) (Sep (InR p ys b) J)))
theorem own_out4 {w0 w : World} {A B C D E : Res} (h : Own w0 w (Sep A (Sep B (Sep C (Sep D E))))) : Own w0 w (Sep A (Sep B (Sep C E))) :=
  (h.ac (by ac_rfl : _ = Sep D (Sep A (Sep B (Sep C E))))).snd
set_option maxHeartbeats 4000000 in
theorem list_l {w0 w : World} {p : Nat} {xs : List UInt8} {bad : Bool} {J : Res} [Stab J] (h : Own w0 w (Sep (InR p xs bad) J)) (n : Int) (hn : n ≤ 65535) :
    Calls Try.prog 67 #[putv p, .int .i64 n, .func (.func 68) #[putv p] #[]] w (ListPostL n.toNat xs bad p J w0) := by
  have H0 := Lib.hid ((((h.alloc (.cells #[.pointer (some ⟨p, 0, none⟩)] 62)).row_nil 46 (Cel.size Hd)).fix0 (P := BufsP [] []) BufsP.nil).ac (by ac_rfl) : Own w0 (w.alloc (.cells #[.pointer (some ⟨p, 0, none⟩)] 62)) (Sep (RowV 46 (Cel.size Hd) (.slice none 0 0) 0 []) (Sep (Fix (BufsP [] [])) (Sep (InR p xs bad) (Sep (Blk w.heap.size (.cells #[.pointer (some ⟨p, 0, none⟩)] 62 (0, 0))) J)))))
  clear h
  go_enter Try.func67, Try.ntmps67
  go_wp2_with fail
  go_loopw [7] (fun s wr => ∃ (v : Value) (hs : List Hd) (l : List (List Ms)) (ys : List UInt8) (b : Bool), v = s ∧ l.length ≤ 65535 ∧ hs.length = l.length ∧ Hid (Many pBuf n.toNat xs bad l ys b) ∧ Hid (Own w0 wr (Sep (RowG 46 v hs) (Sep (Fix (BufsP hs l)) (Sep (InR p ys b) (Sep (Blk w.heap.size (.cells #[.pointer (some ⟨p, 0, none⟩)] 62 (0, 0))) J)))))) (fun s _ => 65536 - lenV s)
  case atStart => exact ⟨.slice none 0 0, [], [], xs, bad, rfl, by simp, rfl, Lib.hid (Many.start _ _ _ _), H0⟩
  case round =>
    clear H0
    obtain ⟨v, hs, l, ys, b, rfl, hl, hhl, HM, HO⟩ := hrel
    obtain ⟨ao, cap, rfl⟩ := rowg_shape HO.out
    have ha := blk_cell HO.out.snd.snd.snd.held 0 rfl
    obtain ⟨m, hm⟩ : ∃ m, m = hs.length := ⟨_, rfl⟩
    have HML := Lib.hid hm
    have HHL := Lib.hid hhl
    have hm5 : m ≤ 65535 := by rw [hm, hhl]; exact hl
    rw [← hm]
    clear hm hl hhl
    by_cases hlt : (m : Int) < n
    · have HB := Lib.hid (own_bad (HO.out.ac (by ac_rfl : _ = Sep (InR p ys b) (Sep (RowG 46 (.slice ao hs.length cap) hs) (Sep (Fix (BufsP hs l)) (Sep (Blk w.heap.size (.cells #[.pointer (some ⟨p, 0, none⟩)] 62 (0, 0))) J))))))
      cases b with
      | true =>
        go_wp2_with fail
        refine HB.out.mono ?_
        rintro e w1 ⟨rfl, rfl⟩
        go_wp2_with fail
        go_ret
        exact ⟨_, hs, l, ys, true, by rw [← HML.out]; rfl, by rw [← HHL.out, ← HML.out]; exact hm5, HM.out.done (.inl rfl), own_out4 HO.out⟩
      | false =>
      go_wp2_with fail
      refine HB.out.mono ?_
      rintro e w1 ⟨rfl, rfl⟩
      have HC := Lib.hid (tbuf_any (HO.out.ac (by ac_rfl : _ = Sep (InR p ys false) (Sep (RowG 46 (.slice ao hs.length cap) hs) (Sep (Fix (BufsP hs l)) (Sep (Blk w.heap.size (.cells #[.pointer (some ⟨p, 0, none⟩)] 62 (0, 0))) J))))))
      clear HB ha
      go_wp2_with fail
      refine HC.out.mono ?_
      rintro r w2 ⟨va, a, zs, b2, rfl, hla, hr, h2⟩
      have HMN := Lib.hid (HM.out.step (by have := HML.out; have := HHL.out; omega) hr)
      obtain ⟨ao2, cap2, rfl, _, _, h3⟩ := h2.rowFix
      obtain ⟨q, hq⟩ : ∃ q, a.length = q := ⟨_, rfl⟩
      rw [hq]
      have h4 := ((h3.ac (by ac_rfl : _ = Sep (Fix (BufsP hs l)) (Sep (Fix fun w => SlG w ao2 a) (Sep (RowG 46 (.slice ao hs.length cap) hs) (Sep (InR p zs b2) (Sep (Blk w.heap.size (.cells #[.pointer (some ⟨p, 0, none⟩)] 62 (0, 0))) J)))))).fix2.fixI (Q := BufsP (hs ++ [⟨ao2, q, cap2⟩]) (l ++ [a])) (fun w hw => by rw [← hq]; exact hw.1.snoc hw.2 hla)).swap
      have H2 := Lib.hid h4
      have HLA := Lib.hid hla
      clear h2 h3 h4 hr HC HM HO hla
      clear hq
      go_wp2_with (first | (at_builtin; refine own_appendG elHd H2.out ⟨ao2, q, cap2⟩ 1 (by have := HML.out; omega) (by have := HML.out; omega) rfl (.tmp 18) (.tmp 21) rfl (by rw [← HML.out]; rfl) #[.slice ao2 q cap2] rfl rfl ?_))
      intro g3 cap3 n3 w5 hn3 hown
      have H5 := Lib.hid hown.out
      have hn35 : n3 = m + 1 := by have h1 := hn3.out; have h2 := HML.out; (try simp only [List.length_append, List.length_cons, List.length_nil] at h1); omega
      subst hn35
      clear hown hn3 H2
      go_wp2_with fail
      go_roundw
      case rel => exact ⟨_, hs ++ [⟨ao2, q, cap2⟩], l ++ [a], zs, b2, rfl, by simp only [List.length_append, List.length_cons, List.length_nil]; have := HML.out; have := HHL.out; omega, by simp only [List.length_append, List.length_cons, List.length_nil, HHL.out], HMN, H5⟩
      case measure => show _ - lenV (.slice _ (m + 1) _) < _ - lenV (.slice _ m _); simp only [lenV]; omega
    · go_wp2_with fail
      go_ret
      exact ⟨_, hs, l, ys, b, by rw [← HML.out]; rfl, by rw [← HHL.out, ← HML.out]; exact hm5, HM.out.done (.inr (by have := HML.out; have := HHL.out; omega)), own_out4 HO.out⟩

end Go.Proofs.Ytookbmpaoljelaa
