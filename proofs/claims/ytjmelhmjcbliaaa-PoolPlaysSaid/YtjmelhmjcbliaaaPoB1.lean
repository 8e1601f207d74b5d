/-
  The reference's back: find; the library's Clone of bytes.
-/
import Derived.Test.YtjmelhmjcbliaaaPoM1
import Derived.Test.YtjmelhmjcbliaaaRaw
namespace Go.Proofs.Ytjmelhmjcbliaaa
open Go Go.RowKit
set_option linter.unusedVariables false
set_option linter.unusedSimpArgs false
set_option maxRecDepth 100000

theorem ixOf_at {id : Int} {l : List Int} {k : Nat} (h : ∀ j, j < k → l[j]? ≠ some id) (hk : l[k]? = some id) : ixOf id l = some k := by
  cases e : ixOf id l with
  | none => exact absurd (List.mem_of_getElem? hk) (ixOf_none e)
  | some i =>
    obtain ⟨h1, h2, h3⟩ := ixOf_some e
    congr 1
    apply Classical.byContradiction
    intro hne
    rcases Nat.lt_or_gt_of_ne hne with hlt | hgt
    · exact h i hlt h2
    · exact h3 k hgt hk
theorem ixOf_no {id : Int} {l : List Int} (h : ∀ j, j < l.length → l[j]? ≠ some id) : ixOf id l = none := by
  cases e : ixOf id l with
  | none => rfl
  | some i =>
    obtain ⟨h1, h2, h3⟩ := ixOf_some e
    exact absurd h2 (h i h1)
def ixV (o : Option Nat) : Int := match o with
  | none => -1
  | some i => (i : Int)
theorem getD_at {α : Type} {l : List α} {k : Nat} (h : k < l.length) (d : α) : l[k]? = some (l.getD k d) := by
  rw [List.getD_eq_getElem?_getD, List.getElem?_eq_getElem h]
  rfl
set_option maxHeartbeats 2000000 in
theorem bfind_any (w : World) (bb : Nat) (io : Option Addr) (n ic : Nat) (ids : List Int) (hn : ids.length = n) (hb : n ≤ 140737488351232) (hI : SlG w io ids) (hc : w.cell? ⟨bb, 0, none⟩ = some (.slice io n ic)) (id : Int) :
    Calls Try.prog 48 #[ptr bb, .int .u64 id] w fun e w' => e = .returned (.int .i64 (ixV (ixOf id ids))) ∧ w = w' := by
  have HN := Lib.hid hn
  have HI := Lib.hid hI
  clear hn hI
  go_enter Try.func48, Try.ntmps48
  go_wp2_with fail
  go_loopw [5] (fun j wr => ∃ k : Nat, k ≤ n ∧ j = .int .i64 (k : Int) ∧ w = wr ∧ Hid (∀ j, j < k → ids[j]? ≠ some id)) (fun j _ => n - (intOf j).toNat)
  case atStart => exact ⟨0, Nat.zero_le _, rfl, rfl, Lib.hid fun j hj => by omega⟩
  case round =>
    obtain ⟨k, hk, rfl, rfl, HP⟩ := hrel
    have h0 : (0 : Int) ≤ (k : Int) := by omega
    by_cases hlt : k < n
    · have hltI : (k : Int) < (n : Int) := by omega
      obtain ⟨g, off, rfl, hx⟩ := HI.out.nu (j := k) (by have := HN.out; omega)
      obtain ⟨x, hxe⟩ : ∃ x, ids.getD k default = x := ⟨_, rfl⟩
      rw [hxe] at hx
      have HX : Hid (ids[k]? = some x) := Lib.hid (by rw [← hxe]; exact getD_at (by have := HN.out; omega) _)
      clear hxe
      by_cases he : x = id
      · have hed : (x == id) = true := by simpa using he
        have HR : Hid (ixOf id ids = some k) := Lib.hid (ixOf_at HP.out (by rw [HX.out, he]))
        clear he
        go_wp2_with fail
        go_ret
        exact ⟨by rw [HR.out]; rfl, rfl⟩
      · have hed : (x == id) = false := by simpa using he
        have HR : Hid (∀ j, j < k + 1 → ids[j]? ≠ some id) := Lib.hid fun j hj => by
          by_cases e : j = k
          · subst e
            rw [HX.out]
            simpa using he
          · exact HP.out j (by omega)
        clear he
        go_wp2_with fail
        go_roundw
        case rel => exact ⟨k + 1, by omega, by go_num, by first | rfl | trivial, HR⟩
        case measure => simp [intOf]; omega
    · have hgeI : ¬ (k : Int) < (n : Int) := by omega
      have HR : Hid (ixOf id ids = none) := Lib.hid (ixOf_no fun j hj => HP.out j (by have := HN.out; omega))
      go_wp2_with fail
      go_ret
      exact ⟨by rw [HR.out]; rfl, rfl⟩
set_option maxHeartbeats 2000000 in
/-- Bytes in new memory. -/
theorem clone_by (v : Value) (xs : List UInt8) (w : World) (h : SlC w v xs) (hlen : xs.length ≤ 140737488355328) :
    Calls Try.prog 35 #[v] w fun e w' => ∃ v', e = .returned v' ∧ w'.ownsRow w.heap.size 5 1 v' xs.length (u8s xs) ∧ Only (fun _ => False) w w' := by
  obtain ⟨vo, vc, rfl⟩ := h.shape
  have HC := Lib.hid h
  obtain ⟨n, hn⟩ : ∃ n, xs.length = n := ⟨_, rfl⟩
  have hnil := fun (w : World) => Lib.run_eql_slice_nil (P := Try.prog) w 35 5 vo n vc 0 0 Try.underlying35
  cases vo with
  | none =>
    have h0 : xs = [] := by
      rcases h with ⟨_, h⟩ | ⟨a, cap, e, _⟩
      · exact h
      · cases e
    subst h0
    have hc0 : vc = 0 := by
      rcases h with ⟨h, _⟩ | ⟨a, cap, e, _⟩
      · simp at h; exact h
      · cases e
    subst hc0
    have hn0 : n = 0 := hn.symm
    subst hn0
    clear h HC hn
    dsimp only [List.length_nil]
    go_enter Try.func35, Try.ntmps35
    go_wp2_with fail
    go_ret
    exact ⟨_, rfl, World.ownsRow_nil _ _ _ _, Only.refl _ _⟩
  | some ad =>
    rw [hn]
    have HN := Lib.hid hn
    clear h hn
    go_enter Try.func35, Try.ntmps35
    go_wp2_with (at_builtin; refine wp_fresh w _ xs HC.out hlen rfl _ _ rfl rfl (by rw [HN.out]; rfl) ?_; intro ao cap w1 HW HO)
    go_ret
    exact ⟨_, rfl, by rw [← HN.out]; exact HW.out, HO.out⟩
/-- Bytes of one's own that are written to no more. -/
theorem own_bytes {w w' : World} {B : Nat} {v : Value} {xs : List UInt8} (h : w'.ownsRow B 5 1 v xs.length (u8s xs)) : ∃ ao c, v = .slice ao xs.length c ∧ SlC w' v xs := by
  rcases h.2 with ⟨rfl, h0⟩ | ⟨g, cap, cur, rfl, hb, hg, hle, hmx, hsz, ht⟩
  · exact ⟨none, 0, by rw [h0], .inl ⟨rfl, List.length_eq_zero_iff.1 h0⟩⟩
  · refine ⟨some ⟨g, 0, none⟩, cap, rfl, .inr ⟨_, cap, rfl, fun j hj => ?_⟩⟩
    rw [add_lit, Nat.zero_add, h.cellAt j (by omega)]
    exact u8s_at hj
/-- .. as a part that stays. -/
theorem Own.bytesFix {w0 w w' : World} {v : Value} {xs : List UInt8} {J : Res} [Stab J] (h : Own w0 w J) (ho : Only (fun _ => False) w w') (hr : w'.ownsRow w.heap.size 5 1 v xs.length (u8s xs)) :
    ∃ ao c, v = .slice ao xs.length c ∧ Own w0 w' (Sep (Fix fun w => SlC w (.slice ao xs.length c) xs) J) := by
  obtain ⟨ao, c, rfl, hs⟩ := own_bytes (w := w) hr
  refine ⟨ao, c, rfl, h.fresh ho (B := fun k => (Value.slice ao xs.length c).ownBlock = some k) ⟨fun k hk => own_lt hr hk, fun W hW => ?_⟩ fun k hk => ?_⟩
  · obtain ⟨ao', c', e, hs'⟩ := own_bytes (w := w) (own_keepAt hr (w' := W) fun k hk => hW k hk)
    exact hs'
  · rcases hr.2 with ⟨e, _⟩ | ⟨g, cap, cur, e, hb, _⟩
    · rw [e] at hk; simp [Value.ownBlock] at hk
    · rw [e] at hk; simp [Value.ownBlock] at hk; omega

end Go.Proofs.Ytjmelhmjcbliaaa
