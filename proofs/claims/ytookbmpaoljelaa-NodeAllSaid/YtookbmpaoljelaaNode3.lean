/-
  Package node: Route, Waiting; the library's Contains.
-/
import Derived.Test.YtookbmpaoljelaaNode2
namespace Go.Proofs.Ytookbmpaoljelaa
open Go Go.RowKit
set_option linter.unusedVariables false
set_option linter.unusedSimpArgs false
set_option maxRecDepth 100000

/-- Where a function stands that has a node in a block of its own. -/
structure NbAt (w W : World) (b : Nat) (h : Nh) (n : Nd) : Prop where
  blk : W.heap[b]? = some (.cells (ndc h n) 27 (0, 0))
  nd : NdAt W h n
  only : Only (fun _ => False) w W
theorem NbAt.keep {w W W' : World} {b : Nat} {h : Nh} {n : Nd} (H : NbAt w W b h n) (ho : Only (fun _ => False) W W') : NbAt w W' b h n := ⟨qkeep ho H.blk, H.nd.keep ho, H.only.trans ho (fun _ _ h => h)⟩
theorem NbAt.start {w : World} {h : Nh} {n : Nd} (H : NdAt w h n) : NbAt w (w.alloc (.cells (ndc h n) 27)) w.heap.size h n :=
  ⟨heap_alloc_new w _, H.keep ((Only.refl _ w).alloc _), (Only.refl _ w).alloc _⟩
theorem NbAt.cells {w W : World} {b : Nat} {h : Nh} {n : Nd} (H : NbAt w W b h n) : W.cell? ⟨b, 0, none⟩ = some (.bool n.leaf) ∧ W.cell? ⟨b, 1, none⟩ = some (.slice h.eo n.es.length h.ec) ∧ W.cell? ⟨b, 2, none⟩ = some (.slice h.po n.ps.length h.pc) ∧
    W.cell? ⟨b, 3, none⟩ = some (.slice h.ko n.ks.length h.kc) ∧ W.cell? ⟨b, 4, none⟩ = some (.slice h.bo n.bs.length h.bc) := by
  have := H.blk
  simp [World.cell?, this]

theorem route_step {ps : List ByteArray} {k : Nat} (h : k < ps.length) (key : ByteArray) : routeN (ps.take (k + 1)) key = routeN (ps.take k) key + if ble (ps.getD k default) key = true then 1 else 0 := by
  have e1 : ps.take (k + 1) = ps.take k ++ [ps.getD k default] := by
    rw [List.take_succ_eq_append_getElem h]
    simp [h]
  unfold routeN
  rw [e1, List.filter_append, List.length_append]
  generalize ps.getD k default = p
  cases hb : ble p key with
  | true => rw [List.filter_cons_of_pos (by simp [hb])]; rfl
  | false => rw [List.filter_cons_of_neg (by simp [hb])]; rfl
set_option maxHeartbeats 2000000 in
theorem route_any (h : Nh) (n : Nd) (key : ByteArray) (w : World) (H : NdAt w h n) :
    Calls Try.prog 12 #[ndv h n, .string key] w fun r w' => r = .returned (.int .i64 (routeN n.ps key : Int)) ∧ Only (fun _ => False) w w' := by
  have HS := Lib.hid (NbAt.start H)
  clear H
  obtain ⟨c0, c1, c2, c3, c4⟩ := HS.out.cells
  obtain ⟨m, hm⟩ : ∃ m, m = n.ps.length := ⟨_, rfl⟩
  have HM := Lib.hid hm
  have hb : m ≤ 140737488351232 := by rw [hm]; exact HS.out.nd.lp
  rw [← hm] at c2
  clear hm
  go_enter Try.func12, Try.ntmps12
  go_wp2_with fail
  go_loopw [5, 11] (fun kid i wr => ∃ k : Nat, (k ≤ m) ∧ i = .int .i64 (k : Int) ∧ Hid (kid = .int .i64 (routeN (n.ps.take k) key : Int)) ∧ Hid (NbAt w wr w.heap.size h n)) (fun _ i _ => m - (intOf i).toNat)
  case atStart => exact ⟨0, Nat.zero_le _, rfl, Lib.hid rfl, HS⟩
  case round =>
    clear c0 c1 c2 c3 c4
    obtain ⟨k, hk, rfl, HR, HO⟩ := hrel
    obtain ⟨r, hr⟩ : ∃ r : Nat, routeN (n.ps.take k) key = r := ⟨_, rfl⟩
    have HRK := Lib.hid hr
    rw [hr] at HR
    obtain rfl := HR.out
    have hrb : r ≤ 140737488351232 := by
      rw [← hr]
      refine Nat.le_trans (route_le _ _) ?_
      rw [List.length_take]
      omega
    clear HR hr
    have hr0 : (0 : Int) ≤ (r : Int) := by omega
    by_cases hlt : k < m
    · obtain ⟨g, off, he, y⟩ := HO.out.nd.p.st (j := k) (by rw [← HM.out]; exact hlt)
      have HST := Lib.hid (route_step (key := key) (by rw [← HM.out]; exact hlt : k < n.ps.length))
      have HE := Lib.hid he
      rw [he]
      clear he
      generalize n.ps.getD k default = p at *
      rw [HRK.out] at HST
      obtain ⟨q, hq⟩ : ∃ q, Op.bytesLess p.toList key.toList = q := ⟨_, rfl⟩
      obtain ⟨q2, hq2⟩ : ∃ q2, (p.toList == key.toList) = q2 := ⟨_, rfl⟩
      have HQ : Hid (ble p key = (q || q2)) := Lib.hid (by unfold ble; rw [hq, hq2])
      rw [HQ.out] at HST
      have hltI : (k : Int) < (m : Int) := by omega
      have h0 : (0 : Int) ≤ (k : Int) := by omega
      cases q <;> cases q2
      all_goals
        go_wp2_with fail
        go_roundw
        case rel => exact ⟨k + 1, by omega, by go_num, Lib.hid (by rw [HST.out]; first | rfl | simp), HO⟩
        case measure => simp [intOf]; omega
    · have hltI : ¬ (k : Int) < (m : Int) := by omega
      have HE : Hid (routeN n.ps key = r) := Lib.hid (by rw [← HRK.out, List.take_of_length_le (by have := HM.out; omega)])
      go_wp2_with fail
      go_ret
      exact ⟨by rw [HE.out]; rfl, HO.out.only⟩

/-- How many messages wait, as the numbers go round. -/
def waitW (bs : List (List Ms)) : Int := bs.foldl (fun a l => wrap64 (a + (l.length : Int))) 0
theorem waitW_step {bs : List (List Ms)} {k : Nat} (h : k < bs.length) : waitW (bs.take (k + 1)) = wrap64 (waitW (bs.take k) + ((bs.getD k default).length : Int)) := by
  have e1 : bs.take (k + 1) = bs.take k ++ [bs.getD k default] := by
    rw [List.take_succ_eq_append_getElem h]
    simp [h]
  unfold waitW
  rw [e1, List.foldl_append]
  rfl
theorem waitW_from (bs : List (List Ms)) : ∀ a : Nat, a + waitN bs ≤ 9223372036854775807 → bs.foldl (fun a l => wrap64 (a + (l.length : Int))) (a : Int) = ((a + waitN bs : Nat) : Int) := by
  induction bs with
  | nil => intro a _; simp [waitN]
  | cons l r ih =>
    intro a h
    have e : waitN (l :: r) = l.length + waitN r := by simp [waitN]
    rw [e] at h ⊢
    rw [List.foldl_cons, show wrap64 ((a : Int) + (l.length : Int)) = ((a + l.length : Nat) : Int) by unfold wrap64; omega, ih (a + l.length) (by omega)]
    congr 1
    omega
theorem waitW_eq {bs : List (List Ms)} (h : waitN bs ≤ 9223372036854775807) : waitW bs = (waitN bs : Int) := by
  have := waitW_from bs 0 (by omega)
  rw [Nat.zero_add] at this
  exact this
theorem waitN_le {bs : List (List Ms)} {m : Nat} (h : ∀ j, j < bs.length → (bs.getD j default).length ≤ m) : waitN bs ≤ bs.length * m := by
  induction bs with
  | nil => simp [waitN]
  | cons l r ih =>
    have h0 := h 0 (by simp)
    have h1 := ih (fun j hj => h (j + 1) (by simpa using hj))
    have e : waitN (l :: r) = l.length + waitN r := by simp [waitN]
    rw [e, List.length_cons, Nat.succ_mul]
    have h0 : l.length ≤ m := h0
    omega
set_option maxHeartbeats 2000000 in
theorem waiting_any (h : Nh) (n : Nd) (w : World) (H : NdAt w h n) :
    Calls Try.prog 14 #[ndv h n] w fun r w' => r = .returned (.int .i64 (waitW n.bs)) ∧ Only (fun _ => False) w w' := by
  have HS := Lib.hid (NbAt.start H)
  clear H
  obtain ⟨c0, c1, c2, c3, c4⟩ := HS.out.cells
  obtain ⟨m, hm⟩ : ∃ m, m = n.bs.length := ⟨_, rfl⟩
  have HM := Lib.hid hm
  have hb : m ≤ 140737488351232 := by rw [hm]; exact HS.out.nd.lb
  rw [← hm] at c4
  clear hm
  go_enter Try.func14, Try.ntmps14
  go_wp2_with fail
  go_loopw [3, 9] (fun cnt i wr => ∃ k : Nat, (k ≤ m) ∧ i = .int .i64 (k : Int) ∧ Hid (cnt = .int .i64 (waitW (n.bs.take k))) ∧ Hid (NbAt w wr w.heap.size h n)) (fun _ i _ => m - (intOf i).toNat)
  case atStart => exact ⟨0, Nat.zero_le _, rfl, Lib.hid rfl, HS⟩
  case round =>
    clear c0 c1 c2 c3 c4
    obtain ⟨k, hk, rfl, HR, HO⟩ := hrel
    obtain ⟨r, hr⟩ : ∃ r : Int, waitW (n.bs.take k) = r := ⟨_, rfl⟩
    have HRK := Lib.hid hr
    rw [hr] at HR
    obtain rfl := HR.out
    clear HR hr
    by_cases hlt : k < m
    · obtain ⟨g, off, ao, c, he, y, _, _⟩ := HO.out.nd.b k (by rw [← HM.out]; exact hlt)
      have HST := Lib.hid (waitW_step (by rw [← HM.out]; exact hlt : k < n.bs.length))
      have HE := Lib.hid he
      rw [he]
      clear he
      generalize n.bs.getD k default = l at *
      rw [HRK.out] at HST
      obtain ⟨q, hq⟩ : ∃ q, q = l.length := ⟨_, rfl⟩
      rw [← hq] at y HST
      clear hq
      have hltI : (k : Int) < (m : Int) := by omega
      have h0 : (0 : Int) ≤ (k : Int) := by omega
      go_wp2_with fail
      go_roundw
      case rel => exact ⟨k + 1, by omega, by go_num, Lib.hid (by rw [HST.out]), HO⟩
      case measure => simp [intOf]; omega
    · have hltI : ¬ (k : Int) < (m : Int) := by omega
      have HE : Hid (waitW n.bs = r) := Lib.hid (by rw [← HRK.out, List.take_of_length_le (by have := HM.out; omega)])
      go_wp2_with fail
      go_ret
      exact ⟨by rw [HE.out]; rfl, HO.out.only⟩

theorem contains_no {l : List Int} {i : Nat} (hi : i < l.length) (h : l.getD i default = 0) : l.contains 0 = true := by
  rw [List.contains_iff_mem]
  rw [← h, show l.getD i default = l[i] by simp [hi]]
  exact List.getElem_mem hi
theorem contains_yes {l : List Int} (h : ∀ i, i < l.length → l.getD i default ≠ 0) : l.contains 0 = false := by
  rw [← Bool.not_eq_true, List.contains_iff_mem]
  intro hm
  obtain ⟨i, hi, e⟩ := List.mem_iff_getElem.1 hm
  exact h i hi (by rw [show l.getD i default = l[i] by simp [hi]]; exact e)
set_option maxHeartbeats 2000000 in
theorem idx_any (ao : Option Addr) (n c : Nat) (l : List Int) (w : World) (hl : SlG w ao l) (hn : n = l.length) (hb : n ≤ 140737488351232) :
    Calls Try.prog 80 #[.slice ao n c, .int .u64 0] w (IdxP (!l.contains 0) w) := by
  obtain ⟨q0, hq0⟩ : ∃ q0, (!l.contains 0) = q0 := ⟨_, rfl⟩
  rw [hq0]
  have HQ0 := Lib.hid hq0
  clear hq0
  have HL := Lib.hid hl
  have HN := Lib.hid hn
  clear hl hn
  go_enter Try.func80, Try.ntmps80
  go_wp2_with fail
  go_loop [8] (fun i => ∃ k : Nat, (k ≤ n) ∧ i = .int .i64 (k : Int) ∧ Hid (∀ j, j < k → l.getD j default ≠ 0)) (fun i => n - (intOf i).toNat)
  case atStart => exact ⟨0, Nat.zero_le _, rfl, Lib.hid (fun j hj => by omega)⟩
  case round =>
    obtain ⟨k, hk, rfl, HI⟩ := hrel
    by_cases hlt : k < n
    · obtain ⟨g, off, rfl, x0⟩ := HL.out.nu (j := k) (by rw [← HN.out]; omega)
      have HE : Hid (l.getD k default = 0 → q0 = false) := Lib.hid (fun h => by rw [← HQ0.out, contains_no (by rw [← HN.out]; exact hlt) h]; rfl)
      have HX : Hid (l.getD k default ≠ 0 → ∀ j, j < k + 1 → l.getD j default ≠ 0) := Lib.hid (fun h j hj => by
        by_cases e : j = k
        · subst e; exact h
        · exact HI.out j (by omega))
      generalize l.getD k default = a at *
      have hltI : (k : Int) < (n : Int) := by omega
      have h0 : (0 : Int) ≤ (k : Int) := by omega
      by_cases ha : a = 0
      · subst ha
        have HV := Lib.hid (HE.out rfl)
        clear HE HX HI
        go_wp2_with fail
        go_ret
        exact idx_yes _ (by omega) HV.out (Only.refl _ _)
      · have HV := Lib.hid (HX.out ha)
        have hb1 : ((0 : Int) == a) = false := by rw [beq_eq_false_iff_ne]; exact fun e => ha e.symm
        have hb2 : (a == (0 : Int)) = false := by rw [beq_eq_false_iff_ne]; exact ha
        have hb3 : ¬ (0 : Int) = a := fun e => ha e.symm
        clear HE HX HI
        go_wp2_with fail
        go_round
        case rel => exact ⟨k + 1, by omega, by go_num, HV⟩
        case measure => simp [intOf]; omega
    · have hltI : ¬ (k : Int) < (n : Int) := by omega
      have HE : Hid (q0 = true) := Lib.hid (by rw [← HQ0.out, contains_yes (fun i hi => HI.out i (by have := HN.out; omega))]; rfl)
      go_wp2_with fail
      go_ret
      exact idx_no HE.out (Only.refl _ _)
theorem contains_any (ao : Option Addr) (n c : Nat) (l : List Int) (w : World) (hl : SlG w ao l) (hn : n = l.length) (hb : n ≤ 140737488351232) :
    Calls Try.prog 52 #[.slice ao n c, .int .u64 0] w fun r w' => r = .returned (.bool (l.contains 0)) ∧ Only (fun _ => False) w w' := by
  have hx := idx_any ao n c l w hl hn hb
  clear hl hn
  generalize l.contains 0 = q at *
  have HX := Lib.hid hx
  clear hx
  go_enter Try.func52, Try.ntmps52
  go_wp2_with fail
  refine HX.out.mono ?_
  rintro e w1 ⟨z, rfl, hz, ho⟩
  have HO := Lib.hid ho
  have HZ := Lib.hid hz
  clear ho hz HX
  by_cases h : 0 ≤ z
  · have HV : Hid (q = true) := Lib.hid (by simpa using HZ.out.1 h)
    have hd : decide (0 ≤ z) = true := by simpa using h
    go_wp2_with fail
    go_ret
    exact ⟨by rw [HV.out]; first | rfl | simp [hd], HO.out⟩
  · have HV : Hid (q = false) := Lib.hid (by
      cases e : q with
      | true => exact absurd (HZ.out.2 (by rw [e]; rfl)) h
      | false => rfl)
    have hd : decide (0 ≤ z) = false := by simpa using h
    go_wp2_with fail
    go_ret
    exact ⟨by rw [HV.out]; first | rfl | simp [hd], HO.out⟩

end Go.Proofs.Ytookbmpaoljelaa
