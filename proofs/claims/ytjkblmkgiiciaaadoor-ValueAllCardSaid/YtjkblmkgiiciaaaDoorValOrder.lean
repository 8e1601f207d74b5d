/-
  ValueOrder: its walk.
-/
import Derived.Test.YtjkblmkgiiciaaaDoorVal13
namespace Go.Proofs.YtjkblmkgiiciaaaDoor
open Go Go.RowKit
set_option linter.unusedVariables false
set_option linter.unusedSimpArgs false
set_option maxRecDepth 100000

/-- A value that lies in block p. -/
structure At3 (w : World) (p : Nat) (K N : Int) (s : ByteArray) : Prop where
  k : w.cell? ⟨p, 0, none⟩ = some (.int .i64 K)
  n : w.cell? ⟨p, 1, none⟩ = some (.int .u64 N)
  s : w.cell? ⟨p, 2, none⟩ = some (.string s)
theorem At3.keep {w w1 : World} {p : Nat} {K N : Int} {s : ByteArray} (h : At3 w p K N s) (hb : Below w.heap.size w w1) : At3 w1 p K N s := ⟨keep0 h.k hb, keep0 h.n hb, keep0 h.s hb⟩
theorem At3.new (w : World) (K N : Int) (s : ByteArray) (t : TypeId) : At3 (w.alloc (.cells #[.int .i64 K, .int .u64 N, .string s] t)) w.heap.size K N s := ⟨by go_simp, by go_simp, by go_simp⟩
theorem At3.alloc {w : World} {p : Nat} {K N : Int} {s : ByteArray} (h : At3 w p K N s) (o : Obj) : At3 (w.alloc o) p K N s := h.keep ((Below.refl _ _).alloc (Nat.le_refl _) _)
theorem below3 (w : World) (a b c : Obj) : Below w.heap.size w (((w.alloc a).alloc b).alloc c) := (below_2 w a b).alloc (by simp; omega) _
/-- Two values: the same, or apart by the first field that differs. -/
theorem val_ways (K N : Int) (s : ByteArray) (L M : Int) (t : ByteArray) : (K = L ∧ N = M ∧ s = t) ∨ (K == L) = false ∨ (K = L ∧ (N == M) = false) ∨ (K = L ∧ N = M ∧ (s.toList == t.toList) = false) := by
  by_cases h1 : K = L
  · by_cases h2 : N = M
    · by_cases h3 : s.toList = t.toList
      · exact .inl ⟨h1, h2, ba_eq h3⟩
      · exact .inr (.inr (.inr ⟨h1, h2, by simpa using h3⟩))
    · exact .inr (.inr (.inl ⟨h1, by simpa using h2⟩))
  · exact .inr (.inl (by simpa using h1))
theorem vl_inj {K N L M : Int} {s t : ByteArray} (hN : U64 N) (hM : U64 M) (h : vl K N s = vl L M t) : K = L ∧ N = M ∧ s = t := by
  simp only [Vl.mk.injEq] at h
  have := hN.lo; have := hM.lo
  exact ⟨h.1, by omega, ba_eq h.2.2⟩

set_option maxHeartbeats 8000000 in
theorem order_walk {K N L M J O : Int} {s t u : ByteArray} (hN : U64 N) (hM : U64 M) (hO : U64 O) (w : World) (hT : Tabs w) :
    Calls Tryd.prog 5 #[vlv K N s, vlv L M t, vlv J O u] w fun e w' => e = .returned (.bool true) ∧ Below w.heap.size w w' := by
  have HB := Lib.hid (fun a b c => below3 w a b c)
  have HTA := Lib.hid (fun a b c => hT.keep (HB.out a b c))
  clear hT
  have HV := Lib.hid (⟨((At3.new w K N s 24).alloc (.cells #[.int .i64 L, .int .u64 M, .string t] 24)).alloc (.cells #[.int .i64 J, .int .u64 O, .string u] 24),
    (At3.new (w.alloc (.cells #[.int .i64 K, .int .u64 N, .string s] 24)) L M t 24).alloc (.cells #[.int .i64 J, .int .u64 O, .string u] 24),
    At3.new ((w.alloc (.cells #[.int .i64 K, .int .u64 N, .string s] 24)).alloc (.cells #[.int .i64 L, .int .u64 M, .string t] 24)) J O u 24⟩ : _ ∧ _ ∧ _)
  have nN : (vl K N s).N < 18446744073709551616 := u64_m hN
  have nM : (vl L M t).N < 18446744073709551616 := u64_m hM
  have nO : (vl J O u).N < 18446744073709551616 := u64_m hO
  obtain ⟨x, hx⟩ : ∃ x, vcmp (vl K N s) (vl L M t) = x := ⟨_, rfl⟩
  obtain ⟨y, hy⟩ : ∃ y, vcmp (vl L M t) (vl J O u) = y := ⟨_, rfl⟩
  obtain ⟨z, hz⟩ : ∃ z, vcmp (vl K N s) (vl J O u) = z := ⟨_, rfl⟩
  have hx' : vcmp (vl L M t) (vl K N s) = -x := by rw [vcmp_neg _ _ nM nN, hx]
  have hy' : vcmp (vl J O u) (vl L M t) = -y := by rw [vcmp_neg _ _ nO nM, hy]
  have hz' : vcmp (vl J O u) (vl K N s) = -z := by rw [vcmp_neg _ _ nO nN, hz]
  have rx := vcmp_range (vl K N s) (vl L M t)
  have ry := vcmp_range (vl L M t) (vl J O u)
  have rz := vcmp_range (vl K N s) (vl J O u)
  have l1 : x ≤ 0 → y ≤ 0 → z ≤ 0 := fun a b => by have := vcmp_trans _ _ _ nN nM nO (hx ▸ a) (hy ▸ b); omega
  have l2 : 0 ≤ x → 0 ≤ y → 0 ≤ z := fun a b => by have := vcmp_trans _ _ _ nO nM nN (show vcmp (vl J O u) (vl L M t) ≤ 0 by omega) (show vcmp (vl L M t) (vl K N s) ≤ 0 by omega); omega
  have l3 : x = 0 → y = z := fun a => by
    have := (vcmp_eq _ _ nN nM).1 (hx.trans a)
    rw [← hy, ← hz, this]
  have l4 := vcmp_eq (vl K N s) (vl L M t) nN nM
  rw [hx] at rx l4
  rw [hy] at ry
  rw [hz] at rz
  have HX := Lib.hid hx
  have HX' := Lib.hid hx'
  have HY := Lib.hid hy
  have HZ := Lib.hid hz
  have HXX := Lib.hid (vcmp_self (vl K N s))
  have HFX : Hid (x = 0 → K = L ∧ N = M ∧ s = t) := Lib.hid (fun h => vl_inj hN hM (l4.1 h))
  have HFY : Hid (K = L ∧ N = M ∧ s = t → x = 0) := Lib.hid (fun h => l4.2 (by rw [h.1, h.2.1, h.2.2]))
  clear hx hy hz hx' hy' hz' nN nM nO l4
  go_enter Tryd.func5, Tryd.ntmps5
  go_wp2_with fail
  refine (awake_any _ (HTA.out _ _ _)).mono ?_
  rintro e w1 ⟨rfl, hb⟩
  obtain ⟨v1, v2, v3⟩ := HV.out
  replace v1 := v1.keep hb; replace v2 := v2.keep hb; replace v3 := v3.keep hb
  have H1 := Lib.hid ((HB.out _ _ _).trans (hb.mono (HB.out _ _ _).size))
  clear hb HV
  obtain ⟨p, hp⟩ : ∃ p, p = w.heap.size := ⟨_, rfl⟩
  rw [show (w.alloc (.cells #[.int .i64 K, .int .u64 N, .string s] 24)).heap.size = w.heap.size + 1 by simp, show ((w.alloc (.cells #[.int .i64 K, .int .u64 N, .string s] 24)).alloc (.cells #[.int .i64 L, .int .u64 M, .string t] 24)).heap.size = w.heap.size + 1 + 1 by simp] at *
  obtain ⟨a0, a1, a2⟩ := v1
  obtain ⟨b0, b1, b2⟩ := v2
  obtain ⟨c0, c1, c2⟩ := v3
  go_wp2_with fail
  refine (cmp_any hN hM _).mono ?_
  rintro e w2 ⟨rfl, hb⟩
  rw [HX.out]
  replace a0 := keep0 a0 hb; replace a1 := keep0 a1 hb; replace a2 := keep0 a2 hb
  replace b0 := keep0 b0 hb; replace b1 := keep0 b1 hb; replace b2 := keep0 b2 hb
  replace c0 := keep0 c0 hb; replace c1 := keep0 c1 hb; replace c2 := keep0 c2 hb
  have H2 := Lib.hid (H1.out.trans (hb.mono H1.out.size))
  clear hb
  go_wp2_with fail
  refine (cmp_any hM hO _).mono ?_
  rintro e w3 ⟨rfl, hb⟩
  rw [HY.out]
  replace a0 := keep0 a0 hb; replace a1 := keep0 a1 hb; replace a2 := keep0 a2 hb
  replace b0 := keep0 b0 hb; replace b1 := keep0 b1 hb; replace b2 := keep0 b2 hb
  replace c0 := keep0 c0 hb; replace c1 := keep0 c1 hb; replace c2 := keep0 c2 hb
  have H3 := Lib.hid (H2.out.trans (hb.mono H2.out.size))
  clear hb
  go_wp2_with fail
  refine (cmp_any hN hO _).mono ?_
  rintro e w4 ⟨rfl, hb⟩
  rw [HZ.out]
  replace a0 := keep0 a0 hb; replace a1 := keep0 a1 hb; replace a2 := keep0 a2 hb
  replace b0 := keep0 b0 hb; replace b1 := keep0 b1 hb; replace b2 := keep0 b2 hb
  have H4 := Lib.hid (H3.out.trans (hb.mono H3.out.size))
  clear hb c0 c1 c2
  go_wp2_with fail
  refine (cmp_any hM hN _).mono ?_
  rintro e w5 ⟨rfl, hb⟩
  rw [HX'.out]
  replace a0 := keep0 a0 hb; replace a1 := keep0 a1 hb; replace a2 := keep0 a2 hb
  replace b0 := keep0 b0 hb; replace b1 := keep0 b1 hb; replace b2 := keep0 b2 hb
  have H5 := Lib.hid (H4.out.trans (hb.mono H4.out.size))
  clear hb
  have HXYZ : Hid ((x = -1 ∧ y = -1 ∧ z ≤ 0) ∨ (x = -1 ∧ y = 0 ∧ z ≤ 0) ∨ (x = -1 ∧ y = 1) ∨ (x = 0 ∧ y = z) ∨ (x = 1 ∧ y = -1) ∨ (x = 1 ∧ y = 0 ∧ 0 ≤ z) ∨ (x = 1 ∧ y = 1 ∧ 0 ≤ z)) := Lib.hid (by omega)
  clear rx ry rz l1 l2 l3 HX HX' HY HZ H1 H2 H3 H4 HTA HB
  rcases val_ways K N s L M t with ⟨rfl, rfl, rfl⟩ | hne | ⟨rfl, hne⟩ | ⟨rfl, rfl, hne⟩
  · have h0 := HFY.out ⟨rfl, rfl, rfl⟩
    obtain rfl : y = z := by have := HXYZ.out; omega
    subst h0
    go_wp2_with fail
    refine (cmp_any hN hN _).mono ?_
    rintro e w6 ⟨rfl, hb⟩
    rw [HXX.out]
    have H6 := Lib.hid (H5.out.trans (hb.mono H5.out.size))
    clear hb
    have hyy : y ≤ 0 ∨ (¬ y ≤ 0 ∧ 0 ≤ y ∧ ¬ y < 0) := by omega
    rcases hyy with h1 | ⟨h1, h2, h3⟩
    all_goals
      go_wp2
      all_goals go_ret
      all_goals exact ⟨rfl, H6.out⟩
  all_goals
    have hx0 : x ≠ 0 := fun h => by
      obtain ⟨r1, r2, r3⟩ := HFX.out h
      first
      | (rw [r1] at hne; simp at hne; done)
      | (rw [r2] at hne; simp at hne; done)
      | (rw [r3] at hne; simp at hne; done)
    have hw : (x = -1 ∧ y = -1 ∧ ¬ 0 < z) ∨ (x = -1 ∧ y = 0 ∧ ¬ 0 < z) ∨ (x = -1 ∧ y = 1) ∨ (x = 1 ∧ y = -1) ∨ (x = 1 ∧ y = 0 ∧ ¬ z < 0) ∨ (x = 1 ∧ y = 1 ∧ ¬ z < 0) := by have := HXYZ.out; omega
    clear hx0 HFX HFY HXYZ
    rcases hw with ⟨rfl, rfl, h1⟩ | ⟨rfl, rfl, h1⟩ | ⟨rfl, rfl⟩ | ⟨rfl, rfl⟩ | ⟨rfl, rfl, h1⟩ | ⟨rfl, rfl, h1⟩
    all_goals
      go_wp2_with fail
      refine (cmp_any hN hN _).mono ?_
      rintro e w6 ⟨rfl, hb⟩
      rw [HXX.out]
      have H6 := Lib.hid (H5.out.trans (hb.mono H5.out.size))
      clear hb
      go_wp2
      all_goals go_ret
      all_goals exact ⟨rfl, H6.out⟩

end Go.Proofs.YtjkblmkgiiciaaaDoor
