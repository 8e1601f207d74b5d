/-
  Contracts of package pack's Out: U8, U16, U32, U64, Flag, Text.
-/
import Derived.Test.YtookbmpaoljelaaPackOut
import Derived.Lib.AppendStr
namespace Go.Proofs.Ytookbmpaoljelaa
open Go Go.RowKit Go.Lib
set_option linter.unusedVariables false
set_option linter.unusedSimpArgs false
set_option maxRecDepth 100000

theorem put_chain {w w1 w2 : World} {p : Nat} {v v1 : Value} (ho : Only (OutS p v) w w1) (hb : v1.ownBlock = v.ownBlock ∨ ∃ g, v1.ownBlock = some g ∧ w.heap.size ≤ g) (ho2 : Only (OutS p v1) w1 w2) : Only (OutS p v) w w2 :=
  ho.trans ho2 (fun k hk h => OutS.sub hb k hk h)

set_option maxHeartbeats 400000 in
theorem outU64 (p x : Nat) (v : Value) (xs : List UInt8) (w : World) (hO : OutV w p v xs) (hx : x < 18446744073709551616) (hlen : xs.length + 8 ≤ 140737488355328) :
    Calls Try.prog 39 #[.pointer (some ⟨p, 0, none⟩), .int .u64 x] w (PutPost w p v (xs ++ beB 8 x)) := by
  have HX := Lib.hid hx; clear hx
  have HL := Lib.hid hlen; clear hlen
  have HO := Lib.hid hO; clear hO
  have HE : Hid (IntKind.u64.wrap (x : Int) = (x : Int)) := by have := HX.out; show _ = _; rw [IntKind.wrap_u64]; omega
  go_enter Try.func39, Try.ntmps39
  go_wp2_with fail
  try rw [HE.out]
  refine (putNumber p x 8 v xs w HO.out (by omega) (by have := HX.out; omega) HL.out).mono ?_
  rintro e w1 ⟨rfl, hp⟩
  have HP := Lib.hid hp; clear hp
  go_wp2
  exact bodyPost_end (results_none rfl _ _ _) rfl ⟨rfl, HP.out⟩


set_option maxHeartbeats 400000 in
theorem outU16 (p x : Nat) (v : Value) (xs : List UInt8) (w : World) (hO : OutV w p v xs) (hx : x < 65536) (hlen : xs.length + 2 ≤ 140737488355328) :
    Calls Try.prog 72 #[.pointer (some ⟨p, 0, none⟩), .int .u16 x] w (PutPost w p v (xs ++ beB 2 x)) := by
  have HX := Lib.hid hx; clear hx
  have HL := Lib.hid hlen; clear hlen
  have HO := Lib.hid hO; clear hO
  have HE : Hid (IntKind.u64.wrap (x : Int) = (x : Int)) := by have := HX.out; show _ = _; rw [IntKind.wrap_u64]; omega
  go_enter Try.func72, Try.ntmps72
  go_wp2_with fail
  try rw [HE.out]
  refine (putNumber p x 2 v xs w HO.out (by omega) (by have := HX.out; omega) HL.out).mono ?_
  rintro e w1 ⟨rfl, hp⟩
  have HP := Lib.hid hp; clear hp
  go_wp2
  exact bodyPost_end (results_none rfl _ _ _) rfl ⟨rfl, HP.out⟩

set_option maxHeartbeats 400000 in
theorem outU8 (p x : Nat) (v : Value) (xs : List UInt8) (w : World) (hO : OutV w p v xs) (hx : x < 256) (hlen : xs.length + 1 ≤ 140737488355328) :
    Calls Try.prog 71 #[.pointer (some ⟨p, 0, none⟩), .int .u8 x] w (PutPost w p v (xs ++ beB 1 x)) := by
  have HX := Lib.hid hx; clear hx
  have HL := Lib.hid hlen; clear hlen
  have HO := Lib.hid hO; clear hO
  have HE : Hid (IntKind.u64.wrap (x : Int) = (x : Int)) := by have := HX.out; show _ = _; rw [IntKind.wrap_u64]; omega
  go_enter Try.func71, Try.ntmps71
  go_wp2_with fail
  try rw [HE.out]
  refine (putNumber p x 1 v xs w HO.out (by omega) (by have := HX.out; omega) HL.out).mono ?_
  rintro e w1 ⟨rfl, hp⟩
  have HP := Lib.hid hp; clear hp
  go_wp2
  exact bodyPost_end (results_none rfl _ _ _) rfl ⟨rfl, HP.out⟩

/-- What Flag puts. -/
def flagB : Bool → List UInt8
  | true => [1]
  | false => [0]

set_option maxHeartbeats 400000 in
theorem outFlag (p : Nat) (b : Bool) (v : Value) (xs : List UInt8) (w : World) (hO : OutV w p v xs) (hlen : xs.length + 1 ≤ 140737488355328) :
    Calls Try.prog 34 #[.pointer (some ⟨p, 0, none⟩), .bool b] w (PutPost w p v (xs ++ flagB b)) := by
  have HL := Lib.hid hlen; clear hlen
  have HO := Lib.hid hO; clear hO
  cases b with
  | true =>
    go_enter Try.func34, Try.ntmps34
    go_wp2_with fail
    refine (outU8 p 1 v xs w HO.out (by omega) HL.out).mono ?_
    rintro e w1 ⟨rfl, hp⟩
    have HP := Lib.hid hp; clear hp
    go_wp2
    exact bodyPost_end (results_none rfl _ _ _) rfl ⟨rfl, HP.out⟩
  | false =>
    go_enter Try.func34, Try.ntmps34
    go_wp2_with fail
    refine (outU8 p 0 v xs w HO.out (by omega) HL.out).mono ?_
    rintro e w1 ⟨rfl, hp⟩
    have HP := Lib.hid hp; clear hp
    go_wp2
    exact bodyPost_end (results_none rfl _ _ _) rfl ⟨rfl, HP.out⟩

set_option maxHeartbeats 400000 in
theorem outU8_nil (x : Nat) (w : World) (hx : x < 256) :
    Calls Try.prog 71 #[.pointer none, .int .u8 x] w fun e w' => e = .returned (.tuple #[]) ∧ w = w' := by
  go_enter Try.func71, Try.ntmps71
  go_wp2_with fail
  refine (number_nil _ _ w).mono ?_
  rintro e w' ⟨rfl, rfl⟩
  go_wp2
  exact bodyPost_end (results_none rfl _ _ _) rfl ⟨rfl, rfl⟩

set_option maxHeartbeats 400000 in
theorem outText_nil (s : ByteArray) (w : World) :
    Calls Try.prog 73 #[.pointer none, .string s] w fun e w' => e = .returned (.bool false) ∧ w = w' := by
  go_enter Try.func73, Try.ntmps73
  go_wp2
  go_ret
  exact ⟨rfl, rfl⟩

set_option maxHeartbeats 400000 in
theorem outText_long (p : Nat) (s : ByteArray) (w : World) (hs : 65535 < s.size) :
    Calls Try.prog 73 #[.pointer (some ⟨p, 0, none⟩), .string s] w fun e w' => e = .returned (.bool false) ∧ w = w' := by
  have hs' : (65535 : Int) < (s.size : Int) := by omega
  go_enter Try.func73, Try.ntmps73
  go_wp2
  go_ret
  exact ⟨rfl, rfl⟩

/-- append of a string's bytes, and where the new row lies. -/
theorem run_str_at (w : World) (v : Value) (n : Nat) (xs : List Value) (hown : w.ownsRow 0 5 1 v n xs) (s : ByteArray) (hlen : n + s.size ≤ 140737488355328) :
    ∃ v' w', (Builtin.append_ #[29, 9] 29 #[v, .string s]).run Try.prog w = .ok v' w' ∧ w'.ownsRow 0 5 1 v' (n + s.size) (xs ++ strCells s) ∧ w.grownBy w' v.ownBlock ∧
      (v'.ownBlock = v.ownBlock ∨ ∃ g, v'.ownBlock = some g ∧ w.heap.size ≤ g) := by
  obtain ⟨i0, hi, hz0, hz1, hz2⟩ := info_parts Try.infoU8
  have h63 : n + s.size ≤ maxLen := by unfold maxLen; omega
  obtain ⟨v', w', hr, h2, h3, h4⟩ := run_append_own_string (P := Try.prog) w 0 29 9 29 5 i0 Try.underlying29 Try.underlying9 hi hz0 hz1 hz2 v n xs hown s h63 hlen (Nat.zero_le _)
  refine ⟨v', w', hr, h2, h3, ?_⟩
  rcases hown.2 with ⟨rfl, rfl⟩ | ⟨g, cap, cur, rfl, hbg, hg, hnc, hcm, hcs, htake⟩
  · have hx : xs = [] := List.eq_nil_of_length_eq_zero (by simpa using hown.1)
    subst hx
    obtain ⟨v2, w2, hr2, k2, _, _⟩ := run_append_own_string (P := Try.prog) w w.heap.size 29 9 29 5 i0 Try.underlying29 Try.underlying9 hi hz0 hz1 hz2 (.slice none 0 0) 0 [] (World.ownsRow_nil _ _ _ _) s h63 hlen (Nat.le_refl _)
    rw [hr] at hr2
    simp only [Result.ok.injEq] at hr2
    obtain ⟨rfl, rfl⟩ := hr2
    rcases k2.2 with ⟨rfl, _⟩ | ⟨g, cap, cur, rfl, hb, _⟩
    · exact .inl rfl
    · exact .inr ⟨g, rfl, hb⟩
  · by_cases hroom : n + s.size ≤ cap
    · have hr2 := run_append_room_string (P := Try.prog) w 29 9 29 5 i0 Try.underlying29 Try.underlying9 hi hz1 g n cap cur hg s hroom (by omega)
      rw [hr] at hr2
      simp only [Result.ok.injEq] at hr2
      exact .inl (by rw [hr2.1]; rfl)
    · have hr2 := run_append_grow_string (P := Try.prog) w 29 9 29 5 i0 (.int .u8 0) Try.underlying29 Try.underlying9 hi hz0 ⟨g, 0, none⟩ n cap xs (by rw [hz1]; exact hown.1) (hown.cells (g := g) rfl) s (by omega)
        (by unfold maxLen at h63; omega) (by rw [hz2]; exact growslice_fits (by omega) (by omega))
      rw [hr] at hr2
      simp only [Result.ok.injEq] at hr2
      exact .inr ⟨w.heap.size, by rw [hr2.1]; rfl, Nat.le_refl _⟩

theorem wp_text {ops : Array Oper} {rest : List Oper} {o : Oper} {a : Act} {Q : Exit → Act → World → Prop} (w : World) (p : Nat) (v : Value) (xs : List UInt8) (s : ByteArray) (hV : OutV w p v xs) (hlen : xs.length + s.size ≤ 140737488355328)
    (hgd : o.guard = none) (sl x : Operand) (ho : o.op = .call { callee := .builtin .append, args := #[sl, x], argTypes := #[29, 9] }) (hty : o.type = 29)
    (hs : a.eval sl = v) (hx : a.eval x = .string s)
    (h : ∀ ao cap w', w'.cell? ⟨p, 0, none⟩ = some v → w'.frozen? ⟨p, 0, none⟩ = false → Hid (PutMid w p v (xs ++ s.data.toList) (.slice ao (xs.length + s.size) cap) w') → wpList Try.prog ops Q rest (a.put o.dst (.slice ao (xs.length + s.size) cap)) w') :
    wpList Try.prog ops Q (o :: rest) a w := by
  refine wpList_plain hgd fun K hK => ?_
  obtain ⟨v', w', hr, h2, h3, h4⟩ := run_str_at w v xs.length (u8s xs) hV.own s hlen
  obtain ⟨ao, cap, rfl⟩ := own_shape h2
  have hm : PutMid w p v (xs ++ s.data.toList) (.slice ao (xs.length + s.size) cap) w' := by
    refine ⟨(h3.block p (lt_of_some hV.at') (fun e => hV.ne e.symm)).trans hV.at', ?_, h4, (Only.refl _ w).grown h3 (fun k _ e => .inr e)⟩
    rw [u8s_append, List.length_append, Array.length_toList]
    exact h2
  unfold Oper.wp execOp
  simp only [ho, hty, resolve, invoke, builtin, Sem.run_bind, Sem.run_pure, Result.andThen_ok, List.map_toArray, List.map_cons, List.map_nil, hs, hx, hr]
  exact hK _ _ (h _ _ _ (cell_of_one hm.at') (free_of_one hm.at') hm)

end Go.Proofs.Ytookbmpaoljelaa
