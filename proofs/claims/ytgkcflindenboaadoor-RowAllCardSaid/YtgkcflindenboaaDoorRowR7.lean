/-
  The document's own rows: take, its parts: one value's bytes by the In's calls (pure), what take leaves.
-/
import Derived.Test.YtgkcflindenboaaDoorRowR6
namespace Go.Proofs.YtgkcflindenboaaDoor
open Go Go.RowKit
set_option linter.unusedVariables false
set_option linter.unusedSimpArgs false
set_option maxRecDepth 100000

theorem drop_at {bs : List UInt8} {a : Nat} (h : a < bs.length) : bs.drop a = bs.getD a 0 :: bs.drop (a + 1) := by
  rw [List.drop_eq_getElem_cons h]
  simp [List.getD_eq_getElem?_getD, h]
theorem take1_end (k : Int) {bs : List UInt8} {a : Nat} (h : bs.length ≤ a) : take1 k (bs.drop a) = none := by
  rw [List.drop_of_length_le h]
  rfl
theorem take1_big (k : Int) {bs : List UInt8} {a : Nat} (h : a < bs.length) (hb : 1 < (bs.getD a 0).toNat) : take1 k (bs.drop a) = none := by
  rw [drop_at h]
  generalize bs.getD a 0 = b at *
  show (if b = 1 then some ((⟨0, 0, []⟩ : Vl), bs.drop (a + 1)) else if b = 0 then rawT k (bs.drop (a + 1)) else none) = none
  rw [if_neg (by rintro rfl; simp at hb), if_neg (by rintro rfl; simp at hb)]
theorem take1_one (k : Int) {bs : List UInt8} {a : Nat} (h : a < bs.length) (hb : (bs.getD a 0).toNat = 1) : take1 k (bs.drop a) = some (⟨0, 0, []⟩, bs.drop (a + 1)) := by
  rw [drop_at h]
  generalize bs.getD a 0 = b at *
  obtain rfl : b = 1 := UInt8.toNat_inj.1 hb
  rfl
theorem take1_zero (k : Int) {bs : List UInt8} {a : Nat} (h : a < bs.length) (hb : (bs.getD a 0).toNat = 0) : take1 k (bs.drop a) = rawT k (bs.drop (a + 1)) := by
  rw [drop_at h]
  generalize bs.getD a 0 = b at *
  obtain rfl : b = 0 := UInt8.toNat_inj.1 hb
  rfl
theorem can_at (n : Nat) {bs : List UInt8} {a : Nat} : can n (bs.drop a) false = decide (n ≤ bs.length - a) := by
  simp [can, List.length_drop]
theorem rawN_no {k : Int} (hk : k = 1 ∨ k = 2) {bs : List UInt8} {a : Nat} (h : bs.length < a + 8) : rawT k (bs.drop a) = none := by
  rw [raw_num hk, can_at, decide_eq_false (by omega)]
  rfl
theorem rawN_ok {k : Int} (hk : k = 1 ∨ k = 2) {bs : List UInt8} {a : Nat} (h : a + 8 ≤ bs.length) : rawT k (bs.drop a) = some (⟨k, numB ((bs.drop a).take 8), []⟩, bs.drop (a + 8)) := by
  have hc : can 8 (bs.drop a) false = true := by rw [can_at, decide_eq_true (by omega)]
  rw [raw_num hk, hc, if_neg (by decide)]
  simp [nextR, nextL, hc, List.drop_drop]
theorem rawB_no {bs : List UInt8} {a : Nat} (h : bs.length < a + 1) : rawT 3 (bs.drop a) = none := by
  rw [raw_bool, can_at, decide_eq_false (by omega)]
  rfl
theorem rawB_ok {bs : List UInt8} {a : Nat} (h : a + 1 ≤ bs.length) : rawT 3 (bs.drop a) = some (⟨3, numB ((bs.drop a).take 1), []⟩, bs.drop (a + 1)) := by
  have hc : can 1 (bs.drop a) false = true := by rw [can_at, decide_eq_true (by omega)]
  rw [raw_bool, hc, if_neg (by decide)]
  simp only [nextR, nextL, hc, if_true, List.drop_drop]
theorem rawX_no {k : Int} (h1 : ¬ (k = 1 ∨ k = 2)) (h3 : k ≠ 3) {bs : List UInt8} {a : Nat} (h : bs.length < a + 2 ∨ bs.length < a + 2 + txtN (bs.drop a)) : rawT k (bs.drop a) = none := by
  unfold rawT
  rw [if_neg h1, if_neg h3, if_pos]
  have : txtN (bs.drop a) = numB ((bs.drop a).take 2) := rfl
  rw [← this, List.length_drop]
  omega
theorem rawX_ok {k : Int} (h1 : ¬ (k = 1 ∨ k = 2)) (h3 : k ≠ 3) {bs : List UInt8} {a : Nat} (h : a + 2 + txtN (bs.drop a) ≤ bs.length) : rawT k (bs.drop a) = some (⟨k, 0, ((bs.drop a).drop 2).take (txtN (bs.drop a))⟩, bs.drop (a + 2 + txtN (bs.drop a))) := by
  unfold rawT
  have e : txtN (bs.drop a) = numB ((bs.drop a).take 2) := rfl
  rw [if_neg h1, if_neg h3, ← e, if_neg (by rw [List.length_drop]; omega)]
  simp [List.drop_drop]

/-- What one value's bytes have told: the value, or that there is none. -/
structure OneV (K : Int) (bs : List UInt8) (a : Nat) (v : Vv) (a' : Nat) (bad' : Bool) : Prop where
  u : U64 v.N
  g : bad' = false → take1 K (bs.drop a) = some (v.vl, bs.drop a') ∧ a' ≤ bs.length
  n : bad' = true → take1 K (bs.drop a) = none
theorem OneV.null (K : Int) {bs : List UInt8} {a a' : Nat} {bad' : Bool} (h0 : bad' = false → a < bs.length ∧ a' = a + 1 ∧ (bs.getD a 0).toNat = 1) (h1 : bad' = true → False) : OneV K bs a ⟨0, 0, ⟨#[]⟩⟩ a' bad' := by
  refine ⟨⟨by simp, by simp⟩, fun e => ?_, fun e => (h1 e).elim⟩
  obtain ⟨e1, rfl, e2⟩ := h0 e
  refine ⟨?_, e1⟩
  rw [take1_one K e1 e2]
  show _ = some ((⟨0, 0, (ByteArray.mk #[]).toList⟩ : Vl), _)
  rw [ba_nil]
/-- What Flag has told, where it is no null. -/
structure OneF (bs : List UInt8) (a a1 : Nat) (bad1 : Bool) : Prop where
  g : bad1 = false → a < bs.length ∧ a1 = a + 1 ∧ (bs.getD a 0).toNat = 0
  n : bad1 = true → bs.length ≤ a ∨ 1 < (bs.getD a 0).toNat
theorem OneF.none {bs : List UInt8} {a a1 : Nat} (h : OneF bs a a1 true) (K : Int) : take1 K (bs.drop a) = Option.none := by
  by_cases hl : bs.length ≤ a
  · exact take1_end K hl
  · rcases h.n rfl with h | h
    · exact absurd h hl
    · exact take1_big K (by omega) h
theorem u64_ofR {x : Nat} (h : x < 18446744073709551616) : U64 (x : Int) := ⟨by omega, by omega⟩
theorem OneF.num {K : Int} (hK : K = 1 ∨ K = 2) {bs : List UInt8} {a a1 a2 x : Nat} {bad1 bad2 : Bool} (h : OneF bs a a1 bad1)
    (h0 : bad2 = false → bad1 = false ∧ a1 + 8 ≤ bs.length ∧ a2 = a1 + 8 ∧ x = numB ((bs.drop a1).take 8)) (h1 : bad2 = true → (bad1 = true ∨ bs.length < a1 + 8) ∧ x = 0) : OneV K bs a ⟨K, (x : Int), ⟨#[]⟩⟩ a2 bad2 := by
  refine ⟨u64_ofR ?_, fun e => ?_, fun e => ?_⟩
  · cases bad2 with
    | true => rw [(h1 rfl).2]; decide
    | false =>
      rw [(h0 rfl).2.2.2]
      have := numB_lt 8 ((bs.drop a1).take 8) (by simp; have := (h0 rfl).2.1; omega)
      rwa [pow8] at this
  · obtain ⟨rfl, e1, rfl, rfl⟩ := h0 e
    obtain ⟨e2, rfl, e3⟩ := h.g rfl
    refine ⟨?_, e1⟩
    rw [take1_zero K e2 e3, rawN_ok hK e1]
    show _ = some (vl _ _ _, _)
    rw [vl_nil]
  · obtain ⟨e1, rfl⟩ := h1 e
    cases bad1 with
    | true => exact h.none K
    | false =>
      obtain ⟨e2, rfl, e3⟩ := h.g rfl
      rw [take1_zero K e2 e3]
      exact rawN_no hK (e1.resolve_left (by decide))
theorem OneF.bool {bs : List UInt8} {a a1 a2 x : Nat} {bad1 bad2 : Bool} (h : OneF bs a a1 bad1)
    (h0 : bad2 = false → bad1 = false ∧ a1 + 1 ≤ bs.length ∧ a2 = a1 + 1 ∧ x = numB ((bs.drop a1).take 1)) (h1 : bad2 = true → (bad1 = true ∨ bs.length < a1 + 1) ∧ x = 0) : OneV 3 bs a ⟨3, (x : Int), ⟨#[]⟩⟩ a2 bad2 := by
  refine ⟨u64_ofR ?_, fun e => ?_, fun e => ?_⟩
  · cases bad2 with
    | true => rw [(h1 rfl).2]; decide
    | false =>
      rw [(h0 rfl).2.2.2]
      have := numB_lt 1 ((bs.drop a1).take 1) (by simp; have := (h0 rfl).2.1; omega)
      omega
  · obtain ⟨rfl, e1, rfl, rfl⟩ := h0 e
    obtain ⟨e2, rfl, e3⟩ := h.g rfl
    refine ⟨?_, e1⟩
    rw [take1_zero 3 e2 e3, rawB_ok e1]
    show _ = some (vl _ _ _, _)
    rw [vl_nil]
  · obtain ⟨e1, rfl⟩ := h1 e
    cases bad1 with
    | true => exact h.none 3
    | false =>
      obtain ⟨e2, rfl, e3⟩ := h.g rfl
      rw [take1_zero 3 e2 e3]
      exact rawB_no (e1.resolve_left (by decide))
theorem OneF.text {K : Int} (hK : ¬ (K = 1 ∨ K = 2)) (h3 : K ≠ 3) {bs S : List UInt8} {a a1 a2 : Nat} {bad1 bad2 : Bool} (h : OneF bs a a1 bad1)
    (h0 : bad2 = false → bad1 = false ∧ a1 + 2 + txtN (bs.drop a1) ≤ bs.length ∧ a2 = a1 + 2 + txtN (bs.drop a1) ∧ S = ((bs.drop a1).drop 2).take (txtN (bs.drop a1)))
    (h1 : bad2 = true → (bad1 = true ∨ bs.length < a1 + 2 ∨ bs.length < a1 + 2 + txtN (bs.drop a1)) ∧ S = []) : OneV K bs a ⟨K, 0, ⟨S.toArray⟩⟩ a2 bad2 := by
  refine ⟨⟨by simp, by simp⟩, fun e => ?_, fun e => ?_⟩
  · obtain ⟨rfl, e1, rfl, rfl⟩ := h0 e
    obtain ⟨e2, rfl, e3⟩ := h.g rfl
    refine ⟨?_, e1⟩
    rw [take1_zero K e2 e3, rawX_ok hK h3 e1]
    show _ = some ((⟨K, 0, (ByteArray.mk _).toList⟩ : Vl), _)
    rw [ByteArray.toList_mk]
  · obtain ⟨e1, rfl⟩ := h1 e
    cases bad1 with
    | true => exact h.none K
    | false =>
      obtain ⟨e2, rfl, e3⟩ := h.g rfl
      rw [take1_zero K e2 e3]
      exact rawX_no hK h3 (e1.resolve_left (by decide))

def icells (l : List Nat) : List Value := l.map fun (a : Nat) => Value.int .i64 (a : Int)
theorem icells_len (l : List Nat) : (icells l).length = l.length := by simp [icells]
theorem icells_snoc (l : List Nat) (a : Nat) : icells (l ++ [a]) = icells l ++ [.int .i64 (a : Int)] := by simp [icells]
theorem icells_one (l : List Nat) : ∀ u ∈ icells l, u.oneCell' = true := by
  intro u hu
  simp only [icells, List.mem_map] at hu
  obtain ⟨a, _, rfl⟩ := hu
  rfl
theorem Tryd.infoIntR : (Tryd.prog.info? 3).map (fun i => (i.zero, i.size, i.bytes)) = some (some (.int .i64 0), 1, 8) := by kernel_rfl

/-- What take answers: the values and where each begins, or that there is no row. -/
def RTakePost (cs : List Cv) (s : List UInt8) (w : World) (e : Ending) (w' : World) : Prop :=
  ∃ (lv av : Value) (vs : List Vv) (ats : List Nat) (ok : Bool), e = .returned (.tuple #[lv, av, .bool ok]) ∧
    (ok = true → ∃ b r, s = b :: r ∧ 1 ≤ b.toNat ∧ b.toNat ≤ cs.length ∧ TakeS (cs.take b.toNat) r vs ats b.toNat []) ∧
    (ok = false → ∀ b r, s = b :: r → 1 ≤ b.toNat → b.toNat ≤ cs.length → takeL (cs.take b.toNat) r = none) ∧
    Own w w' (Sep (RowV 42 3 lv vs.length (vcells vs)) (RowV 3 1 av ats.length (icells ats)))
theorem own_nil2 {w w' : World} (ho : Only (fun _ => False) w w') : Own w w' (Sep (RowV 42 3 (.slice none 0 0) 0 (vcells [])) (RowV 3 1 (.slice none 0 0) 0 (icells []))) := by
  have h := ((((Own.start w).quiet ho).row_nil 3 1).row_nil 42 3).assoc'.fst
  exact h
theorem rtake_none {cs : List Cv} {s : List UInt8} {w w' : World} (h : ∀ b r, s = b :: r → 1 ≤ b.toNat → b.toNat ≤ cs.length → takeL (cs.take b.toNat) r = none) (ho : Only (fun _ => False) w w') :
    RTakePost cs s w (.returned (.tuple #[.slice none 0 0, .slice none 0 0, .bool false])) w' :=
  ⟨_, _, [], [], false, rfl, (fun e => by cases e), fun _ => h, own_nil2 ho⟩

end Go.Proofs.YtgkcflindenboaaDoor
