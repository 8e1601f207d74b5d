/-
  Keys there and back (pure), and a slice of ints of one's own.
-/
import Derived.Test.YtpedcpehomkikaaDoorKeyRaw
import Derived.Test.YtpedcpehomkikaaDoorExtBlk
namespace Go.Proofs.YtpedcpehomkikaaDoor
open Go Go.RowKit
set_option linter.unusedVariables false
set_option linter.unusedSimpArgs false
set_option maxRecDepth 100000

/-- The kind as which a value is read back. -/
def kd (v : Vl) : Int := if v.K = 0 then 1 else v.K
theorem ok_range {v : Vl} (h : v.okB = true) : 0 ≤ v.K ∧ v.K ≤ 5 := by
  rcases ok_kinds h with ⟨e, _⟩ | ⟨e, _⟩ | ⟨e, _⟩ | ⟨e, _⟩ <;> omega
theorem fit_kd : ∀ {l : List Vl}, allGood l → fitL l (l.map kd)
  | [], _ => trivial
  | v :: l, h => by
    refine ⟨h v (by simp), ?_, fit_kd (fun u hu => h u (by simp [hu]))⟩
    unfold kd
    split
    · next e => exact .inr e
    · exact .inl rfl
theorem allGood_of {l : List Vl} (h : l.all Vl.okB = true) (hN : ∀ v ∈ l, v.N < 18446744073709551616) : allGood l := fun v hv => ⟨by simpa using List.all_eq_true.1 h v hv, hN v hv⟩
theorem enc_dec {l : List Vl} {ds : List Bool} {s : List UInt8} (hN : ∀ v ∈ l, v.N < 18446744073709551616) (h : (s, (0 : Int)) = encE l ds) : decE (l.map kd) ds s = (l, 0) := by
  obtain ⟨h1, h2, h3, h4⟩ := encE_ok (l := l) (ds := ds) (by rw [← h])
  rw [h4] at h
  simp only [Prod.mk.injEq, and_true] at h
  subst h
  have hg := allGood_of h2 hN
  have hk : ∀ k ∈ l.map kd, 1 ≤ k ∧ k ≤ 5 := fun k hk => by
    obtain ⟨v, hv, rfl⟩ := List.mem_map.1 hk
    have := ok_range (hg v hv).1
    unfold kd
    split <;> omega
  rw [decE_of (by simpa using h1) hk h3]
  have := decL_key (ds := ds) [] (fit_kd hg) (by simp [h1])
  rw [List.append_nil, if_pos rfl] at this
  rw [this]
theorem fit_all : ∀ {l : List Vl} {ks : List Int}, fitL l ks → l.all Vl.okB = true
  | [], [], _ => rfl
  | v :: l, k :: ks, h => by rw [List.all_cons, h.1.1, fit_all h.2.2]; rfl
  | [], _ :: _, h => h.elim
  | _ :: _, [], h => h.elim
theorem dec_enc {l : List Vl} {ks : List Int} {ds : List Bool} {s : List UInt8} (h : (l, (0 : Int)) = decE ks ds s) : encE l ds = (s, 0) := by
  obtain ⟨h1, h2, h3, l', h4, h5⟩ := decE_ok (ks := ks) (ds := ds) (s := s) (by rw [← h])
  rw [h5] at h
  simp only [Prod.mk.injEq, and_true] at h
  subst h
  obtain ⟨e, hf⟩ := key_decL h1.symm h2 h4
  rw [encE_of (by rw [fitL_length hf, h1]) (fit_all hf) (by rw [e]; exact h3), e]
theorem key_long : ∀ {l : List Vl} {ds : List Bool}, l.length = ds.length → l.all Vl.okB = true → l.length ≤ (keyL l ds).length
  | [], _, _, _ => Nat.zero_le _
  | v :: l, d :: ds, h, ho => by
    rw [List.all_cons, Bool.and_eq_true] at ho
    have ih := key_long (l := l) (ds := ds) (by simpa using h) ho.2
    have := (kb0_length ho.1).1
    rw [keyL, List.length_append, kb_len, List.length_cons]
    omega
  | _ :: _, [], h, _ => by simp at h
theorem enc_small {l : List Vl} {ds : List Bool} {s : List UInt8} (h : (s, (0 : Int)) = encE l ds) : l.length ≤ 256 ∧ l.length = ds.length ∧ s = keyL l ds ∧ s.length ≤ 256 ∧ l.all Vl.okB = true := by
  obtain ⟨h1, h2, h3, h4⟩ := encE_ok (l := l) (ds := ds) (by rw [← h])
  rw [h4] at h
  simp only [Prod.mk.injEq, and_true] at h
  refine ⟨Nat.le_trans (key_long h1 h2) h3, h1, h, by rw [h]; exact h3, h2⟩
/-! ### Ints of one's own -/
def ints (l : List Int) : List Value := l.map (Value.int .i64 ·)
theorem ints_get {l : List Int} {j : Nat} (h : j < l.length) : (ints l)[j]? = some (.int .i64 (l.getD j 0)) := by
  simp [ints, h]
theorem blk_ints {w : World} {g : Nat} {l : List Int} {t : TypeId} (h : w.heap[g]? = some (.cells (ints l).toArray t (0, 0))) : SlI w (some ⟨g, 0, none⟩) l := fun j hj => by
  refine ⟨g, 0, rfl, ?_⟩
  rw [Nat.zero_add]
  simp [World.cell?, h, ints, hj]
theorem blk_int {w : World} {g : Nat} {l : List Int} {t : TypeId} (h : w.heap[g]? = some (.cells (ints l).toArray t (0, 0))) {j : Nat} (hj : j < l.length) : w.cell? ⟨g, j, none⟩ = some (.int .i64 (l.getD j 0)) ∧ w.frozen? ⟨g, j, none⟩ = false := by
  constructor
  · simp [World.cell?, h, ints, hj]
  · simp [World.frozen?, h]
theorem store_int {w0 w : World} {g : Nat} {l : List Int} {t : TypeId} {J : Res} [Stab J] (h : Own w0 w (Sep (Blk g (.cells (ints l).toArray t (0, 0))) J)) (j : Nat) (z : Int) : Own w0 (w.setCell ⟨g, j, none⟩ (.int .i64 z)) (Sep (Blk g (.cells (ints (l.set j z)).toArray t (0, 0))) J) := by
  have := h.store j (.int .i64 z)
  have e : (ints l).toArray.setIfInBounds j (.int .i64 z) = (ints (l.set j z)).toArray := by
    rw [List.setIfInBounds_toArray]
    simp [ints, List.map_set]
  rwa [e] at this
theorem made_ints (n : Nat) : madeCells #[Value.int .i64 0] (n * 1) = (ints (List.replicate n 0)).toArray := by
  apply Array.ext_getElem?
  intro j
  by_cases h : j < n
  · have h1 : j % 1 = 0 := Nat.mod_one j
    simp [madeCells, ints, h, h1]
  · simp [madeCells, ints, h]
theorem run_make_ints (n : Nat) (hn : n * 8 ≤ 140737488355328) (w : World) : (Instr.makeSlice 24 (.int .i64 (n : Int)) (.int .i64 (n : Int))).run Tryd.prog w =
    .ok (.slice (some ⟨w.heap.size, 0, none⟩) n n) (w.alloc (.cells (ints (List.replicate n 0)).toArray 3)) := by
  have h0 : (Tryd.prog.info? 3).map (fun i => (i.zero, i.size, i.bytes)) = some (some (.int .i64 0), 1, 8) := by kernel_rfl
  obtain ⟨i, hi, hz, hs, hb⟩ := info_parts h0
  have := run_make (P := Tryd.prog) w 24 3 i (.int .i64 0) Tryd.underlying24 hi hz .i64 .i64 (n : Int) (n : Int) (by omega) (Int.le_refl _) (by rw [hb]; omega) (by omega)
  rw [this]
  simp only [Int.toNat_natCast, hs, Value.cells, made_ints]
theorem set_kd (L : List Int) (k m : Nat) (h : L.length = m) (hk : k < m) (x : Int) : (L.take k ++ List.replicate (m - k) 0).set k x = L.take k ++ [x] ++ List.replicate (m - (k + 1)) 0 := by
  have e : (L.take k).length = k := by rw [List.length_take]; omega
  rw [List.set_append_right _ _ (by omega), e, Nat.sub_self]
  rw [show m - k = (m - (k + 1)) + 1 by omega, List.replicate_succ, List.set_cons_zero, List.append_assoc]
  rfl

end Go.Proofs.YtpedcpehomkikaaDoor
