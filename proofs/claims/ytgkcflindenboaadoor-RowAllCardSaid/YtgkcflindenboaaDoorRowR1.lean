/-
  The document's own rows: put, Bytes, Grown.
-/
import Derived.Test.YtgkcflindenboaaDoorRowJ6
namespace Go.Proofs.YtgkcflindenboaaDoor.R
open Go Go.RowKit Go.Proofs.YtgkcflindenboaaDoor
set_option linter.unusedVariables false
set_option linter.unusedSimpArgs false
set_option maxRecDepth 100000

theorem OutV.new (w : World) : OutV (w.alloc (.cells #[.slice none 0 0] 90)) w.heap.size (.slice none 0 0) [] :=
  ⟨heap_alloc_new w _, World.ownsRow_nil _ _ _ _⟩

theorem OutV.keep {S : Nat → Prop} {w w' : World} {p : Nat} {v : Value} {xs : List UInt8} (h : OutV w p v xs) (ho : Only S w w') (hp : ¬ S p) (hv : ∀ g, v.ownBlock = some g → ¬ S g) : OutV w' p v xs := by
  refine ⟨ho.keep h.at' hp, h.own.1, ?_⟩
  rcases h.own.2 with h0 | ⟨g, cap, cur, rfl, hb, hg, rest⟩
  · exact .inl h0
  · exact .inr ⟨g, cap, cur, rfl, hb, ho.keep hg (hv g rfl), rest⟩
theorem OutV.other {w : World} {p k : Nat} {v : Value} {xs : List UInt8} {cs : Array Value} (h : OutV w p v xs) (hk : w.heap[k]? = some (.cells cs 42 (0, 0))) : ¬ OutS p v k := by
  rintro (rfl | e)
  · have := h.at'
    rw [hk] at this
    simp at this
  · rcases h.own.2 with ⟨rfl, _⟩ | ⟨g, cap, cur, rfl, _, hg, _⟩
    · simp [Value.ownBlock] at e
    · simp [Value.ownBlock] at e
      subst e
      rw [hk] at hg
      simp at hg
/-- Where put stands: its value's box, the Out. -/
structure PutS (w w1 : World) (p pb : Nat) (v0 v : Value) (cs : Array Value) (xs : List UInt8) : Prop where
  out : OutV w1 p v xs
  row : v.ownBlock = v0.ownBlock ∨ ∃ g, v.ownBlock = some g ∧ w.heap.size ≤ g
  only : Only (OutS p v0) w w1
  box : w1.heap[pb]? = some (.cells cs 42 (0, 0))
theorem PutS.start {w : World} {p : Nat} {v : Value} {xs : List UInt8} (h : OutV w p v xs) (cs : Array Value) : PutS w (w.alloc (.cells cs 42)) p w.heap.size v v cs xs :=
  ⟨h.keep ((Only.refl (fun _ => False) w).alloc _) (fun h => h) (fun _ _ h => h), .inl rfl, (Only.refl _ w).alloc _, heap_alloc_new w _⟩
theorem PutS.put {w w1 w2 : World} {p pb : Nat} {v0 v : Value} {cs : Array Value} {xs ys : List UInt8} (h : PutS w w1 p pb v0 v cs xs)
    (hp : ∃ v', OutV w2 p v' ys ∧ (v'.ownBlock = v.ownBlock ∨ ∃ g, v'.ownBlock = some g ∧ w1.heap.size ≤ g) ∧ Only (OutS p v) w1 w2) : ∃ v', PutS w w2 p pb v0 v' cs ys := by
  obtain ⟨v', h1, h2, h3⟩ := hp
  exact ⟨v', h1, row_trans h.only.size h.row h2, put_chain h.only h.row h3, h3.keep h.box (h.out.other h.box)⟩
theorem PutS.done {w w1 : World} {p pb : Nat} {v0 v : Value} {cs : Array Value} {xs : List UInt8} (h : PutS w w1 p pb v0 v cs xs) : PutPost w p v0 xs (.returned (.tuple #[])) w1 := ⟨rfl, v, h.out, h.row, h.only⟩
theorem PutS.c3 {w w1 : World} {p pb : Nat} {v0 v a b c : Value} {xs : List UInt8} (h : PutS w w1 p pb v0 v #[a, b, c] xs) : w1.cell? ⟨pb, 0, none⟩ = some a ∧ w1.cell? ⟨pb, 1, none⟩ = some b ∧ w1.cell? ⟨pb, 2, none⟩ = some c := by
  simp [World.cell?, h.box]

set_option maxHeartbeats 2000000 in
theorem rput_any (p : Nat) (K N : Int) (S : ByteArray) (v : Value) (xs : List UInt8) (w : World) (hO : OutV w p v xs) (hN : U64 N) (hok : (vl K N S).okB = true) (hlen : xs.length ≤ 100000) :
    Calls Tryd.prog 55 #[.pointer (some ⟨p, 0, none⟩), vlv K N S] w (PutPost w p v (xs ++ rb (vl K N S))) := by
  have HL := Lib.hid hlen
  obtain ⟨x, rfl⟩ : ∃ x : Nat, N = (x : Int) := ⟨N.toNat, by have := hN.lo; omega⟩
  have hx : x < 18446744073709551616 := by have := hN.hi; omega
  have HS := Lib.hid (PutS.start hO #[.int .i64 K, .int .u64 (x : Int), .string S])
  have hK : K = 0 ∨ K = 1 ∨ K = 2 ∨ K = 3 ∨ K = 4 ∨ K = 5 := by
    rcases ok_kinds hok with ⟨e, _⟩ | ⟨e, _⟩ | ⟨e, _⟩ | ⟨e, _⟩ <;> simp only at e <;> omega
  have HSZ : Hid ((K = 4 ∨ K = 5) → S.size ≤ 64) := Lib.hid (fun e => by
    rcases ok_kinds hok with ⟨f, _⟩ | ⟨f, _⟩ | ⟨f, _⟩ | ⟨_, _, f⟩
    · simp only at f; omega
    · simp only at f; omega
    · simp only at f; omega
    · rw [← ba_size]; exact f)
  have HB3 : Hid (K = 3 → x < 2) := Lib.hid (fun e => by
    rcases ok_kinds hok with ⟨f, _⟩ | ⟨f, _⟩ | ⟨_, f, _⟩ | ⟨f, _, _⟩
    · simp only at f; omega
    · simp only at f; omega
    · simp only at f; omega
    · simp only at f; omega)
  clear hO hN hok hlen
  rcases hK with rfl | rfl | rfl | rfl | rfl | rfl
  · have HE := Lib.hid (rb_null (v := vl 0 (x : Int) S) rfl)
    generalize rb (vl 0 (x : Int) S) = E at *
    obtain ⟨c0, c1, c2⟩ := HS.out.c3
    go_enter Tryd.func55, Tryd.ntmps55
    go_wp2_with fail
    refine (outFlag p true v xs _ HS.out.out (by have := HL.out; omega)).mono ?_
    rintro e w1 ⟨rfl, h1⟩
    obtain ⟨v1, h2⟩ := HS.out.put h1
    have H2 := Lib.hid h2
    clear h1 h2 c0 c1 c2
    obtain ⟨c0, c1, c2⟩ := H2.out.c3
    go_wp2_with fail
    refine bodyPost_end (results_none rfl _ _ _) rfl ?_
    rw [HE.out]
    exact H2.out.done
  · have HE := Lib.hid (rb_num (v := vl 1 (x : Int) S) (.inl rfl))
    generalize rb (vl 1 (x : Int) S) = E at *
    obtain ⟨c0, c1, c2⟩ := HS.out.c3
    go_enter Tryd.func55, Tryd.ntmps55
    go_wp2_with fail
    refine (outFlag p false v xs _ HS.out.out (by have := HL.out; omega)).mono ?_
    rintro e w1 ⟨rfl, h1⟩
    obtain ⟨v1, h2⟩ := HS.out.put h1
    have H2 := Lib.hid h2
    clear h1 h2 c0 c1 c2
    obtain ⟨c0, c1, c2⟩ := H2.out.c3
    go_wp2_with fail
    refine (putNumber p x 8 v1 (xs ++ flagB false) w1 H2.out.out (by omega) hx (by have := HL.out; simp [flagB]; omega)).mono ?_
    rintro e w2 ⟨rfl, h3⟩
    obtain ⟨v2, h4⟩ := H2.out.put h3
    have H4 := Lib.hid h4
    clear h3 h4 c0 c1 c2
    go_wp2_with fail
    refine bodyPost_end (results_none rfl _ _ _) rfl ?_
    rw [HE.out, ← List.append_assoc]
    exact H4.out.done
  · have HE := Lib.hid (rb_num (v := vl 2 (x : Int) S) (.inr rfl))
    generalize rb (vl 2 (x : Int) S) = E at *
    obtain ⟨c0, c1, c2⟩ := HS.out.c3
    go_enter Tryd.func55, Tryd.ntmps55
    go_wp2_with fail
    refine (outFlag p false v xs _ HS.out.out (by have := HL.out; omega)).mono ?_
    rintro e w1 ⟨rfl, h1⟩
    obtain ⟨v1, h2⟩ := HS.out.put h1
    have H2 := Lib.hid h2
    clear h1 h2 c0 c1 c2
    obtain ⟨c0, c1, c2⟩ := H2.out.c3
    go_wp2_with fail
    refine (putNumber p x 8 v1 (xs ++ flagB false) w1 H2.out.out (by omega) hx (by have := HL.out; simp [flagB]; omega)).mono ?_
    rintro e w2 ⟨rfl, h3⟩
    obtain ⟨v2, h4⟩ := H2.out.put h3
    have H4 := Lib.hid h4
    clear h3 h4 c0 c1 c2
    go_wp2_with fail
    refine bodyPost_end (results_none rfl _ _ _) rfl ?_
    rw [HE.out, ← List.append_assoc]
    exact H4.out.done
  · have HE := Lib.hid (rb_bool (v := vl 3 (x : Int) S) rfl)
    generalize rb (vl 3 (x : Int) S) = E at *
    have hw : IntKind.u8.wrap (x : Int) = (x : Int) := by rw [IntKind.wrap_u8']; have := HB3.out (by simp); omega
    obtain ⟨c0, c1, c2⟩ := HS.out.c3
    go_enter Tryd.func55, Tryd.ntmps55
    go_wp2_with fail
    refine (outFlag p false v xs _ HS.out.out (by have := HL.out; omega)).mono ?_
    rintro e w1 ⟨rfl, h1⟩
    obtain ⟨v1, h2⟩ := HS.out.put h1
    have H2 := Lib.hid h2
    clear h1 h2 c0 c1 c2
    obtain ⟨c0, c1, c2⟩ := H2.out.c3
    go_wp2_with fail
    try rw [hw]
    refine (putNumber p x 1 v1 (xs ++ flagB false) w1 H2.out.out (by omega) hx (by have := HL.out; simp [flagB]; omega)).mono ?_
    rintro e w2 ⟨rfl, h3⟩
    obtain ⟨v2, h4⟩ := H2.out.put h3
    have H4 := Lib.hid h4
    clear h3 h4 c0 c1 c2
    go_wp2_with fail
    refine bodyPost_end (results_none rfl _ _ _) rfl ?_
    rw [HE.out, ← List.append_assoc]
    exact H4.out.done
  · have HE := Lib.hid (rb_text (v := vl 4 (x : Int) S) (.inl rfl))
    generalize rb (vl 4 (x : Int) S) = E at *
    obtain ⟨c0, c1, c2⟩ := HS.out.c3
    go_enter Tryd.func55, Tryd.ntmps55
    go_wp2_with fail
    refine (outFlag p false v xs _ HS.out.out (by have := HL.out; omega)).mono ?_
    rintro e w1 ⟨rfl, h1⟩
    obtain ⟨v1, h2⟩ := HS.out.put h1
    have H2 := Lib.hid h2
    clear h1 h2 c0 c1 c2
    obtain ⟨c0, c1, c2⟩ := H2.out.c3
    go_wp2_with fail
    refine (outText p S v1 (xs ++ flagB false) w1 H2.out.out (by have := HSZ.out (by simp); omega) (by have := HSZ.out (by simp); have := HL.out; simp [flagB]; omega)).mono ?_
    rintro e w2 ⟨rfl, h3⟩
    obtain ⟨v2, h4⟩ := H2.out.put h3
    have H4 := Lib.hid h4
    clear h3 h4 c0 c1 c2
    go_wp2_with fail
    refine bodyPost_end (results_none rfl _ _ _) rfl ?_
    rw [HE.out, ← List.append_assoc, ByteArray.toList_eq]
    exact H4.out.done
  · have HE := Lib.hid (rb_text (v := vl 5 (x : Int) S) (.inr rfl))
    generalize rb (vl 5 (x : Int) S) = E at *
    obtain ⟨c0, c1, c2⟩ := HS.out.c3
    go_enter Tryd.func55, Tryd.ntmps55
    go_wp2_with fail
    refine (outFlag p false v xs _ HS.out.out (by have := HL.out; omega)).mono ?_
    rintro e w1 ⟨rfl, h1⟩
    obtain ⟨v1, h2⟩ := HS.out.put h1
    have H2 := Lib.hid h2
    clear h1 h2 c0 c1 c2
    obtain ⟨c0, c1, c2⟩ := H2.out.c3
    go_wp2_with fail
    refine (outText p S v1 (xs ++ flagB false) w1 H2.out.out (by have := HSZ.out (by simp); omega) (by have := HSZ.out (by simp); have := HL.out; simp [flagB]; omega)).mono ?_
    rintro e w2 ⟨rfl, h3⟩
    obtain ⟨v2, h4⟩ := H2.out.put h3
    have H4 := Lib.hid h4
    clear h3 h4 c0 c1 c2
    go_wp2_with fail
    refine bodyPost_end (results_none rfl _ _ _) rfl ?_
    rw [HE.out, ← List.append_assoc, ByteArray.toList_eq]
    exact H4.out.done

/-- Where lay stands. -/
def LayAt (w wr : World) (po : Nat) (xs : List UInt8) : Prop := ∃ v, OutV wr po v xs ∧ (v.ownBlock = .none ∨ ∃ g, v.ownBlock = some g ∧ w.heap.size ≤ g) ∧ w.heap.size ≤ po ∧ Only (fun _ => False) w wr
theorem LayAt.put {w w1 w2 : World} {po : Nat} {v : Value} {xs ys : List UInt8} {e : Ending} (h1 : OutV w1 po v xs) (h2 : v.ownBlock = .none ∨ ∃ g, v.ownBlock = some g ∧ w.heap.size ≤ g) (h3 : w.heap.size ≤ po) (h4 : Only (fun _ => False) w w1) (hp : PutPost w1 po v ys e w2) : LayAt w w2 po ys := by
  obtain ⟨_, v', q1, q2, q3⟩ := hp
  exact ⟨v', q1, row_ge h4.size h2 q2, h3, h4.none q3 (OutS.ge h3 h2)⟩
set_option maxHeartbeats 4000000 in
theorem bytes_any (lo : Option Addr) (n c : Nat) (vs : List Vv) (w : World) (hv : SlV w lo vs) (hn : n = vs.length) (h24 : n ≤ 24) (hok : ∀ v ∈ vs, v.vl.okB = true) :
    Calls Tryd.prog 33 #[.slice lo n c] w fun e w' => e = .returned (.string ⟨(rowS (vs.map Vv.vl)).toArray⟩) ∧ Only (fun _ => False) w w' := by
  have HV := Lib.hid hv
  have HN := Lib.hid hn
  have HOK := Lib.hid hok
  have hO := OutV.new w
  have hw8 : IntKind.u64.wrap (n : Int) = (n : Int) := by rw [IntKind.wrap_u64]; omega
  have HU8 := Lib.hid (putNumber w.heap.size n 1 (.slice none 0 0) [] _ hO (by omega) (by omega) (by simp))
  have HO := Lib.hid hO
  have HA := Lib.hid ((Only.refl (fun _ => False) w).alloc (.cells #[.slice none 0 0] 90))
  clear hv hn hok hO
  go_enter Tryd.func33, Tryd.ntmps33
  go_wp2_with fail
  try rw [hw8]
  refine HU8.out.mono ?_
  rintro e w1 ⟨rfl, h1⟩
  have HLA : Hid (LayAt w w1 w.heap.size ([UInt8.ofNat n] ++ rowL ((vs.map Vv.vl).take 0))) := Lib.hid (by
    have := LayAt.put HO.out (.inl rfl) (Nat.le_refl _) HA.out (e := .returned (.tuple #[])) ⟨rfl, h1⟩
    simpa [beB, rowL] using this)
  clear h1 HU8 HO HA hw8
  go_wp2_with fail
  go_loopw [4] (fun i wr => ∃ (k : Nat), k ≤ n ∧ i = .int .i64 (k : Int) ∧ Hid (LayAt w wr w.heap.size ([UInt8.ofNat n] ++ rowL ((vs.map Vv.vl).take k)))) (fun i _ => n - (intOf i).toNat)
  case atStart => exact ⟨0, Nat.zero_le _, rfl, HLA⟩
  case round =>
    clear HLA
    obtain ⟨k, hk, rfl, HO⟩ := hrel
    obtain ⟨v0, o1, o2, o3, o4⟩ := HO.out
    by_cases hlt : k < n
    · have HKL : Hid (k < vs.length) := Lib.hid (by rw [← HN.out]; exact hlt)
      obtain ⟨g, off, rfl, hva⟩ := (HV.out.keep o4) k HKL.out
      obtain ⟨v, hve⟩ : ∃ v, vs.getD k default = v := ⟨_, rfl⟩
      rw [hve] at hva
      have HVE : Hid ((vs.map Vv.vl)[k]? = some v.vl) := Lib.hid (by
        have := HKL.out
        rw [List.getElem?_map, List.getElem?_eq_getElem this, ← hve]
        simp [this])
      have HVO : Hid (v.vl.okB = true) := Lib.hid (HOK.out v (by rw [← hve]; have := HKL.out; simp [this]))
      obtain ⟨y0, y1, y2, hu⟩ := hva
      obtain ⟨xs, hxs⟩ : ∃ xs, xs = [UInt8.ofNat n] ++ rowL ((vs.map Vv.vl).take k) := ⟨_, rfl⟩
      have HST : Hid ([UInt8.ofNat n] ++ rowL ((vs.map Vv.vl).take (k + 1)) = xs ++ rb v.vl) := Lib.hid (by
        rw [rowL_take_succ (by have := HKL.out; simpa using this) v.vl HVE.out, hxs, List.append_assoc])
      have HXL : Hid (xs.length ≤ 100000) := Lib.hid (by
        have h1 := rowL_len (l := (vs.map Vv.vl).take k) (fun u hu => by
          obtain ⟨z, hz, rfl⟩ := List.mem_map.1 (List.mem_of_mem_take hu)
          exact HOK.out z hz)
        have h2 : ((vs.map Vv.vl).take k).length ≤ k := List.length_take_le _ _
        rw [hxs, List.length_append]
        simp only [List.length_cons, List.length_nil]
        omega)
      rw [← hxs] at o1
      have HPU := Lib.hid (rput_any w.heap.size v.K v.N v.S v0 xs wr o1 hu HVO.out HXL.out)
      have HO1 := Lib.hid o1
      have HO4 := Lib.hid o4
      have HO2 := Lib.hid (And.intro o2 o3)
      have hltI : (k : Int) < (n : Int) := by omega
      have hk0 : (0 : Int) ≤ (k : Int) := by omega
      clear hve hxs o1 o2 o3 o4 HO hu
      go_wp2_with fail
      refine HPU.out.mono ?_
      rintro e w2 hp
      have HL2 := Lib.hid (LayAt.put HO1.out HO2.out.1 HO2.out.2 HO4.out hp)
      rw [show rb (vl v.K v.N v.S) = rb v.vl from rfl, ← HST.out] at HL2
      obtain ⟨rfl, _⟩ := hp
      clear HPU HO1 HO4 HO2 y0 y1 y2
      go_wp2_with fail
      go_roundw
      case rel => exact ⟨k + 1, by omega, by go_num, HL2⟩
      case measure => simp [intOf]; omega
    · obtain rfl : k = n := by omega
      have hltI : ¬ (k : Int) < (k : Int) := by omega
      obtain ⟨xs, hxs⟩ : ∃ xs, xs = [UInt8.ofNat k] ++ rowL ((vs.map Vv.vl).take k) := ⟨_, rfl⟩
      have HX : Hid (xs = rowS (vs.map Vv.vl)) := Lib.hid (by
        rw [hxs, List.take_of_length_le (by rw [List.length_map, ← HN.out]; exact Nat.le_refl _), rowS, List.length_map, ← HN.out]
        rfl)
      have HXL : Hid (xs.length ≤ 100000) := Lib.hid (by
        have h1 := rowL_len (l := (vs.map Vv.vl).take k) (fun u hu => by
          obtain ⟨z, hz, rfl⟩ := List.mem_map.1 (List.mem_of_mem_take hu)
          exact HOK.out z hz)
        have h2 : ((vs.map Vv.vl).take k).length ≤ k := List.length_take_le _ _
        rw [hxs, List.length_append]
        simp only [List.length_cons, List.length_nil]
        omega)
      rw [← hxs] at o1
      have hcv := run_str (own_toB o1.own)
      have hoc := o1.cell
      rw [HX.out] at hcv
      have HO5 := Lib.hid o4
      clear hxs o1 o2 o3 o4 HO
      go_wp2_with fail
      go_ret
      exact ⟨rfl, HO5.out⟩


end Go.Proofs.YtgkcflindenboaaDoor.R
