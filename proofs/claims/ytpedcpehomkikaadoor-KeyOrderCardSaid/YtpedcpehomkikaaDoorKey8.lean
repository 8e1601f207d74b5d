/-
  Package key's Encode: it answers encE.
-/
import Derived.Test.YtpedcpehomkikaaDoorKey7
namespace Go.Proofs.YtpedcpehomkikaaDoor
open Go Go.RowKit
set_option linter.unusedVariables false
set_option linter.unusedSimpArgs false
set_option maxRecDepth 100000

/-- A value in three cells. -/
structure VvAt (w : World) (g o : Nat) (v : Vv) : Prop where
  k : w.cell? ⟨g, o, none⟩ = some (.int .i64 v.K)
  n : w.cell? ⟨g, o + 1, none⟩ = some (.int .u64 v.N)
  s : w.cell? ⟨g, o + 2, none⟩ = some (.string v.S)
  u : U64 v.N
instance : Inhabited Vv := ⟨⟨0, 0, ⟨#[]⟩⟩⟩
/-- A slice of values. -/
def SlV (w : World) (ao : Option Addr) (vs : List Vv) : Prop := ∀ j, j < vs.length → ∃ g off, ao = some ⟨g, off, none⟩ ∧ VvAt w g (off + j * 3) (vs.getD j default)
theorem VvAt.keep {w w' : World} {g o : Nat} {v : Vv} (h : VvAt w g o v) (ho : Only (fun _ => False) w w') : VvAt w' g o v := ⟨ho.cellq h.k, ho.cellq h.n, ho.cellq h.s, h.u⟩
theorem SlV.keep {w w' : World} {ao : Option Addr} {vs : List Vv} (h : SlV w ao vs) (ho : Only (fun _ => False) w w') : SlV w' ao vs := fun j hj => by
  obtain ⟨g, off, h1, h2⟩ := h j hj
  exact ⟨g, off, h1, h2.keep ho⟩
theorem SlV.u64 {w : World} {ao : Option Addr} {vs : List Vv} (h : SlV w ao vs) : ∀ v ∈ vs, U64 v.N := fun v hv => by
  obtain ⟨j, hj, rfl⟩ := List.getElem_of_mem hv
  obtain ⟨g, off, _, h2⟩ := h j hj
  have := h2.u
  simpa [hj] using this
theorem keyL_snoc : ∀ (l : List Vl) (ds : List Bool) (v : Vl) (d : Bool), l.length = ds.length → keyL (l ++ [v]) (ds ++ [d]) = keyL l ds ++ kb v d
  | [], [], v, d, _ => by simp [keyL]
  | a :: l, e :: ds, v, d, h => by
    rw [List.cons_append, List.cons_append, keyL, keyL, keyL_snoc l ds v d (by simpa using h), List.append_assoc]
  | [], _ :: _, _, _, h => by simp at h
  | _ :: _, [], _, _, h => by simp at h
theorem own_slC {w0 w : World} {v : Value} {xs : List UInt8} {J : Res} (h : Own w0 w (Sep (OutB v xs) J)) : SlC w v xs := by
  have ho : w.ownsRow 0 5 1 v xs.length (u8s xs) := h.owns
  rcases ho.2 with ⟨rfl, h0⟩ | ⟨g, cap, cur, rfl, _, hg, hc, hm, hs, ht⟩
  · exact .inl ⟨rfl, List.eq_nil_of_length_eq_zero h0⟩
  · refine .inr ⟨⟨g, 0, none⟩, cap, rfl, fun j hj => ?_⟩
    rw [add_lit, Nat.zero_add, ho.cellAt j (by simpa [u8s] using hj)]
    exact u8s_at hj
theorem kb_of (v : Vl) (d : Bool) : kb v d = if d = true then (kb0 v).map not8 else kb0 v := rfl

def EncPost (l : List Vl) (ds : List Bool) (w : World) (e : Ending) (w' : World) : Prop :=
  ∃ (s : List UInt8) (er : Int), e = .returned (.tuple #[.string ⟨s.toArray⟩, .int .i64 er]) ∧ (s, er) = encE l ds ∧ Only (fun _ => False) w w'
theorem enc_none {l : List Vl} {ds : List Bool} {w w' : World} {er : Int} (h : ([], er) = encE l ds) (ho : Only (fun _ => False) w w') : EncPost l ds w (.returned (.tuple #[.string ⟨#[]⟩, .int .i64 er])) w' :=
  ⟨[], er, rfl, h, ho⟩
/-- Where Encode stands. -/
structure EncIn (l : List Vl) (ds : List Bool) (k : Nat) (xs : List UInt8) : Prop where
  at' : xs = keyL (l.take k) (ds.take k)
  size : xs.length ≤ 256
theorem enc_step {l : List Vl} {ds : List Bool} {k : Nat} {xs : List UInt8} (h : EncIn l ds k xs) (hl : k < l.length) (hd : k < ds.length) (v : Vl) (hv : l[k]? = some v) (d : Bool) (hdd : ds.getD k false = d) : xs ++ kb v d = keyL (l.take (k + 1)) (ds.take (k + 1)) := by
  have e1 : l.take (k + 1) = l.take k ++ [v] := by rw [List.take_add_one, hv]; rfl
  have e2 : ds.take (k + 1) = ds.take k ++ [d] := by
    rw [List.take_succ_eq_append_getElem hd, ← hdd]
    simp [hd]
  rw [e1, e2, keyL_snoc _ _ _ _ (by simp; omega), h.at']
theorem enc_long {l : List Vl} {ds : List Bool} {k : Nat} {xs : List UInt8} (h : xs = keyL (l.take k) (ds.take k)) (h256 : 256 < xs.length) (hl : l.length = ds.length) (hok : l.all Vl.okB = true) : ([], 7) = encE l ds := by
  have hp := (keyL_front k l ds).length_le
  rw [← h] at hp
  unfold encE
  rw [if_neg (by simpa using hl), if_neg (by simp [hok]), if_pos (by omega)]
theorem enc_ends {l : List Vl} {ds : List Bool} {k : Nat} {xs : List UInt8} (h : EncIn l ds k xs) (hk : k = l.length) (hl : l.length = ds.length) (hok : l.all Vl.okB = true) : (xs, 0) = encE l ds := by
  have e : xs = keyL l ds := by
    rw [h.at', List.take_of_length_le (by omega), List.take_of_length_le (by omega)]
  rw [encE_of hl hok (by rw [← e]; exact h.size), e]

theorem OutB.full {w0 w : World} {v : Value} {xs : List UInt8} {J : Res} (h : Own w0 w (Sep (OutB v xs) J)) (hne : 1 ≤ xs.length) : ∃ g cap, v = .slice (some ⟨g, 0, none⟩) xs.length cap ∧ xs.length ≤ cap ∧ cap ≤ 9223372036854775807 := by
  have ho : w.ownsRow 0 5 1 v xs.length (u8s xs) := h.owns
  rcases ho.2 with ⟨rfl, h0⟩ | ⟨g, cap, cur, rfl, _, hg, hc, hm, hs, ht⟩
  · omega
  · exact ⟨g, cap, rfl, by simpa using hc, by unfold maxLen at hm; omega⟩
theorem kb_len (v : Vl) (d : Bool) : (kb v d).length = (kb0 v).length := turnL_length d _

set_option maxHeartbeats 8000000 in
theorem encode_any (lo dao : Option Addr) (n lc m dc : Nat) (vs : List Vv) (ds : List Bool) (w : World) (hT : UTab w) (hv : SlV w lo vs) (hd : SlBo w dao ds) (hn : n = vs.length) (hm : m = ds.length) (hn47 : n ≤ 140737488355328) :
    Calls Tryd.prog 10 #[.slice lo n lc, .slice dao m dc] w fun e w' => EncPost (vs.map Vv.vl) ds w e w' := by
  have HT := Lib.hid hT
  have HV := Lib.hid hv
  have HD := Lib.hid hd
  have HN := Lib.hid hn
  have HM := Lib.hid hm
  clear hT hv hd hn hm
  by_cases hnm : m = n
  · subst hnm
    have HLL : Hid ((vs.map Vv.vl).length = ds.length) := Lib.hid (by rw [List.length_map, ← HN.out, ← HM.out])
    go_enter Tryd.func10, Tryd.ntmps10
    go_wp2_with fail
    go_loopw [7, 19] (fun _ i wr => ∃ (k : Nat), k ≤ m ∧ i = .int .i64 (k : Int) ∧ Hid ((vs.take k).all (fun v => v.vl.okB) = true) ∧ Hid (Only (fun _ => False) w wr)) (fun _ i _ => m - (intOf i).toNat)
    case atStart => exact ⟨0, Nat.zero_le _, rfl, Lib.hid rfl, Lib.hid (Only.refl _ _)⟩
    case round =>
      obtain ⟨k, hk, rfl, HA, HO⟩ := hrel
      by_cases hlt : k < m
      · have HKL : Hid (k < vs.length) := Lib.hid (by rw [← HN.out]; exact hlt)
        obtain ⟨g, off, rfl, hva⟩ := (HV.out.keep HO.out) k HKL.out
        obtain ⟨v, hve⟩ : ∃ v, vs.getD k default = v := ⟨_, rfl⟩
        rw [hve] at hva
        have HVE : Hid (vs[k]? = some v) := Lib.hid (by
          have := HKL.out
          rw [List.getElem?_eq_getElem this, ← hve]
          simp [this])
        obtain ⟨y0, y1, y2, hu⟩ := hva
        have HU := Lib.hid hu
        have H1 := Lib.hid (HO.out.alloc (.cells #[.int .i64 v.K, .int .u64 v.N, .string v.S] 35))
        obtain ⟨B, hB⟩ : ∃ B, v.vl.okB = B := ⟨_, rfl⟩
        have HBV := Lib.hid hB
        have HVL : Hid (Calls Tryd.prog 25 #[vlv v.K v.N v.S] (wr.alloc (.cells #[.int .i64 v.K, .int .u64 v.N, .string v.S] 35)) fun e w' => e = .returned (.bool B) ∧ Below (wr.alloc (.cells #[.int .i64 v.K, .int .u64 v.N, .string v.S] 35)).heap.size (wr.alloc (.cells #[.int .i64 v.K, .int .u64 v.N, .string v.S] 35)) w') := Lib.hid (by
          have h := valid_u (K := v.K) (s := v.S) HU.out _ (HT.out.keep (H1.out.below (Nat.le_refl _) (fun _ h => h.elim)))
          rw [show (vl v.K v.N v.S) = v.vl from rfl, hB] at h
          exact h)
        have hltI : (k : Int) < (m : Int) := by omega
        clear hve hu hB
        go_wp2_with fail
        refine HVL.out.mono ?_
        rintro e w4 ⟨rfl, hb4⟩
        have H4 := Lib.hid (H1.out.trans (below_quiet hb4) (fun _ _ h => h))
        clear hb4 HVL H1 y0 y1 y2
        cases B with
        | false =>
          have HE : Hid (([], 8) = encE (vs.map Vv.vl) ds) := Lib.hid (by
            unfold encE
            rw [if_neg (by simpa using HLL.out), if_pos]
            rw [List.all_eq_false]
            exact ⟨v.vl, List.mem_map.2 ⟨v, List.mem_of_getElem? HVE.out, rfl⟩, by rw [HBV.out]; simp⟩)
          go_wp2_with fail
          go_ret2
          exact enc_none HE.out H4.out
        | true =>
          go_wp2_with fail
          go_roundw
          case rel => exact ⟨k + 1, by omega, by go_num, Lib.hid (by rw [List.take_add_one, HVE.out, List.all_append, HA.out]; simp [HBV.out]), H4⟩
          case measure => simp [intOf]; omega
      · obtain rfl : k = m := by omega
        have HOK : Hid ((vs.map Vv.vl).all Vl.okB = true) := Lib.hid (by
          have := HA.out
          rw [List.take_of_length_le (by rw [HN.out]; exact Nat.le_refl _)] at this
          rw [List.all_map]
          exact this)
        have HQ0 : Hid (Own w wr (Sep (OutB (.slice none 0 0) []) Emp)) := Lib.hid (by
          have h0 : Own w wr Emp := ⟨fun _ => False, fun _ h => h, fun _ h => h.elim, HO.out⟩
          exact h0.row_nil 5 1)
        clear HA HO
        go_wp2_with fail
        go_loopw [8, 9, 10, 11, 29] (fun ov _ _ _ i wr => ∃ (q : Nat) (oo : Option Addr) (on oc : Nat) (xs : List UInt8), q ≤ k ∧ i = .int .i64 (q : Int) ∧ ov = .slice oo on oc ∧ Hid (on = xs.length ∧ EncIn (vs.map Vv.vl) ds q xs) ∧ Hid (Own w wr (Sep (OutB (.slice oo on oc) xs) Emp))) (fun _ _ _ _ i _ => k - (intOf i).toNat)
        case atStart => exact ⟨0, none, 0, 0, [], Nat.zero_le _, rfl, rfl, Lib.hid ⟨rfl, by simp [keyL], by simp⟩, HQ0⟩
        case round =>
          clear HQ0
          obtain ⟨q, oo, on, oc, xs, hq, rfl, rfl, HI, HO⟩ := hrel
          by_cases hlt : q < k
          · have HKL : Hid (q < vs.length ∧ q < ds.length) := Lib.hid (by rw [← HN.out, ← HM.out]; exact ⟨hlt, hlt⟩)
            obtain ⟨g, off, rfl, hva⟩ := (HV.out.keep HO.out.only) q HKL.out.1
            obtain ⟨gd, od, rfl, hcd⟩ := (HD.out.keep (HO.out.only)) q HKL.out.2
            obtain ⟨v, hve⟩ : ∃ v, vs.getD q default = v := ⟨_, rfl⟩
            obtain ⟨dd, hdd⟩ : ∃ dd, ds.getD q false = dd := ⟨_, rfl⟩
            rw [hve] at hva
            rw [hdd] at hcd
            have HVE : Hid ((vs.map Vv.vl)[q]? = some v.vl) := Lib.hid (by
              have := HKL.out.1
              rw [List.getElem?_map, List.getElem?_eq_getElem this, ← hve]
              simp [this])
            obtain ⟨y0, y1, y2, hu⟩ := hva
            have HU := Lib.hid hu
            have HOV : Hid (v.vl.okB = true) := Lib.hid (List.all_eq_true.1 HOK.out _ (List.mem_of_getElem? HVE.out))
            have HST : Hid (xs ++ kb v.vl dd = keyL ((vs.map Vv.vl).take (q + 1)) (ds.take (q + 1))) := Lib.hid (enc_step HI.out.2 (by rw [List.length_map]; exact HKL.out.1) HKL.out.2 v.vl HVE.out dd hdd)
            have HKS : Hid ((kb0 v.vl).length ≤ 131 ∧ 1 ≤ (kb0 v.vl).length ∧ xs.length ≤ 256) := Lib.hid ⟨(kb0_length HOV.out).2, (kb0_length HOV.out).1, HI.out.2.size⟩
            have H1 := Lib.hid (HO.out.lend (.cells #[.int .i64 v.K, .int .u64 v.N, .string v.S] 35))
            have hltI : (q : Int) < (k : Int) := by omega
            have HON : Hid (on = xs.length) := Lib.hid HI.out.1
            have HDE := Lib.hid hdd
            clear hve hdd hu HO
            go_upto_region 14 with fail
            generalize wr.alloc (.cells #[.int .i64 v.K, .int .u64 v.N, .string v.S] 35) = w3 at *
            generalize wr.heap.size = vb at *
            obtain ⟨x0, x1, x2, _, _, _⟩ := blk_cells3 H1.out.swap.held
            clear y0 y1 y2 hcd
            go_wp2_with fail
            refine (put_any w w3 oo oc on v.K v.N v.S xs _ H1.out HU.out HOV.out (by have := HKS.out; omega)).mono ?_
            rintro e w4 ⟨v4, rfl, h4⟩
            rw [show (vl v.K v.N v.S) = v.vl from rfl] at h4
            obtain ⟨g4, c4, hv4, hc4, hm4⟩ := OutB.full h4 (by rw [List.length_append]; have := HKS.out; omega)
            obtain ⟨n4, hn4⟩ : ∃ n4, n4 = (xs ++ kb0 v.vl).length := ⟨_, rfl⟩
            rw [← hn4] at hv4 hc4
            subst hv4
            have HN4 : Hid (n4 = xs.length + (kb0 v.vl).length) := Lib.hid (by rw [hn4, List.length_append])
            have H4 := Lib.hid h4.drop2
            obtain ⟨gd', od', hgd, hcd⟩ := (HD.out.keep h4.only) q HKL.out.2
            simp only [Option.some.injEq, Addr.mk.injEq, and_true] at hgd
            obtain ⟨rfl, rfl⟩ := hgd
            rw [HDE.out] at hcd
            clear h4 hn4 x0 x1 x2
            cases dd with
            | false =>
              by_cases h256 : 256 < n4
              · have hI : (256 : Int) < (n4 : Int) := by omega
                have HE : Hid (([], 7) = encE (vs.map Vv.vl) ds) := Lib.hid (enc_long HST.out (by rw [List.length_append, kb_len, ← HN4.out]; exact h256) HLL.out HOK.out)
                go_wp2_with fail
                go_ret2
                exact enc_none HE.out H4.out.only
              · have hI : ¬ (256 : Int) < (n4 : Int) := by omega
                have HEN : Hid (EncIn (vs.map Vv.vl) ds (q + 1) (xs ++ kb v.vl false)) := Lib.hid ⟨HST.out, by rw [List.length_append, kb_len, ← HN4.out]; omega⟩
                go_wp2_with fail
                go_roundw
                case rel => exact ⟨q + 1, some ⟨g4, 0, none⟩, n4, c4, xs ++ kb v.vl false, by omega, by go_num, rfl, Lib.hid ⟨by rw [List.length_append, kb_len, ← HN4.out], HEN.out⟩, H4⟩
                case measure => simp [intOf]; omega
            | true =>
              have hon4 : on < n4 := by have := HN4.out; have := HON.out; have := HKS.out; omega
              have honc : on < c4 := by omega
              have HTC := Lib.hid (turn_any w w4 g4 n4 c4 (n4 - on) (c4 - on) xs (kb0 v.vl) Emp H4.out (by have := HN4.out; have := HON.out; omega) (by have := HKS.out; omega))
              rw [← HON.out] at HTC
              go_wp2_with fail
              refine HTC.out.mono ?_
              rintro e w5 ⟨rfl, h5⟩
              have H5 := Lib.hid h5
              clear h5 HTC hcd
              by_cases h256 : 256 < n4
              · have hI : (256 : Int) < (n4 : Int) := by omega
                have HE : Hid (([], 7) = encE (vs.map Vv.vl) ds) := Lib.hid (enc_long HST.out (by rw [List.length_append, kb_len, ← HN4.out]; exact h256) HLL.out HOK.out)
                go_wp2_with fail
                go_ret2
                exact enc_none HE.out H5.out.only
              · have hI : ¬ (256 : Int) < (n4 : Int) := by omega
                have HEN : Hid (EncIn (vs.map Vv.vl) ds (q + 1) (xs ++ kb v.vl true)) := Lib.hid ⟨HST.out, by rw [List.length_append, kb_len, ← HN4.out]; omega⟩
                go_wp2_with fail
                go_roundw
                case rel => exact ⟨q + 1, some ⟨g4, 0, none⟩, n4, c4, xs ++ kb v.vl true, by omega, by go_num, rfl, Lib.hid ⟨by rw [List.length_append, kb_len, ← HN4.out], HEN.out⟩, H5⟩
                case measure => simp [intOf]; omega
          · obtain rfl : q = k := by omega
            have HC := Lib.hid (run_strC (own_slC HO.out))
            have HE : Hid ((xs, 0) = encE (vs.map Vv.vl) ds) := Lib.hid (enc_ends HI.out.2 (by rw [List.length_map]; exact HN.out) HLL.out HOK.out)
            have hc := HC.out
            have hltI : ¬ (q : Int) < (q : Int) := by omega
            go_wp2_with fail
            go_ret2
            exact ⟨xs, 0, rfl, HE.out, HO.out.only⟩
  · have HE : Hid (([], 1) = encE (vs.map Vv.vl) ds) := Lib.hid (by unfold encE; rw [if_pos (by rw [List.length_map, ← HN.out, ← HM.out]; omega)])
    have hne : ((n : Int) != (m : Int)) = true := by simp; omega
    go_enter Tryd.func10, Tryd.ntmps10
    go_wp2
    go_ret2
    exact enc_none HE.out (Only.refl _ _)

end Go.Proofs.YtpedcpehomkikaaDoor
