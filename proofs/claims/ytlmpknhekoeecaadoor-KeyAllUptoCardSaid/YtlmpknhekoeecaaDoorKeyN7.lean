/-
  The document's own keys: one value read: texts (kinds 4 and 5).
-/
import Derived.Test.YtlmpknhekoeecaaDoorKeyN6
namespace Go.Proofs.YtlmpknhekoeecaaDoor
open Go Go.RowKit
set_option linter.unusedVariables false
set_option linter.unusedSimpArgs false
set_option maxRecDepth 100000

theorem TwoAt.keepLow {w W W' : World} {pv pi cp B : Nat} {T : List UInt8} {K N : Int} {S : ByteArray} {a : Nat} {bad : Bool} (h : TwoAt w W pv pi cp T K N S a bad) (ho : Only (fun k => B ≤ k) W W') (h1 : pv < B) (h2 : pi < B) : TwoAt w W' pv pi cp T K N S a bad := by
  have hv := h.hv
  have hk : ∀ j o, j < B → W.heap[j]? = some o → W'.heap[j]? = W.heap[j]? := fun j o hj ho' => ho.block j (lt_of_some ho') (fun h => by have h' : B ≤ j := h; omega)
  refine ⟨(hk _ _ (by omega) h.r).trans h.r, (hk _ _ h1 h.v).trans h.v, ⟨(hk _ _ h2 h.i.cell).trans h.i.cell, fun j hj => ?_, h.i.le, h.i.size, h.i.cap', h.i.ne⟩, h.only.trans ho (fun k hk' h' => by have h2 : B ≤ k := h'; omega), h.hv, h.hi, h.ne⟩
  have hc := h.i.row j hj
  obtain ⟨o, ho'⟩ : ∃ o, W.heap[w.heap.size + 1]? = some o := by
    cases e : W.heap[w.heap.size + 1]? with
    | some o => exact ⟨o, rfl⟩
    | none => simp [World.cell?, e] at hc
  have hlow : w.heap.size + 1 < B := by omega
  rw [World.cell?_of_block (hk _ _ hlow ho')]
  exact hc
/-- In the loop over a text's bytes: what is read so far in a row of its own. -/
structure TxAt (w W : World) (pv pi cp B : Nat) (T : List UInt8) (K : Int) (a : Nat) (bad : Bool) (v : Value) (R : List UInt8) : Prop where
  t : TwoAt w W pv pi cp T K 0 ⟨#[]⟩ a bad
  o : W.ownsRow B 5 1 v R.length (u8s R)
  hv : pv < B
  hi : pi < B
  hB : B ≤ W.heap.size
section
variable {w W : World} {pv pi cp B : Nat} {T R : List UInt8} {K : Int} {a : Nat} {bad : Bool} {v : Value}
theorem TxAt.cellKeep (h : TxAt w W pv pi cp B T K a bad v R) (q i : Nat) (u : Value) : ((W.drewN q).setCell ⟨pi, i, none⟩ u).ownsRow B 5 1 v R.length (u8s R) := by
  refine own_keepAt h.o (fun k hk => ?_)
  have := (h.o.lt k hk).1
  have := h.hi
  exact Below.heap_setCell _ _ _ _ (fun e => by simp at e; omega)
theorem TxAt.move (h : TxAt w W pv pi cp B T K a bad v R) (q n : Nat) (hn : n ≤ T.length) : TxAt w ((W.drewN q).setCell ⟨pi, 1, none⟩ (.int .i64 (n : Int))) pv pi cp B T K n bad v R :=
  ⟨(h.t.drewN q).move n hn, h.cellKeep q 1 _, h.hv, h.hi, by have := h.hB; simpa using this⟩
theorem TxAt.spoil (h : TxAt w W pv pi cp B T K a bad v R) (q : Nat) : TxAt w ((W.drewN q).setCell ⟨pi, 2, none⟩ (.bool true)) pv pi cp B T K a true v R :=
  ⟨(h.t.drewN q).spoil, h.cellKeep q 2 _, h.hv, h.hi, by have := h.hB; simpa using this⟩
theorem TxAt.slc (h : TxAt w W pv pi cp B T K a bad v R) : SlC W v R := by
  rcases h.o.2 with ⟨rfl, h0⟩ | ⟨g, cap, cur, rfl, hb, hg, _⟩
  · exact .inl ⟨rfl, List.eq_nil_of_length_eq_zero h0⟩
  · refine .inr ⟨⟨g, 0, none⟩, cap, rfl, fun j hj => ?_⟩
    rw [add_lit, Nat.zero_add, h.o.cellAt j (by omega)]
    simp [u8s, hj]
def atOf (W : World) (pi : Nat) : Nat := match W.cell? ⟨pi, 1, none⟩ with
  | some v => (intOf v).toNat
  | none => 0
theorem TxAt.at (h : TxAt w W pv pi cp B T K a bad v R) : atOf W pi = a := by
  unfold atOf
  rw [h.t.i.c.2.1]
  simp [intOf]
/-- append(t, byte(c)). -/
theorem tx_append {ops : Array Oper} {rest : List Oper} {o : Oper} {A : Act} {Q : Exit → Act → World → Prop} (h : TxAt w W pv pi cp B T K a bad v R) (c : UInt8) (cc : Nat) (hlen : R.length ≤ 100000)
    (hgd : o.guard = none) (s x : Operand) (ho : o.op = .call { callee := .builtin .append, args := #[s, x], argTypes := #[49, 49] })
    (u : Value) (hu : u = .int .u8 c.toNat) (hs : A.eval s = v) (hx : A.eval x = .slice (some ⟨W.heap.size, 0, none⟩) 1 cc)
    (k : ∀ v' w', Hid (TxAt w w' pv pi cp B T K a bad v' (R ++ [c])) → wpList Tryd.prog ops Q rest (A.put o.dst v') w') :
    wpList Tryd.prog ops Q (o :: rest) A (W.alloc (.cells #[u] 5)) := by
  subst hu
  obtain ⟨i0, hi, hz0, hz1, hz2⟩ := info_parts Tryd.infoU8
  have hB := h.hB
  refine wpList_append_own (W.alloc (.cells #[.int .u8 c.toNat] 5)) hgd s x 49 ho B 5 i0 (.int .u8 0) 1 1 Tryd.underlying49 hi hz0 hz1 hz2 rfl (by decide) v R.length (u8s R) hs (h.o.alloc _)
    ⟨W.heap.size, 0, none⟩ 1 cc (u8s [c]) hx rfl (World.news_of_block (B := W.heap.size) (heap_alloc_new W _)) (u8s_oneCell _) (by unfold maxLen; omega) (by omega) (by simp; omega) ?_
  intro v' w' h1 h2 _
  have ho1 : Only (fun k => B ≤ k) W w' := ((Only.refl _ W).alloc _).grown h2 (fun k _ e => (h.o.lt k e).1)
  rw [← u8s_append] at h1
  refine k v' w' (Lib.hid ⟨h.t.keepLow ho1 h.hv h.hi, ?_, h.hv, h.hi, Nat.le_trans hB ho1.size⟩)
  rw [List.length_append]
  exact h1
end
theorem drop_cons {l : List UInt8} {a : Nat} (h : a < l.length) : l.drop a = l.getD a 0 :: l.drop (a + 1) := by
  rw [List.drop_eq_getElem_cons h]
  simp [h]
set_option maxHeartbeats 16000000 in
theorem rone45 (k : Int) (d : Bool) (s : ByteArray) (w : World) (hs : s.size ≤ 256) (hk1 : 4 ≤ k) (hk5 : k ≤ 5) :
    Calls Tryd.prog 30 #[.int .i64 k, .bool d, .string s] w fun e w' => OnePost k d s w e w' := by
  obtain ⟨n, hn⟩ : ∃ n, n = s.size := ⟨_, rfl⟩
  obtain ⟨T, hT⟩ : ∃ T, T = turnL d s.toList := ⟨_, rfl⟩
  have HT := Lib.hid hT
  have HN := Lib.hid hn
  have HTL : Hid (T.length = n) := Lib.hid (by rw [hT, turnL_length, ba_size, hn])
  have hn256 : (n : Int) ≤ 256 := by omega
  have hcv := Lib.run_convert_string_bytes (P := Tryd.prog) (w.alloc (.cells #[.int .i64 0, .int .u64 0, .string ⟨#[]⟩] 42)) 9 49 5 s (u := .string) Tryd.underlying9 Tryd.underlying49 Tryd.underlying5
  have hst := OneAt.start w s
  obtain ⟨W1, hW1⟩ : ∃ W1, W1 = Lib.bytesWorld (w.alloc (.cells #[.int .i64 0, .int .u64 0, .string ⟨#[]⟩] 42)) 5 s := ⟨_, rfl⟩
  rw [← hW1, World.size_alloc, ← hn] at hcv
  rw [← hW1] at hst
  have HCP := Lib.hid (grownCap_ge (w.alloc (.cells #[.int .i64 0, .int .u64 0, .string ⟨#[]⟩] 42)) n 0 5)
  have H1 := Lib.hid hst
  have HK15 := Lib.hid (And.intro hk1 hk5)
  obtain ⟨OP, hOP⟩ : ∃ OP : Ending → World → Prop, OP = fun e w' => OnePost k d s w e w' := ⟨_, rfl⟩
  clear hW1 hst hs hn hT hk1 hk5 hOP OP
  go_enter Tryd.func30, Tryd.ntmps30
  go_upto_block 0 with fail
  clear hcv
  go_cut [9] (fun _ wx => OneT w T wx)
  case first =>
    go_wp2_with fail
    go_loopw [9] (fun i wr => ∃ j : Nat, j ≤ n ∧ i = .int .i64 (j : Int) ∧ Hid (d = false → j = 0) ∧ Hid (OneAt w wr (if d = true then (s.toList.take j).map not8 ++ s.toList.drop j else s.toList))) (fun i _ => n - (intOf i).toNat)
    case atStart => exact ⟨0, Nat.zero_le _, rfl, Lib.hid (fun _ => rfl), Lib.hid (by have := H1.out; split <;> simpa using this)⟩
    case round =>
      clear H1
      obtain ⟨j, hj, rfl, HJ, HO⟩ := hrel
      have hj0 : (0 : Int) ≤ (j : Int) := by omega
      cases d with
      | false =>
        have HE : Hid (OneT w T wr) := Lib.hid (by rw [HT.out]; exact HO.out)
        obtain rfl := HJ.out rfl
        by_cases hpos : (0 : Int) < (n : Int)
        all_goals
          go_wp2_with fail
          go_meet
          exact HE.out
      | true =>
        by_cases hlt : j < n
        · have hky : j < s.toList.length := by rw [ba_size, ← HN.out]; exact hlt
          obtain ⟨L, hL⟩ : ∃ L, L = (s.toList.take j).map not8 ++ s.toList.drop j := ⟨_, rfl⟩
          have hO := HO.out
          rw [if_pos rfl, ← hL] at hO
          have hLl : j < L.length := by rw [hL]; simp at hky ⊢; omega
          obtain ⟨b, hb⟩ : ∃ b, s.toList.getD j 0 = b := ⟨_, rfl⟩
          have hLj : L.getD j 0 = b := by
            rw [hL, List.getD_eq_getElem?_getD, List.getElem?_append_right (by simp; omega), ← hb]
            simp
            rw [show j - min j s.toList.length = 0 by omega]
            rfl
          obtain ⟨hc, hf⟩ := hO.b.cell hLl
          rw [hLj] at hc
          have hst := turn_step [] s.toList j hky
          rw [List.nil_append, List.nil_append, List.length_nil, Nat.zero_add, hb] at hst
          have hS := hO.set hLl (not8 b)
          rw [hL, hst] at hS
          obtain ⟨z, hz⟩ : ∃ z : Int, (b.toNat : Int) = z := ⟨_, rfl⟩
          obtain ⟨z2, hz2⟩ : ∃ z2 : Int, ((not8 b).toNat : Int) = z2 := ⟨_, rfl⟩
          have hx1 := sub_not b
          rw [hz, hz2] at hx1
          have hx2 : (255 - z) % 256 = z2 := by rw [← IntKind.wrap_u8']; exact hx1
          rw [hz] at hc
          rw [hz2] at hS
          have HSS := Lib.hid hS
          have hltI : (j : Int) < (n : Int) := by omega
          clear hS hst hO hL hLl hLj hb hz hz2 hky
          go_wp2_with fail
          go_roundw
          case rel => exact ⟨j + 1, by omega, by go_num, Lib.hid (fun h => by cases h), HSS⟩
          case measure => simp [intOf]; omega
        · obtain rfl : j = n := by omega
          have hltI : ¬ (j : Int) < (j : Int) := by omega
          have HE : Hid (OneT w T wr) := Lib.hid (by
            have := HO.out
            rw [if_pos rfl, List.take_of_length_le (by rw [ba_size, ← HN.out]; exact Nat.le_refl _), List.drop_of_length_le (by rw [ba_size, ← HN.out]; exact Nat.le_refl _), List.append_nil] at this
            rw [HT.out]
            exact this)
          go_wp2_with fail
          go_meet
          exact HE.out
  case rest =>
    have HA : Hid (OneAt w _ T) := Lib.hid hcut
    clear hcut H1
    generalize grownCap (w.alloc (.cells #[.int .i64 0, .int .u64 0, .string ⟨#[]⟩] 42)) n 0 5 = cp at *
    obtain ⟨⟨r0, r1, r2⟩, f0, f1, f2⟩ := HA.out.res
    have HRE := Lib.hid (only_res HA.out.only)
    cases T with
    | nil =>
      have hn0 : (n : Int) = 0 := by have := HTL.out; simp at this; omega
      have HNO : Hid (val1 k (turnL d s.toList) = none) := Lib.hid (by rw [← HT.out]; rfl)
      obtain rfl : n = 0 := by omega
      clear hn0 hn256
      go_wp2_with fail
      refine bodyPost_ret (v := .tuple #[vlv 0 0 ⟨#[]⟩, .int .i64 0]) (by simp [results, Tryd.results30, go_sem, r0, r1, r2]) rfl ?_
      exact one_none HNO.out (HRE.out _ _ _)
    | cons c q =>
      have hl := HTL.out
      simp only [List.length_cons] at hl
      have hpos : (0 : Int) < (n : Int) := by omega
      have hn0 : ((n : Int) == 0) = false := by rw [beq_eq_false_iff_ne]; omega
      have hcell := (HA.out.b.cell (j := 0) (by simp)).1
      obtain ⟨z, hz⟩ : ∃ z : Int, (c.toNat : Int) = z := ⟨_, rfl⟩
      simp only [List.getD_cons_zero] at hcell
      rw [hz] at hcell
      have HQL : Hid (q.length + 1 = n) := Lib.hid hl
      clear hl
      have hz0 : 0 ≤ z := by omega
      by_cases h1 : 1 < z
      · have HNO : Hid (val1 k (turnL d s.toList) = none) := Lib.hid (by
          rw [← HT.out]
          show (if c = 0 then some ((⟨0, 0, []⟩ : Vl), q) else if c = 1 then okV (raw1 k q) else none) = none
          rw [if_neg (fun e => by rw [e] at hz; simp at hz; omega), if_neg (fun e => by rw [e] at hz; simp at hz; omega)])
        clear hz
        go_wp2_with fail
        refine bodyPost_ret (v := .tuple #[vlv 0 0 ⟨#[]⟩, .int .i64 0]) (by simp [results, Tryd.results30, go_sem, r0, r1, r2]) rfl ?_
        exact one_none HNO.out (HRE.out _ _ _)
      · by_cases h0 : z = 0
        · have HYE : Hid (val1 k (turnL d s.toList) = some (vl 0 0 ⟨#[]⟩, (turnL d s.toList).drop 1)) := Lib.hid (by
            rw [← HT.out]
            show (if c = 0 then some ((⟨0, 0, []⟩ : Vl), q) else if c = 1 then okV (raw1 k q) else none) = _
            rw [if_pos (UInt8.toNat_inj.1 (by show c.toNat = 0; omega))]
            show _ = some ((⟨0, 0, (ByteArray.mk #[]).toList⟩ : Vl), _)
            rw [ba_nil]
            rfl)
          have HNS : Hid (1 ≤ s.size) := Lib.hid (by rw [← HN.out, ← HQL.out]; omega)
          subst h0
          clear hz
          go_wp2_with fail
          refine bodyPost_ret (v := .tuple #[vlv 0 0 ⟨#[]⟩, .int .i64 1]) (by simp [results, Tryd.results30, go_sem, r0, r1, r2]) rfl ?_
          exact ⟨0, 0, ⟨#[]⟩, 1, rfl, ⟨by omega, by omega⟩, HRE.out _ _ _, .inr ⟨Nat.le_refl _, HNS.out, HYE.out⟩⟩
        · obtain rfl : z = 1 := by omega
          have HV1 : Hid (val1 k (turnL d s.toList) = okV (raw1 k q)) := Lib.hid (by
            rw [← HT.out]
            have hc1 : c = 1 := UInt8.toNat_inj.1 (by show c.toNat = 1; omega)
            show (if c = 0 then some ((⟨0, 0, []⟩ : Vl), q) else if c = 1 then okV (raw1 k q) else none) = _
            rw [if_neg (by rw [hc1]; decide), if_pos hc1])
          have HDR : Hid (∀ m, (turnL d s.toList).drop (m + 1) = q.drop m) := Lib.hid (fun m => by rw [← HT.out]; rfl)
          have HTW := Lib.hid (TwoAt.start (cp := cp) HA.out k (by simp) (by rw [HTL.out]; omega) (by rw [HTL.out]; exact HCP.out))
          rw [HTL.out] at HTW
          clear hz h0 h1 r0 r1 r2 f0 f1 f2 HRE HA
          go_upto_region 12 with fail
          clear hcell
          generalize (World.alloc (World.alloc _ (.cells #[.int .i64 k, .int .u64 0, .string ⟨#[]⟩] 42)) (.cells #[.slice (some ⟨w.heap.size + 1, 0, none⟩) n cp, .int .i64 1, .bool false] 80)) = w3 at *
          have hk1 : (k == 1) = false := by rw [beq_eq_false_iff_ne]; have := HK15.out; omega
          have hk2 : (k == 2) = false := by rw [beq_eq_false_iff_ne]; have := HK15.out; omega
          have hk3 : (k == 3) = false := by rw [beq_eq_false_iff_ne]; have := HK15.out; omega
          have HRAW : Hid (raw1 k q = (txtK q).map fun x => ((⟨k, 0, x.1⟩ : Vl), x.2)) := Lib.hid (by
            have := HK15.out
            unfold raw1
            rw [if_neg (by omega), if_neg (by omega)])
          obtain ⟨pv, hpv⟩ : ∃ x, wc.heap.size = x := ⟨_, rfl⟩
          have HIN : Hid (TwoAt w w3 wc.heap.size (wc.heap.size + 1) cp (c :: q) k 0 ⟨#[]⟩ 1 false) := HTW
          rw [hpv] at HIN
          obtain ⟨B, hB⟩ : ∃ B, w3.heap.size = B := ⟨_, rfl⟩
          have HT0 : Hid (TxAt w w3 pv (pv + 1) cp B (c :: q) k 1 false (.slice none 0 0) []) := Lib.hid ⟨HIN.out, World.ownsRow_nil _ _ _ _, by rw [← hB]; exact lt_of_some HIN.out.v, by rw [← hB]; exact lt_of_some HIN.out.i.cell, by omega⟩
          clear HTW HIN hB
          go_upto_region 13 with fail
          clear hk1 hk2 hk3
          simp only [hpv]
          clear hpv
          go_wp2_with fail
          go_loopw [12] (fun tv wr => ∃ (a : Nat) (R : List UInt8) (V : Value), V = tv ∧ Hid (1 ≤ a ∧ R.length ≤ a) ∧ Hid (TxAt w wr pv (pv + 1) cp B (c :: q) k a false V R) ∧ Hid (txtK q = (txtK ((c :: q).drop a)).map (fun x => (R ++ x.1, x.2)))) (fun _ wr => (c :: q).length - atOf wr (pv + 1))
          case atStart => exact ⟨1, [], _, rfl, Lib.hid ⟨Nat.le_refl _, by simp⟩, HT0, Lib.hid (by show _ = (txtK q).map _; cases txtK q <;> rfl)⟩
          case round =>
            clear HT0
            obtain ⟨a, R, V, rfl, HAR, HTX, HE⟩ := hrel
            have HTS := Lib.hid HTX.out.t.i.size
            by_cases hlt : a < (c :: q).length
            · have hdr := drop_cons hlt
              obtain ⟨b, hb⟩ : ∃ b, (c :: q).getD a 0 = b := ⟨_, rfl⟩
              rw [hb] at hdr
              have HDA := Lib.hid hdr
              have hnum := rinum_ok wr _ _ cp 1 (c :: q) a HTX.out.t.i (by omega) (by omega)
              obtain ⟨z, hz⟩ : ∃ z : Int, (b.toNat : Int) = z := ⟨_, rfl⟩
              rw [hdr, show numB ((b :: (c :: q).drop (a + 1)).take 1) = b.toNat by simp [numB], hz] at hnum
              have HNUM := Lib.hid hnum
              have HLT := Lib.hid hlt
              have hz0 : 0 ≤ z := by omega
              have hz256 : z < 256 := by have := b.toNat_lt; omega
              have HZ := Lib.hid hz
              clear hnum hdr hb hlt hz
              go_wp2_with fail
              refine HNUM.out.mono ?_
              rintro e w4 ⟨rfl, qq, hw4⟩
              have hT4 := HTX.out.move qq (a + 1) (by have := HLT.out; omega)
              rw [hw4] at hT4
              have HT4 := Lib.hid hT4
              have HAT := Lib.hid HTX.out.at
              clear hT4 hw4 HNUM HTX
              by_cases hz1 : z = 0
              · subst hz1
                have hb0 : b = 0 := UInt8.toNat_inj.1 (by show b.toNat = 0; have := HZ.out; omega)
                subst hb0
                clear HZ hz0 hz256
                by_cases hlt : a + 1 < (c :: q).length
                · have hdr := drop_cons hlt
                  obtain ⟨m, hb⟩ : ∃ b, (c :: q).getD (a + 1) 0 = b := ⟨_, rfl⟩
                  rw [hb] at hdr
                  have hnum := rinum_ok w4 _ _ cp 1 (c :: q) (a + 1) HT4.out.t.i (by omega) (by omega)
                  obtain ⟨z, hz⟩ : ∃ z : Int, (m.toNat : Int) = z := ⟨_, rfl⟩
                  rw [hdr, show numB ((m :: (c :: q).drop (a + 1 + 1)).take 1) = m.toNat by simp [numB], hz] at hnum
                  have HNUM := Lib.hid hnum
                  have HTK : Hid (txtK ((c :: q).drop a) = if m = 0 then some ([], (c :: q).drop (a + 1 + 1)) else if m = 255 then (txtK ((c :: q).drop (a + 1 + 1))).map (fun x => (0 :: x.1, x.2)) else none) := Lib.hid (by rw [HDA.out, hdr, txtK_zero])
                  have HLT2 := Lib.hid hlt
                  have hz0 : 0 ≤ z := by omega
                  have hz256 : z < 256 := by have := m.toNat_lt; omega
                  have HZ := Lib.hid hz
                  clear hnum hdr hb hlt hz
                  go_wp2_with fail
                  refine HNUM.out.mono ?_
                  rintro e w5 ⟨rfl, qq, hw5⟩
                  have hT5 := HT4.out.move qq (a + 1 + 1) (by have := HLT2.out; omega)
                  rw [hw5] at hT5
                  have HT5 := Lib.hid hT5
                  clear hT5 hw5 HNUM HT4
                  obtain ⟨b0, b1, b2⟩ := HT5.out.t.i.c
                  by_cases hm0 : z = 0
                  · subst hm0
                    have hm : m = 0 := UInt8.toNat_inj.1 (by show m.toNat = 0; have := HZ.out; omega)
                    subst hm
                    have HQ : Hid (txtK q = some (R, (c :: q).drop (a + 1 + 1))) := Lib.hid (by rw [HE.out, HTK.out, if_pos rfl]; show some (R ++ [], _) = _; rw [List.append_nil])
                    have hcv := run_strC HT5.out.slc
                    clear HZ hz0 hz256 HE HTK HDA
                    go_upto_region 22 with fail
                    obtain ⟨⟨c0, c1, c2⟩, f0, f1, f2⟩ := HT5.out.t.cells
                    have HT6 := Lib.hid (HT5.out.t.str ⟨R.toArray⟩)
                    obtain ⟨S, hS⟩ : ∃ S : ByteArray, (⟨R.toArray⟩ : ByteArray) = S := ⟨_, rfl⟩
                    have HSL : Hid (S.toList = R) := Lib.hid (by rw [← hS]; exact ba_mk1 R)
                    rw [hS] at hcv HT6
                    clear hS
                    go_upto_region 29 with fail
                    generalize World.setCell w5 _ (.string S) = w6 at *
                    clear c0 c1 c2 f0 f1 f2 b0 b1 b2 hcv HT5
                    obtain ⟨⟨c0, c1, c2⟩, f0, f1, f2⟩ := HT6.out.cells
                    obtain ⟨b0, b1, b2⟩ := HT6.out.i.c
                    have HU64 : Hid (U64 0) := Lib.hid ⟨by omega, by omega⟩
                    obtain ⟨Bo, hBo⟩ : ∃ B, (vl k 0 S).okB = B := ⟨_, rfl⟩
                    have HBB := Lib.hid hBo
                    have HVA : Hid (∀ W, Calls Tryd.prog 25 #[vlv k 0 S] W fun e w' => e = .returned (.bool Bo) ∧ Below W.heap.size W w') := Lib.hid (fun W => by
                      have h := rvalid_any (K := k) (s := S) HU64.out W
                      rw [hBo] at h
                      exact h)
                    have HVV : Hid (val1 k (turnL d s.toList) = okV (some (vl k 0 S, (turnL d s.toList).drop (a + 1 + 1)))) := Lib.hid (by
                      rw [HV1.out, HRAW.out, HQ.out, ← HT.out]
                      show okV (some ((⟨k, 0, R⟩ : Vl), _)) = okV (some ((⟨k, (0 : Int).toNat, S.toList⟩ : Vl), _))
                      rw [HSL.out]
                      rfl)
                    clear hBo
                    go_wp2_with fail
                    refine (HVA.out _).mono ?_
                    rintro e w7 ⟨rfl, hb6⟩
                    have HT7 := Lib.hid (HT6.out.keep (below_quiet hb6))
                    clear hb6 HT6 HVA c0 c1 c2 f0 f1 f2 b0 b1 b2
                    obtain ⟨⟨c0, c1, c2⟩, f0, f1, f2⟩ := HT7.out.cells
                    obtain ⟨b0, b1, b2⟩ := HT7.out.i.c
                    obtain ⟨⟨r0, r1, r2⟩, e0, e1, e2⟩ := HT7.out.res
                    cases Bo with
                    | false =>
                      have HNO : Hid (val1 k (turnL d s.toList) = none) := Lib.hid (by
                        rw [HVV.out]
                        exact okV_no HBB.out)
                      have HRE := Lib.hid (only_res HT7.out.only)
                      go_wp2_with fail
                      refine bodyPost_ret (v := .tuple #[vlv 0 0 ⟨#[]⟩, .int .i64 0]) (by simp [results, Tryd.results30, go_sem, r0, r1, r2]) rfl ?_
                      exact one_none HNO.out (HRE.out _ _ _)
                    | true =>
                      have HYE : Hid (val1 k (turnL d s.toList) = some (vl k 0 S, (turnL d s.toList).drop (a + 1 + 1))) := Lib.hid (by
                        rw [HVV.out]
                        exact okV_yes HBB.out)
                      have HNS : Hid (a + 1 + 1 ≤ s.size) := Lib.hid (by
                        have h1 := HLT2.out; have h2 := HQL.out; have h3 := HN.out
                        simp only [List.length_cons] at h1
                        omega)
                      have HRE := Lib.hid (only_res HT7.out.only.drew)
                      have hap := HT7.out.apart (.int .i64 k) (.int .u64 0)
                      go_upto_region 31 with fail
                      go_region
                      all_goals
                        go_wp2_with fail
                        refine bodyPost_ret (v := .tuple #[vlv k 0 S, .int .i64 ((a + 1 + 1 : Nat) : Int)]) (by simp [results, Tryd.results30, go_sem, r0, r1, r2]) rfl ?_
                        exact ⟨k, 0, S, a + 1 + 1, rfl, HU64.out, HRE.out _ _ _, .inr ⟨by omega, HNS.out, HYE.out⟩⟩
                  · have hm : m ≠ 0 := fun e => hm0 (by rw [← HZ.out, e]; rfl)
                    by_cases hm5 : z = 255
                    · subst hm5
                      have hm2 : m = 255 := UInt8.toNat_inj.1 (by show m.toNat = 255; have := HZ.out; omega)
                      subst hm2
                      have HE2 : Hid (txtK q = (txtK ((c :: q).drop (a + 1 + 1))).map (fun x => ((R ++ [0]) ++ x.1, x.2))) := Lib.hid (by
                        rw [HE.out, HTK.out, if_neg hm, if_pos rfl]
                        cases txtK ((c :: q).drop (a + 1 + 1)) with
                        | none => rfl
                        | some x => simp)
                      clear HE HTK HDA hm HZ hz0 hz256 hm0
                      go_upto_region 21 with fail
                      go_wp2_with (at_builtin; refine tx_append HT5.out 0 1 (by have := HAR.out; have := HLT.out; have := HTS.out; omega) rfl _ _ rfl (.int .u8 0) rfl rfl (by simp [Act.eval]) ?_)
                      intro v2 w6 HT6
                      have HT6' : Hid (TxAt w w6 pv (pv + 1) cp B (c :: q) k (a + 1 + 1) false v2 (R ++ [0])) := HT6
                      clear HT5 b0 b1 b2 HT6
                      have HAT2 := Lib.hid HT6'.out.at
                      have HAR2 : Hid (1 ≤ a + 1 + 1 ∧ (R ++ [(0 : UInt8)]).length ≤ a + 1 + 1) := Lib.hid ⟨by omega, by have := HAR.out; simp; omega⟩
                      go_wp2_with fail
                      go_roundw
                      case rel => exact ⟨a + 1 + 1, R ++ [0], _, rfl, HAR2, HT6', HE2⟩
                      case measure => show _ - atOf _ _ < _ - atOf _ _; rw [HAT.out, HAT2.out]; have := HLT2.out; omega
                    · have HNO : Hid (val1 k (turnL d s.toList) = none) := Lib.hid (by
                        rw [HV1.out, HRAW.out, HE.out, HTK.out, if_neg hm, if_neg (fun e => hm5 (by rw [← HZ.out, e]; rfl))]
                        rfl)
                      have hw1 : (z != 0) = true := by simpa using hm0
                      have hw2 : (z != 255) = true := by simpa using hm5
                      obtain ⟨⟨r0, r1, r2⟩, e0, e1, e2⟩ := HT5.out.t.res
                      have HRE := Lib.hid (only_res HT5.out.t.only)
                      clear HE HTK HDA hm HZ
                      go_wp2_with fail
                      refine bodyPost_ret (v := .tuple #[vlv 0 0 ⟨#[]⟩, .int .i64 0]) (by simp [results, Tryd.results30, go_sem, r0, r1, r2]) rfl ?_
                      exact one_none HNO.out (HRE.out _ _ _)
                · have HNUM := Lib.hid (rinum_bad w4 _ _ cp 1 (c :: q) (a + 1) false HT4.out.t.i (.inr (by omega)))
                  have HNO : Hid (val1 k (turnL d s.toList) = none) := Lib.hid (by
                    rw [HV1.out, HRAW.out, HE.out, HDA.out, List.drop_of_length_le (by omega)]
                    rfl)
                  clear hlt
                  go_wp2_with fail
                  refine HNUM.out.mono ?_
                  rintro e w5 ⟨rfl, qq, hw5⟩
                  have hT5 := HT4.out.spoil qq
                  rw [hw5] at hT5
                  have HT5 := Lib.hid hT5
                  clear hT5 hw5 HNUM HT4
                  obtain ⟨b0, b1, b2⟩ := HT5.out.t.i.c
                  obtain ⟨⟨r0, r1, r2⟩, e0, e1, e2⟩ := HT5.out.t.res
                  have HRE := Lib.hid (only_res HT5.out.t.only)
                  go_wp2_with fail
                  refine bodyPost_ret (v := .tuple #[vlv 0 0 ⟨#[]⟩, .int .i64 0]) (by simp [results, Tryd.results30, go_sem, r0, r1, r2]) rfl ?_
                  exact one_none HNO.out (HRE.out _ _ _)
              · have hb0 : b ≠ 0 := fun e => hz1 (by rw [← HZ.out, e]; rfl)
                have HE2 : Hid (txtK q = (txtK ((c :: q).drop (a + 1))).map (fun x => ((R ++ [b]) ++ x.1, x.2))) := Lib.hid (by
                  rw [HE.out, HDA.out, txtK_own hb0]
                  cases txtK ((c :: q).drop (a + 1)) with
                  | none => rfl
                  | some x => simp)
                have hw : (z == 0) = false := by simpa using hz1
                have hzm : z % 256 = (b.toNat : Int) := by rw [HZ.out]; omega
                clear HE HDA hb0 hz1
                go_upto_region 21 with fail
                go_wp2_with (at_builtin; refine tx_append HT4.out b 1 (by have := HAR.out; have := HLT.out; have := HTS.out; omega) rfl _ _ rfl _ (by rw [HZ.out]) rfl (by simp [Act.eval]) ?_)
                intro v2 w6 HT6
                have HT6' : Hid (TxAt w w6 pv (pv + 1) cp B (c :: q) k (a + 1) false v2 (R ++ [b])) := HT6
                clear HT4 HT6
                have HAT2 := Lib.hid HT6'.out.at
                have HAR2 : Hid (1 ≤ a + 1 ∧ (R ++ [b]).length ≤ a + 1) := Lib.hid ⟨by omega, by have := HAR.out; simp; omega⟩
                go_wp2_with fail
                go_roundw
                case rel => exact ⟨a + 1, R ++ [b], _, rfl, HAR2, HT6', HE2⟩
                case measure => show _ - atOf _ _ < _ - atOf _ _; rw [HAT.out, HAT2.out]; have := HLT.out; omega
            · have HNUM := Lib.hid (rinum_bad wr _ _ cp 1 (c :: q) a false HTX.out.t.i (.inr (by omega)))
              have HNO : Hid (val1 k (turnL d s.toList) = none) := Lib.hid (by
                rw [HV1.out, HRAW.out, HE.out, List.drop_of_length_le (by omega)]
                rfl)
              clear hlt
              go_wp2_with fail
              refine HNUM.out.mono ?_
              rintro e w4 ⟨rfl, qq, hw4⟩
              have hT4 := HTX.out.spoil qq
              rw [hw4] at hT4
              have HT4 := Lib.hid hT4
              clear hT4 hw4 HNUM HTX
              have HNUM := Lib.hid (rinum_bad w4 _ _ cp 1 (c :: q) a true HT4.out.t.i (.inl rfl))
              go_wp2_with fail
              refine HNUM.out.mono ?_
              rintro e w5 ⟨rfl, qq, hw5⟩
              have hT5 := HT4.out.spoil qq
              rw [hw5] at hT5
              have HT5 := Lib.hid hT5
              clear hT5 hw5 HNUM HT4
              obtain ⟨b0, b1, b2⟩ := HT5.out.t.i.c
              obtain ⟨⟨r0, r1, r2⟩, e0, e1, e2⟩ := HT5.out.t.res
              have HRE := Lib.hid (only_res HT5.out.t.only)
              go_wp2_with fail
              refine bodyPost_ret (v := .tuple #[vlv 0 0 ⟨#[]⟩, .int .i64 0]) (by simp [results, Tryd.results30, go_sem, r0, r1, r2]) rfl ?_
              exact one_none HNO.out (HRE.out _ _ _)

end Go.Proofs.YtlmpknhekoeecaaDoor
