/-
  The walk of the statement PoolAsks.
-/
import Derived.Test.YtlfmkjapglalpaaPoL5
import Derived.Test.YtlfmkjapglalpaaPoArg
import Derived.BigQuiet
import Derived.Deep.QuietTactic
namespace Go.Proofs.Ytlfmkjapglalpaa
open Go Go.RowKit
set_option linter.unusedVariables false
set_option linter.unusedSimpArgs false
set_option maxRecDepth 100000

/-- Where the law stands ahead of a call. -/
def AsS (w0 W : World) (p bb m : Nat) (J : Res) : Prop := ∃ (L Z : List Pb) (st : Po) (nv : Int → List UInt8), HoI m nv st ∧ st.sum = 0 ∧ st.L.length ≤ m ∧ Own w0 W (Sep (PoR p bb L Z st) J)
/-- Where it stands behind one. -/
def AsM (w0 W : World) (p bb m n ld : Nat) (D : List Int) (q : Int) (ao : Option Addr) (c : Nat) (J : Res) : Prop := ∃ (L Z : List Pb) (st : Po), AskI m ld D st ∧ ld ≤ 1 ∧ (q ≠ 0 → ld = 0) ∧ (q = 0 → ld = 0 → st.L.length = n) ∧ Own w0 W (Sep (RowG 34 (.slice ao D.length c) D) (Sep (PoR p bb L Z st) J))
theorem u64_rem6 (z : Int) (h0 : 0 ≤ z) : ∃ q a : Nat, z.tmod 6 = (q : Int) ∧ IntKind.u64.wrap ((q : Int) + 1) = (a : Int) ∧ 1 ≤ a ∧ a ≤ 6 := by
  have h1 := Int.tmod_nonneg 6 h0
  have h2 := Int.tmod_lt_of_pos z (show (0 : Int) < 6 by decide)
  refine ⟨(z.tmod 6).toNat, (z.tmod 6).toNat + 1, by omega, ?_, by omega, by omega⟩
  rw [wrapU]
  unfold wu
  omega
theorem AskI.sub {m ld : Nat} {D D' : List Int} {st : Po} (h : AskI m ld D st) (hs : ∀ x ∈ D, x ∈ D') : AskI m ld D' st := ⟨h.h, h.s, h.l, h.e, fun x hx ho => hs _ (h.o x hx ho), h.r, h.n⟩
theorem dirty_len (st : Po) : st.dirty.length ≤ st.L.length := by
  unfold Po.dirty
  rw [List.length_map]
  exact List.length_filter_le _ _
theorem getD_mem_i {l : List Int} {k : Nat} (hk : k < l.length) : l.getD k default ∈ l := by
  rw [List.getD_eq_getElem?_getD, List.getElem?_eq_getElem hk]
  exact List.getElem_mem hk
theorem take_next {l : List Int} {k : Nat} (hk : k < l.length) : l.take (k + 1) = l.take k ++ [l.getD k default] := by
  rw [List.take_add_one, List.getD_eq_getElem?_getD, List.getElem?_eq_getElem hk]
  rfl
theorem ev_even {A : List Int} {k x : Nat} (hk : k < A.length) (hx : A.getD k default = (x : Int)) (h : x % 2 = 0) : EvOf (A.take (k + 1)) = EvOf (A.take k) + 1 := by
  rw [take_next hk, EvOf_append, hx]
  have : (x : Int) % 2 = 0 := by omega
  unfold EvOf
  simp [this]
theorem ev_odd {A : List Int} {k x : Nat} (hk : k < A.length) (hx : A.getD k default = (x : Int)) (h : ¬ x % 2 = 0) : EvOf (A.take (k + 1)) = EvOf (A.take k) := by
  rw [take_next hk, EvOf_append, hx]
  have : (x : Int) % 2 = 1 := by omega
  unfold EvOf
  simp [this]
theorem ev_le (A : List Int) (k : Nat) : EvOf (A.take k) ≤ k := by
  unfold EvOf
  exact Nat.le_trans (List.length_filter_le _ _) (by rw [List.length_take]; omega)
theorem dec_next {l : List Int} {k : Nat} {d y : Int} {fb : Bool} (hk : k < l.length) (hd : l.getD k default = d) (hf : fb = decide (y ∈ l.take k)) : decide (y ∈ l.take (k + 1)) = (fb || decide (d = y)) := by
  rw [take_next hk, hd, hf]
  by_cases h : y ∈ l.take k
  · simp [h]
  · by_cases e : d = y
    · simp [e]
    · have : ¬ y = d := fun h => e h.symm
      simp [h, e, this]
theorem rem3 (z : Int) : ∃ q : Nat, (wrap64 (z.tmod 3 + 3)).tmod 3 = (q : Int) ∧ q < 3 := by
  obtain ⟨h1, h2⟩ := xmodN_spec 3 (by decide) (by decide) z
  exact ⟨_, h2, h1⟩
theorem Own.opCells {w0 w : World} {b : Nat} {a0 a1 a2 a3 : Value} {t : TypeId} {J : Res} (h : Own w0 w (Sep (Blk b (.cells #[a0, a1, a2, a3] t)) J)) : w.cell? ⟨b, 0, none⟩ = some a0 ∧ w.cell? ⟨b, 2, none⟩ = some a2 ∧ w.cell? ⟨b, 3, none⟩ = some a3 := by
  have := h.blk4c.1
  exact ⟨this.1, this.2.2.1, this.2.2.2⟩
set_option maxHeartbeats 8000000 in
theorem asks_walk (z : Int) (ao : Option Addr) (c : Nat) (os : List OpP) (w : World) (ho : SlOpP w ao os) :
    Calls Try.prog 6 #[.int .i64 z, .slice ao os.length c] w fun e w' => e = .returned (.bool true) ∧ Quiet w w' := by
  have HI := Lib.hid ho
  obtain ⟨n, hn⟩ : ∃ n, os.length = n := ⟨_, rfl⟩
  rw [hn]
  have HN := Lib.hid hn
  obtain ⟨q, m, hq, hm, hmq, hq8⟩ := rem1 6 (by decide) (by decide) z
  have HQ : Hid ((wrap64 (z.tmod 6 + 6)).tmod 6 = (q : Int)) := Lib.hid hq
  have HM := Lib.hid hm
  have HM1 : Hid (1 ≤ m ∧ m ≤ 6) := Lib.hid (by omega)
  clear ho hn hq hm hmq hq8
  go_enter Try.func6, Try.ntmps6
  go_wp2_with fail
  refine (pawake_any w).mono ?_
  rintro e w1 ⟨rfl, hq⟩
  have H0 := Lib.hid ((Own.start w).quiet hq)
  clear hq
  go_wp2_with fail
  rw [HQ.out, HM.out]
  clear HQ HM
  refine (back_any H0.out).mono ?_
  rintro e w2 ⟨bb, rfl, h⟩
  have H1 := Lib.hid h
  clear h H0
  go_wp2_with fail
  refine (pnew_any H1.out m HM1.out.1 (by have := HM1.out; omega)).mono ?_
  rintro e w3 ⟨p, rfl, h⟩
  have H3 : Hid (AsS w w3 p bb m Emp) := Lib.hid ⟨[], [], (⟨[], 0, bk0 6, m⟩ : Po), fun j => (bk0 6).bs.getD (j.toNat - 1) [], ⟨bk0_six, List.nodup_nil, fun x hx => (by cases hx), fun x hx => (by cases hx), fun x hx => (by cases hx), fun j j1 j6 _ => six_val bk0_six j1 j6, rfl⟩, rfl, Nat.zero_le _, h⟩
  clear h H1
  go_upto_block 0 with fail
  go_cut [8] (fun _ wx => Quiet w wx)
  case first =>
    go_wp2_with fail
    go_loopw [8] (fun iv wr => ∃ (k : Nat), k ≤ n ∧ k ≤ 150 ∧ iv = .int .i64 (k : Int) ∧ Hid (AsS w wr p bb m Emp)) (fun iv _ => n - (intOf iv).toNat)
    case atStart => exact ⟨0, Nat.zero_le _, Nat.zero_le _, rfl, H3⟩
    case round =>
      clear H3
      obtain ⟨k, hk, hk2, rfl, HX⟩ := hrel
      by_cases hin : k < n ∧ k < 150
      · obtain ⟨hlt, hlt2⟩ := hin
        have hltI : (k : Int) < (n : Int) := by omega
        have h150I : (k : Int) < 150 := by omega
        have hk0 : (0 : Int) ≤ (k : Int) := by omega
        obtain ⟨L, Z, st, nv, hs, hsum, hlen, hO⟩ := HX.out
        obtain ⟨g, off, rfl, hx⟩ := HI.out k (by rw [HN.out]; exact hlt)
        obtain ⟨x, hxe⟩ : ∃ x, os.getD k default = x := ⟨_, rfl⟩
        rw [hxe] at hx
        obtain ⟨xK, xN, xI, xB⟩ := x
        obtain ⟨d0, d1, d2, ⟨vB, d3, hvb, hvl⟩, rk, rn, rd⟩ := hx
        dsimp only at d0 d1 d2 d3 hvb hvl rk rn rd
        obtain ⟨hvs, bo, bc, rfl, _⟩ := hvb
        obtain ⟨bl, hbl⟩ : ∃ l, xB.length = l := ⟨_, rfl⟩
        rw [hbl] at d3
        have HBL := Lib.hid hbl
        have hov := hO.only
        have d0 := hov.cellq d0
        have d1 := hov.cellq d1
        have d2 := hov.cellq d2
        have d3 := hov.cellq d3
        have HVB := Lib.hid hvs
        have HVL := Lib.hid hvl
        obtain ⟨q6, a, hq6, ha, ha1, ha6⟩ := u64_rem6 xI rd.1
        obtain ⟨q3, hq3, hq3b⟩ := rem3 xK
        have HQ3 := Lib.hid hq3b
        have HQ3E := Lib.hid hq3
        have HA := Lib.hid (⟨ha1, ha6⟩ : 1 ≤ a ∧ a ≤ 6)
        have HLT := Lib.hid (⟨hlt, hlt2⟩ : k < n ∧ k < 150)
        have HO1 := Lib.hid (hO.alloc (.cells #[.int .i64 xK, .int .i64 xN, .int .u64 xI, .slice bo bl bc] 37))
        have HS := Lib.hid hs
        have HSUM := Lib.hid hsum
        have HLEN := Lib.hid hlen
        clear hs hsum hlen hO hxe hvs hbl hvl rk rn rd ha1 ha6 hov hq3b HX
        go_upto_region 12 with fail
        obtain ⟨ob, hob⟩ : ∃ o, wr.heap.size = o := ⟨_, rfl⟩
        rw [hob] at HO1 ⊢
        generalize World.alloc wr _ = w5 at *
        clear hob d0 d1 d2 d3
        obtain ⟨e0, e2, e3⟩ := HO1.out.opCells
        have HO2 := Lib.hid (HO1.out.ac (by ac_rfl : _ = Sep (PoR p bb L Z st) (Sep (Blk ob (.cells #[.int .i64 xK, .int .i64 xN, .int .u64 xI, .slice bo bl bc] 37)) Emp)))
        clear HO1
        obtain ⟨qo, qc, c2, c2f⟩ := HO2.out.askCell
        go_upto_region 14 with fail
        have HO3 := Lib.hid HO2.out.askNil
        generalize World.setCell w5 _ _ = w6 at *
        clear c2 c2f HO2 e0 e2 e3
        obtain ⟨e0, e2, e3⟩ := (HO3.out.ac (by ac_rfl : _ = Sep (Blk ob (.cells #[.int .i64 xK, .int .i64 xN, .int .u64 xI, .slice bo bl bc] 37)) (Sep (PoR p bb L Z { st with bk := { st.bk with asked := [] } }) Emp))).opCells
        obtain ⟨s0, hs0, hz0, hl0, ha0, ho0⟩ : ∃ s0 : Po, HoI m nv s0 ∧ s0.sum = 0 ∧ s0.L.length ≤ m ∧ s0.bk.asked = [] ∧ Own w w6 (Sep (PoR p bb L Z s0) (Sep (Blk ob (.cells #[.int .i64 xK, .int .i64 xN, .int .u64 xI, .slice bo bl bc] 37)) Emp)) := ⟨_, HS.out.askNil, HSUM.out, HLEN.out, rfl, HO3.out⟩
        have hd := pdirty_any ho0 (by obtain ⟨D, hm⟩ := ho0.poM; rw [hm.len]; have := hs0.len; omega)
        have HD := Lib.hid hd
        have HS0 := Lib.hid hs0
        have HZ0 := Lib.hid hz0
        have HL0 := Lib.hid hl0
        have HA0 := Lib.hid ha0
        clear HO3 HS HSUM HLEN hs0 hz0 hl0 ha0 ho0 hd e0 e2 e3
        go_wp2_with fail
        refine HD.out.mono ?_
        rintro e w7 ⟨ao7, cc7, l, rfl, hperm, ho⟩
        have hle := plen_any ho.swap
        obtain ⟨ln, hln⟩ : ∃ x, s0.L.length = x := ⟨_, rfl⟩
        rw [hln] at hle
        have HLE := Lib.hid hle
        have hl6 : l.length ≤ 6 := by have h1 := hperm.length_eq; have h2 := dirty_len s0; have h3 := HS0.out.len; omega
        have HLN := Lib.hid hln
        have HL6 := Lib.hid hl6
        have HP : Hid (∀ x ∈ s0.dirty, x ∈ l) := Lib.hid (fun x hx => hperm.mem_iff.2 hx)
        have HO7 := Lib.hid ho
        obtain ⟨f0, f2, f3⟩ := (ho.ac (by ac_rfl : _ = Sep (Blk ob (.cells #[.int .i64 xK, .int .i64 xN, .int .u64 xI, .slice bo bl bc] 37)) (Sep (PoR p bb L Z s0) (Sep (RowG 34 (.slice ao7 l.length cc7) l) Emp)))).opCells
        obtain ⟨dl, hdl⟩ : ∃ x, l.length = x := ⟨_, rfl⟩
        have HDL := Lib.hid hdl
        rw [hdl]
        clear HD hperm ho hle hln hl6 hdl
        go_upto_block 2 with (go_at_call 26; refine HLE.out.mono ?_; rintro e w8 ⟨rfl, rfl⟩)
        obtain ⟨qi, hqi⟩ : ∃ i : Int, (q3 : Int) = i := ⟨_, rfl⟩
        have hq3c : qi = 0 ∨ qi = 1 ∨ qi = 2 := by have := HQ3.out; omega
        have HQI : Hid ((wrap64 (xK.tmod 3 + 3)).tmod 3 = qi) := Lib.hid (HQ3E.out.trans hqi)
        rw [hqi]
        clear hqi hq3 hq6 ha HQ3E HQ3
        go_cut [8, 11] (fun iv dv wx => iv = .int .i64 (k : Int) ∧ ∃ (D : List Int) (ld : Nat) (ao9 : Option Addr) (c9 : Nat), dv = .slice ao9 D.length c9 ∧ Hid (D.length ≤ 7 ∧ AsM w wx p bb m ln ld D qi ao9 c9 (Sep (Blk ob (.cells #[.int .i64 xK, .int .i64 xN, .int .u64 xI, .slice bo bl bc] 37)) Emp)))
        case first =>
          rcases hq3c with rfl | rfl | rfl
          · as_aux_lemma =>
              have hget := asks_get HO7.out.swap HS0.out HZ0.out HL0.out HA0.out a HA.out.1 HA.out.2
              have HG := Lib.hid hget
              clear hget f0 f2 f3
              go_wp2_with fail
              refine HG.out.mono ?_
              rintro e w8 ⟨v, rfl, L', Z', st', ld, h1, hask, h0, ho⟩
              have HASK := Lib.hid hask
              have HLD := Lib.hid h1
              have H00 := Lib.hid h0
              have HO8 := Lib.hid ho
              clear HG hask h1 h0 ho
              go_wp2_with fail
              go_meet
              exact ⟨rfl, l, ld, ao7, cc7, by rw [HDL.out], Lib.hid ⟨by have := HL6.out; omega, L', Z', st', HASK.out.sub HP.out, HLD.out, fun h => absurd rfl h, fun _ h => (H00.out h).trans HLN.out, HO8.out.swap⟩⟩
          · as_aux_lemma =>
              have hv : SlC w (.slice bo bl bc) xB := by rw [← HBL.out]; exact HVB.out
              have hput := asks_put HO7.out.swap HS0.out HZ0.out HL0.out HA0.out a HA.out.1 HA.out.2 (.slice bo bl bc) xB hv HVL.out
              have HG := Lib.hid hput
              clear hput hv f0 f2
              go_wp2_with fail
              refine HG.out.mono ?_
              rintro e w8 ⟨rfl, L', Z', st', hask, ho⟩
              have HASK := Lib.hid hask
              have HO8 := Lib.hid ho.swap
              have hdl6 : dl ≤ 6 := by have h1 := HL6.out; have h2 := HDL.out; omega
              clear HG hask ho f3
              go_wp2_with (at_builtin; refine own_appendG elNu HO8.out (a : Int) 1 (by rw [HDL.out]; omega) (by rw [HDL.out]; omega) rfl _ _ rfl (by first | rfl | simp [Act.eval, HDL.out]) #[.int .u64 (a : Int)] rfl (by first | rfl | simp [Act.eval]) ?_)
              intro g3 cap3 n3 w9 hn3 hown
              have hm3 : n3 = dl + 1 := by have h1 := hn3.out; rw [← HDL.out]; (try simp only [List.length_append, List.length_singleton] at h1); omega
              have HM3 := Lib.hid hm3
              have HO9 := Lib.hid hown.out
              clear hn3 hown HO8 hm3
              go_wp2_with fail
              go_meet
              have hl9 : (l ++ [(a : Int)]).length = n3 := by rw [List.length_append, List.length_singleton, HM3.out, HDL.out]
              refine ⟨rfl, l ++ [(a : Int)], 0, some ⟨g3, 0, none⟩, cap3, by rw [hl9], Lib.hid ⟨by rw [hl9, HM3.out]; omega, L', Z', st', HASK.out.sub (fun x hx => ?_), Nat.zero_le _, fun _ => rfl, fun h => (by cases h), ?_⟩⟩
              · rcases List.mem_append.1 hx with hx | hx
                · exact List.mem_append.2 (.inl (HP.out x hx))
                · exact List.mem_append.2 (.inr hx)
              · rw [hl9]
                exact HO9.out
          · as_aux_lemma =>
              have hev := asks_evict HO7.out.swap HS0.out HZ0.out HL0.out HA0.out
              have HG := Lib.hid hev
              have hlnb : ln ≤ 6 := by rw [← HLN.out]; exact HS0.out.len
              clear hev f0 f2 f3
              go_upto_region 18 with fail
              refine HG.out.mono ?_
              rintro e w8 ⟨r1, r2, rfl, L', Z', st', hask, he0, he1, ho⟩
              rw [HLN.out] at he0 he1
              have hle := plen_any ho
              obtain ⟨l2, hl2⟩ : ∃ x, st'.L.length = x := ⟨_, rfl⟩
              rw [hl2] at hle he0 he1
              have HLE2 := Lib.hid hle
              have HASK := Lib.hid hask
              have HO8 := Lib.hid ho
              clear HG hask ho hle hl2
              by_cases hz : ln = 0
              · have hl2z : l2 = 0 := he0 hz
                subst hz hl2z
                clear he0 he1
                go_wp2_with (go_at_call 26; refine HLE2.out.mono ?_; rintro e w9 ⟨rfl, rfl⟩)
                go_meet
                exact ⟨rfl, l, 0, ao7, cc7, by rw [HDL.out], Lib.hid ⟨by have := HL6.out; omega, L', Z', st', HASK.out.sub HP.out, Nat.zero_le _, fun _ => rfl, fun h => (by cases h), HO8.out.swap⟩⟩
              · have hl2e := he1 hz
                obtain rfl : ln = l2 + 1 := hl2e.symm
                have hgt : ¬ (((l2 + 1 : Nat) : Int) < (l2 : Int)) := by omega
                have hpos : (0 : Int) < ((l2 + 1 : Nat) : Int) := by omega
                have hw : wrap64 (((l2 + 1 : Nat) : Int) - 1) = (l2 : Int) := by
                  rw [IntWalk.wrap64_in _ ⟨by omega, by omega⟩]
                  omega
                clear he0 he1 hz hl2e
                go_wp2_with (go_at_call 26; refine HLE2.out.mono ?_; rintro e w9 ⟨rfl, rfl⟩)
                go_meet
                exact ⟨rfl, l, 0, ao7, cc7, by rw [HDL.out], Lib.hid ⟨by have := HL6.out; omega, L', Z', st', HASK.out.sub HP.out, Nat.zero_le _, fun _ => rfl, fun h => (by cases h), HO8.out.swap⟩⟩
        case rest =>
          clear HO7 f0 f2 f3 HP HS0 HZ0 HL0 HA0 HVB HVL HBL HL6 HLN HDL HLE
          obtain ⟨rfl, D, ld, ao9, c9, rfl, HX2⟩ := hcut
          obtain ⟨w8, hw8⟩ : ∃ W, W = wc := ⟨wc, rfl⟩
          subst hw8
          obtain ⟨hd7, L', Z', st', hask, hld, hq0, hq1, ho⟩ := HX2.out
          have HE : Hid (EvOf st'.bk.asked = ld) := Lib.hid hask.e
          have HOD : Hid (∀ x ∈ st'.bk.asked, x % 2 ≠ 0 → x / 2 ∈ D) := Lib.hid hask.o
          have HR : Hid (∀ x ∈ st'.bk.asked, 0 ≤ x ∧ x ≤ 13) := Lib.hid hask.r
          have HASK := Lib.hid hask
          have hn10 := hask.n
          have HW8 : Hid (Own w w8 (Sep (RowG 34 (.slice ao9 D.length c9) D) (Sep (PoR p bb L' Z' st') (Sep (Blk ob (.cells #[.int .i64 xK, .int .i64 xN, .int .u64 xI, .slice bo bl bc] 37)) Emp)))) := Lib.hid ho
          obtain ⟨al, hal⟩ : ∃ x, st'.bk.asked.length = x := ⟨_, rfl⟩
          rw [hal] at hn10
          obtain ⟨l9, hl9⟩ : ∃ x, st'.L.length = x := ⟨_, rfl⟩
          rw [hl9] at hq1
          have HAL := Lib.hid hal
          have HL9 := Lib.hid hl9
          have HQ0 := Lib.hid hq0
          have HQ1 := Lib.hid hq1
          have HLD := Lib.hid hld
          have hal10 : (al : Int) ≤ 10 := by omega
          obtain ⟨dl, hdl⟩ : ∃ x, D.length = x := ⟨_, rfl⟩
          have HDL := Lib.hid hdl
          have hdl7 : (dl : Int) ≤ 7 := by omega
          rw [hdl]
          clear HX2 hd7 hask hld hq0 hq1 ho hn10 hal hl9 hdl
          obtain ⟨qo, qc, c2, _⟩ := HW8.out.swap.askRow
          rw [HAL.out] at c2
          go_upto_block 3 with fail
          go_cut [13, 14] (fun lv _ wx => lv = .int .i64 (ld : Int) ∧ Hid (Own w wx (Sep (RowG 34 (.slice ao9 D.length c9) D) (Sep (PoR p bb L' Z' st') (Sep (Blk ob (.cells #[.int .i64 xK, .int .i64 xN, .int .u64 xI, .slice bo bl bc] 37)) Emp)))))
          case first =>
            clear c2
            go_wp2_with fail
            go_loopw [13, 14] (fun lv kv wr => ∃ kk : Nat, kk ≤ al ∧ lv = .int .i64 (EvOf (st'.bk.asked.take kk) : Int) ∧ kv = .int .i64 (kk : Int) ∧ Hid (Own w wr (Sep (RowG 34 (.slice ao9 D.length c9) D) (Sep (PoR p bb L' Z' st') (Sep (Blk ob (.cells #[.int .i64 xK, .int .i64 xN, .int .u64 xI, .slice bo bl bc] 37)) Emp))))) (fun _ kv _ => al - (intOf kv).toNat)
            case atStart => exact ⟨0, Nat.zero_le _, rfl, rfl, HW8⟩
            case round =>
              clear HW8
              obtain ⟨kk, hkk, rfl, rfl, HW⟩ := hrel
              obtain ⟨qo, qc, c2, hrow⟩ := HW.out.swap.askRow
              rw [HAL.out] at c2 hrow
              have hevl := ev_le st'.bk.asked kk
              by_cases hlt : kk < al
              · have hltI : (kk : Int) < (al : Int) := by omega
                have hk0 : (0 : Int) ≤ (kk : Int) := by omega
                have hkA : kk < st'.bk.asked.length := by rw [HAL.out]; exact hlt
                obtain ⟨qg, rfl, hrow2⟩ := hrow (by omega)
                have c3 := hrow2 kk hlt
                clear hrow2
                obtain ⟨x, hx⟩ : ∃ x, st'.bk.asked.getD kk default = x := ⟨_, rfl⟩
                rw [hx] at c3
                have hxm : x ∈ st'.bk.asked := by rw [← hx]; exact getD_mem_i hkA
                have hxr := HR.out x hxm
                obtain ⟨xn, rfl⟩ : ∃ y : Nat, x = (y : Int) := ⟨x.toNat, by omega⟩
                obtain ⟨ev, hev⟩ : ∃ y, EvOf (st'.bk.asked.take kk) = y := ⟨_, rfl⟩
                have HEV := Lib.hid hev
                rw [hev]
                rw [hev] at hevl
                have hev10 : (ev : Int) ≤ 10 := by omega
                have hev0 : (0 : Int) ≤ (ev : Int) := by omega
                have HXX := Lib.hid hx
                by_cases hx2 : xn % 2 = 0
                · have ht : (xn : Int).tmod 2 = 0 := by rw [Int.tmod_eq_emod_of_nonneg (by omega)]; omega
                  have HN2 := Lib.hid (ev_even hkA hx hx2)
                  clear hrow hx hxm hxr hev hkA hx2 hevl
                  go_wp2_with fail
                  go_roundw
                  case rel => exact ⟨kk + 1, by omega, by rw [HN2.out, HEV.out]; push_cast; rfl, by go_num, HW⟩
                  case measure => simp [intOf]; omega
                · have ht : (xn : Int).tmod 2 = 1 := by rw [Int.tmod_eq_emod_of_nonneg (by omega)]; omega
                  have HN2 := Lib.hid (ev_odd hkA hx hx2)
                  obtain ⟨yn, hy⟩ : ∃ y, xn / 2 = y := ⟨_, rfl⟩
                  have hdv : (xn : Int).tdiv 2 = (yn : Int) := by rw [Int.tdiv_eq_ediv_of_nonneg (by omega)]; omega
                  have HYD : Hid ((yn : Int) ∈ D) := Lib.hid (by have h1 := HOD.out _ hxm (by omega); have h2 : (xn : Int) / 2 = (yn : Int) := by omega
                                                                 rw [h2] at h1; exact h1)
                  have hy6 : (yn : Int) ≤ 6 := by omega
                  have hy0 : (0 : Int) ≤ (yn : Int) := by omega
                  have hyw : IntKind.u64.wrap (yn : Int) = (yn : Int) := by rw [wrapU]; unfold wu; omega
                  have HYW := Lib.hid hyw
                  have HLT2 := Lib.hid hlt
                  clear hrow hx hxm hev hkA hx2 hevl hy hyw
                  go_upto_block 5 with fail
                  go_cut [15, 16] (fun fv _ wx => fv = .bool true ∧ Hid (Own w wx (Sep (RowG 34 (.slice ao9 D.length c9) D) (Sep (PoR p bb L' Z' st') (Sep (Blk ob (.cells #[.int .i64 xK, .int .i64 xN, .int .u64 xI, .slice bo bl bc] 37)) Emp)))))
                  case first =>
                    clear c2 c3
                    go_wp2_with fail
                    go_loopw [15, 16] (fun fv jv wr => ∃ (j : Nat) (fb : Bool), j ≤ dl ∧ fb = decide ((yn : Int) ∈ D.take j) ∧ fv = .bool fb ∧ jv = .int .i64 (j : Int) ∧ Hid (Own w wr (Sep (RowG 34 (.slice ao9 D.length c9) D) (Sep (PoR p bb L' Z' st') (Sep (Blk ob (.cells #[.int .i64 xK, .int .i64 xN, .int .u64 xI, .slice bo bl bc] 37)) Emp))))) (fun _ jv _ => dl - (intOf jv).toNat)
                    case atStart => exact ⟨0, false, Nat.zero_le _, by simp, rfl, rfl, HW⟩
                    case round =>
                      clear HW
                      obtain ⟨j, fb, hj, hfb, rfl, rfl, HW⟩ := hrel
                      obtain ⟨qo2, qc2, c2, hrow⟩ := HW.out.swap.askRow
                      rw [HAL.out] at c2 hrow
                      obtain ⟨qg2, rfl, hrow2⟩ := hrow (by have := HLT2.out; omega)
                      have c3 := hrow2 kk HLT2.out
                      rw [HXX.out] at c3
                      clear hrow hrow2
                      by_cases hjl : j < dl
                      · have hjlI : (j : Int) < (dl : Int) := by omega
                        have hj0 : (0 : Int) ≤ (j : Int) := by omega
                        have hjD : j < D.length := by rw [HDL.out]; exact hjl
                        obtain ⟨g2, rfl⟩ := own_addr HW.out (by omega)
                        have c4 := (cellsNu HW.out hjD).1
                        obtain ⟨d, hd⟩ : ∃ d, D.getD j default = d := ⟨_, rfl⟩
                        rw [hd] at c4
                        have HNX := Lib.hid (dec_next (y := (yn : Int)) hjD hd hfb)
                        clear hjD hd hfb
                        have hyw := HYW.out
                        cases fb with
                        | true =>
                          go_wp2_with fail
                          go_quiet (fail)
                          clear c2 c3 c4 hyw
                          go_wp2_with fail
                          go_roundw
                          case rel => exact ⟨j + 1, true, by omega, by rw [HNX.out]; simp, rfl, by go_num, Lib.hid (HW.out.drewN _)⟩
                          case measure => simp [intOf]; omega
                        | false =>
                          by_cases hdy : d = (yn : Int)
                          · have HDY := Lib.hid hdy
                            rw [hdy] at c4
                            clear hdy
                            go_wp2_with fail
                            go_quiet (fail)
                            clear c2 c3 c4 hyw
                            go_wp2_with fail
                            go_roundw
                            case rel => exact ⟨j + 1, true, by omega, by rw [HNX.out, HDY.out]; simp, by simp, by go_num, Lib.hid (HW.out.drewN _)⟩
                            case measure => simp [intOf]; omega
                          · have HDY := Lib.hid hdy
                            go_wp2_with fail
                            go_quiet (fail)
                            clear c2 c3 c4 hyw
                            go_wp2_with fail
                            go_roundw
                            case rel => exact ⟨j + 1, false, by omega, by rw [HNX.out]; simp [HDY.out], by simp [HDY.out], by go_num, Lib.hid (HW.out.drewN _)⟩
                            case measure => simp [intOf]; omega
                      · obtain rfl : j = dl := by omega
                        have hfT : fb = true := by
                          rw [hfb, ← HDL.out, List.take_length]
                          exact decide_eq_true HYD.out
                        subst hfT
                        clear hfb
                        go_wp2_with fail
                        go_meet
                        exact ⟨rfl, HW⟩
                  case rest =>
                    clear HW c2 c3
                    obtain ⟨rfl, HW⟩ := hcut
                    have hlt3 := HLT2.out
                    go_wp2_with fail
                    go_roundw
                    case rel => exact ⟨kk + 1, by omega, by rw [HN2.out, HEV.out], by go_num, HW⟩
                    case measure => simp [intOf]; omega
              · obtain rfl : kk = al := by omega
                have hfull : st'.bk.asked.take st'.bk.asked.length = st'.bk.asked := List.take_length
                have hEE : EvOf (st'.bk.asked.take kk) = ld := by rw [← HAL.out, hfull]; exact HE.out
                rw [hEE]
                clear hevl hfull hEE hrow
                go_wp2_with fail
                go_meet
                exact ⟨rfl, HW⟩
          case rest =>
            clear HW8 c2
            obtain ⟨rfl, HW⟩ := hcut
            obtain ⟨w9, hw9⟩ : ∃ W, W = wc := ⟨wc, rfl⟩
            subst hw9
            obtain ⟨e0, _, _⟩ := (HW.out.ac (by ac_rfl : _ = Sep (Blk ob (.cells #[.int .i64 xK, .int .i64 xN, .int .u64 xI, .slice bo bl bc] 37)) (Sep (PoR p bb L' Z' st') (Sep (RowG 34 (.slice ao9 D.length c9) D) Emp)))).opCells
            have hle := plen_any HW.out.swap
            rw [HL9.out] at hle
            have HLE9 := Lib.hid hle
            have HS9 : Hid (AsS w w9 p bb m Emp) := by
              obtain ⟨nv9, h9⟩ := HASK.out.h
              exact Lib.hid ⟨L', Z', st', nv9, h9, HASK.out.s, HASK.out.l, HW.out.snd.swap.snd⟩
            have hqe := HQI.out
            have hlt2 := HLT.out.1
            have hlt3 := HLT.out.2
            have hld := HLD.out
            clear hle HW
            obtain rfl | rfl : ld = 0 ∨ ld = 1 := by omega
            · rcases hq3c with rfl | rfl | rfl
              · obtain rfl : l9 = ln := HQ1.out rfl rfl
                go_wp2_with (go_at_call 26; refine HLE9.out.mono ?_; rintro e w10 ⟨rfl, rfl⟩)
                go_roundw
                case rel => exact ⟨k + 1, by omega, by omega, by go_num, HS9⟩
                case measure => simp [intOf]; omega
              · go_wp2_with fail
                go_roundw
                case rel => exact ⟨k + 1, by omega, by omega, by go_num, HS9⟩
                case measure => simp [intOf]; omega
              · go_wp2_with fail
                go_roundw
                case rel => exact ⟨k + 1, by omega, by omega, by go_num, HS9⟩
                case measure => simp [intOf]; omega
            · obtain rfl : qi = 0 := by
                apply Classical.byContradiction
                intro h
                have := HQ0.out h
                omega
              go_wp2_with fail
              go_roundw
              case rel => exact ⟨k + 1, by omega, by omega, by go_num, HS9⟩
              case measure => simp [intOf]; omega
      · by_cases hd1 : (k : Int) < (n : Int)
        · have hd2 : ¬ (k : Int) < 150 := by omega
          clear hin
          have hOO : Quiet w wr := by obtain ⟨L, Z, st, nv, _, _, _, hO⟩ := HX.out; exact hO.only
          go_wp2_with fail
          go_meet
          exact hOO
        · clear hin
          have hOO : Quiet w wr := by obtain ⟨L, Z, st, nv, _, _, _, hO⟩ := HX.out; exact hO.only
          go_wp2_with fail
          go_meet
          exact hOO
  case rest =>
    clear H3
    go_wp2_with fail
    go_ret
    exact ⟨rfl, hcut⟩

end Go.Proofs.Ytlfmkjapglalpaa
