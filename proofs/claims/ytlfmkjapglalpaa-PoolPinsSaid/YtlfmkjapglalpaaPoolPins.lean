/-
  The walk of the statement PoolPins.
-/
import Derived.Test.YtlfmkjapglalpaaPoL3
namespace Go.Proofs.Ytlfmkjapglalpaa
open Go Go.RowKit
set_option linter.unusedVariables false
set_option linter.unusedSimpArgs false
set_option maxRecDepth 100000

/-- The law's seven counts. -/
def hcs (f : Int → Nat) : Array Value := #[.int .i64 (f 0 : Int), .int .i64 (f 1 : Int), .int .i64 (f 2 : Int), .int .i64 (f 3 : Int), .int .i64 (f 4 : Int), .int .i64 (f 5 : Int), .int .i64 (f 6 : Int)]
theorem hcs_at (f : Int → Nat) {a : Nat} (h : a ≤ 6) : (hcs f)[a]? = some (.int .i64 (f (a : Int) : Int)) := by
  have : a = 0 ∨ a = 1 ∨ a = 2 ∨ a = 3 ∨ a = 4 ∨ a = 5 ∨ a = 6 := by omega
  rcases this with rfl | rfl | rfl | rfl | rfl | rfl | rfl <;> rfl
theorem hcs_set (f : Int → Nat) {a : Nat} (h : a ≤ 6) (n : Nat) : (hcs f).setIfInBounds a (.int .i64 (n : Int)) = hcs (fun j => if (a : Int) = j then n else f j) := by
  have : a = 0 ∨ a = 1 ∨ a = 2 ∨ a = 3 ∨ a = 4 ∨ a = 5 ∨ a = 6 := by omega
  rcases this with rfl | rfl | rfl | rfl | rfl | rfl | rfl <;> simp [hcs]
abbrev HlR (b : Nat) (f : Int → Nat) : Res := Blk b (.cells (hcs f) 59 (0, 0))
theorem Own.hl {w0 w : World} {b : Nat} {f : Int → Nat} {J : Res} (h : Own w0 w (Sep (HlR b f) J)) {a : Nat} (ha : a ≤ 6) : w.cell? ⟨b, a, none⟩ = some (.int .i64 (f (a : Int) : Int)) ∧ w.frozen? ⟨b, a, none⟩ = false := by
  have h1 := h.blkT
  simp [World.cell?, World.frozen?, h1, hcs_at f ha]
theorem Own.hlSet {w0 w : World} {b : Nat} {f : Int → Nat} {J : Res} [Stab J] (h : Own w0 w (Sep (HlR b f) J)) {a : Nat} (ha : a ≤ 6) (n : Nat) : Own w0 (w.setCell ⟨b, a, none⟩ (.int .i64 (n : Int))) (Sep (HlR b fun j => if (a : Int) = j then n else f j) J) := by
  have h1 := h.store a (.int .i64 (n : Int))
  rw [hcs_set f ha] at h1
  exact h1
def hlAt (w : World) (b a : Nat) : Nat := match w.cell? ⟨b, a, none⟩ with
  | some (.int _ n) => n.toNat
  | _ => 0
theorem Own.hlAt {w0 w : World} {b : Nat} {f : Int → Nat} {J : Res} (h : Own w0 w (Sep (HlR b f) J)) {a : Nat} (ha : a ≤ 6) : Go.Proofs.Ytlfmkjapglalpaa.hlAt w b a = f (a : Int) := by
  unfold Go.Proofs.Ytlfmkjapglalpaa.hlAt
  rw [(h.hl ha).1]
  simp
set_option maxHeartbeats 8000000 in
theorem pins_walk (z : Int) (ao1 : Option Addr) (c1 : Nat) (ks1 : List Int) (ao2 : Option Addr) (c2 : Nat) (ks2 : List Int) (w : World) (hx1 : SlI w ao1 ks1) (hr1 : ∀ z ∈ ks1, -9223372036854775808 ≤ z ∧ z ≤ 9223372036854775807) (hl1 : ks1.length * 8 ≤ 140737488351232) (hc1 : ao1 = none → c1 = 0) (hx2 : SlI w ao2 ks2) (hr2 : ∀ z ∈ ks2, -9223372036854775808 ≤ z ∧ z ≤ 9223372036854775807) (hl2 : ks2.length * 8 ≤ 140737488351232) (hc2 : ao2 = none → c2 = 0) :
    Calls Try.prog 5 #[.int .i64 z, .slice ao1 ks1.length c1, .slice ao2 ks2.length c2] w fun e w' => e = .returned (.bool true) ∧ Quiet w w' := by
  have hk1 : ks1.length ≤ 140737488351232 := by omega
  have hk2 : ks2.length ≤ 140737488351232 := by omega
  clear hr1 hl1 hc1 hr2 hl2 hc2
  have HI1 := Lib.hid hx1
  have HI2 := Lib.hid hx2
  obtain ⟨n1, hn1⟩ : ∃ n, ks1.length = n := ⟨_, rfl⟩
  obtain ⟨n2, hn2⟩ : ∃ n, ks2.length = n := ⟨_, rfl⟩
  rw [hn1] at hk1 ⊢
  rw [hn2] at hk2 ⊢
  have HN1 := Lib.hid hn1
  have HN2 := Lib.hid hn2
  obtain ⟨q, m, hq, hm, hmq, hq3⟩ := rem1 3 (by decide) (by decide) z
  have hm1 : 1 ≤ m ∧ m ≤ 3 := by omega
  have HQ : Hid ((wrap64 (z.tmod 3 + 3)).tmod 3 = (q : Int)) := Lib.hid hq
  have HM := Lib.hid hm
  have HM1 := Lib.hid hm1
  clear hx1 hx2 hn1 hn2 hq hm hmq hq3 hm1
  go_enter Try.func5, Try.ntmps5
  go_wp2_with fail
  refine (pawake_any w).mono ?_
  rintro e w1 ⟨rfl, hq⟩
  have H0 := Lib.hid ((Own.start w).quiet hq)
  clear hq
  go_wp2_with fail
  rw [HQ.out, HM.out]
  clear HQ HM
  refine (back_any H0.out).mono ?_
  rintro e w2 ⟨bb, rfl, h⟩
  have H1 := Lib.hid h
  clear h H0
  go_wp2_with fail
  refine (pnew_any H1.out m HM1.out.1 (by have := HM1.out; omega)).mono ?_
  rintro e w3 ⟨p, rfl, h⟩
  have HS0 : Hid (PnS m 0 (fun _ => 0) ⟨[], 0, bk0 6, m⟩) := Lib.hid ⟨⟨List.nodup_nil, fun id => rfl, fun x hx => (by cases hx), fun x hx => (by cases hx), rfl, rfl⟩, rfl, rfl, fun _ => by decide, fun _ h => absurd rfl h⟩
  have H2 : Hid (Own w _ (Sep (HlR w3.heap.size fun _ => 0) (Sep (PoR p bb [] [] ⟨[], 0, bk0 6, m⟩) Emp))) := Lib.hid (h.alloc (.cells (hcs fun _ => 0) 59))
  clear h H1
  go_upto_region 9 with fail
  obtain ⟨hb, hhb⟩ : ∃ b, w3.heap.size = b := ⟨_, rfl⟩
  rw [hhb] at H2 ⊢
  have H3 : Hid (∃ (L Z : List Pb) (st : Po) (K : Nat) (f : Int → Nat), PnS m K f st ∧ K ≤ 0 ∧ (∀ id, f id ≤ 0) ∧ Own w (w3.alloc (.cells (hcs fun _ => 0) 59)) (Sep (PoR p bb L Z st) (Sep (HlR hb f) Emp))) := Lib.hid ⟨[], [], _, 0, _, HS0.out, Nat.le_refl _, fun _ => Nat.le_refl _, H2.out.swap⟩
  unfold hcs at H3
  generalize World.alloc w3 _ = W4 at *
  clear hhb H2 HS0
  go_upto_block 0 with fail
  go_cut [11] (fun _ wx => ∃ k : Nat, k ≤ 10 ∧ Hid (∃ (L Z : List Pb) (st : Po) (K : Nat) (f : Int → Nat), PnS m K f st ∧ K ≤ k ∧ (∀ id, f id ≤ k) ∧ Own w wx (Sep (PoR p bb L Z st) (Sep (HlR hb f) Emp))))
  case first =>
    go_wp2_with fail
    go_loopw [11] (fun v wr => ∃ k : Nat, k ≤ n1 ∧ k ≤ 10 ∧ v = .int .i64 (k : Int) ∧ Hid (∃ (L Z : List Pb) (st : Po) (K : Nat) (f : Int → Nat), PnS m K f st ∧ K ≤ k ∧ (∀ id, f id ≤ k) ∧ Own w wr (Sep (PoR p bb L Z st) (Sep (HlR hb f) Emp)))) (fun v _ => n1 - (intOf v).toNat)
    case atStart => exact ⟨0, Nat.zero_le _, Nat.zero_le _, rfl, H3⟩
    case round =>
      clear H3
      obtain ⟨k, hk, hk10, rfl, HX⟩ := hrel
      obtain ⟨L, Z, st, K, f, hs, hK, hf, hO⟩ := HX.out
      have HS := Lib.hid hs
      have HK := Lib.hid hK
      have HF := Lib.hid hf
      have HO := Lib.hid hO
      clear HX hs hK hf hO
      by_cases hin : k < n1 ∧ k < 10
      · obtain ⟨hlt, hlt10⟩ := hin
        have hltI : (k : Int) < (n1 : Int) := by omega
        have h10I : (k : Int) < 10 := by omega
        have hk0 : (0 : Int) ≤ (k : Int) := by omega
        obtain ⟨g, off, rfl, hx⟩ := HI1.out k (by rw [HN1.out]; exact hlt)
        have hx := HO.out.only.cellq hx
        obtain ⟨y, hy⟩ : ∃ y, ks1.getD k 0 = y := ⟨_, rfl⟩
        rw [hy] at hx
        obtain ⟨q2, a, hq2, ha, haq, hq3⟩ := rem1 3 (by decide) (by decide) y
        have hq2' : (wrap64 (y.tmod 3 + 3)).tmod 3 = (q2 : Int) := hq2
        have hau : IntKind.u64.wrap (a : Int) = (a : Int) := by rw [wrapU]; unfold wu; omega
        have ha3 : 1 ≤ a ∧ a ≤ 3 := by omega
        have haI : (a : Int) < 7 := by omega
        have ha0 : (0 : Int) ≤ (a : Int) := by omega
        have hfa : f (a : Int) < 10 := by have := HF.out (a : Int); omega
        have hpin := pins_pin HO.out HS.out (by have := HK.out; omega) a ha3.1 ha3.2 hfa
        have HP := Lib.hid hpin
        have HA3 := Lib.hid ha3
        have HFA := Lib.hid hfa
        clear hy hq2 haq hq3 ha3 hfa hpin
        go_wp2_with fail
        refine HP.out.mono ?_
        rintro e w5 ⟨rfl, L', Z', st', K', hs', hK', ho⟩
        have HS' := Lib.hid hs'
        have HK' := Lib.hid hK'
        have HO' := Lib.hid ho.swap
        obtain ⟨e1, e2⟩ := ho.swap.hl (a := a) (by have := HA3.out; omega)
        obtain ⟨fa, hfa⟩ : ∃ n, f (a : Int) = n := ⟨_, rfl⟩
        rw [hfa] at e1 HS'
        have HFE := Lib.hid hfa
        have hw : wrap64 ((fa : Int) + 1) = ((fa + 1 : Nat) : Int) := by
          have := HFA.out
          rw [hfa] at this
          rw [IntWalk.wrap64_in _ ⟨by omega, by omega⟩]
          push_cast
          rfl
        obtain ⟨fb, hfb⟩ : ∃ n, fa + 1 = n := ⟨_, rfl⟩
        rw [hfb] at hw HS'
        have HFB := Lib.hid hfb
        clear HP hs' hK' ho HO HS hfa hfb
        go_wp2_with fail
        have HO2 := Lib.hid (HO'.out.hlSet (a := a) (by have := HA3.out; omega) fb)
        generalize World.setCell w5 _ _ = w6 at *
        clear HO' e1 e2
        go_roundw
        case rel => exact ⟨k + 1, by omega, by omega, by go_num, Lib.hid ⟨L', Z', st', K', _, HS'.out, by have h1 := HK'.out; have h2 := HK.out; omega, fun id => by
          have h1 := HF.out id
          have h2 := HF.out (a : Int)
          have h3 := HFE.out
          have h4 := HFB.out
          split <;> omega, HO2.out.swap⟩⟩
        case measure => simp [intOf]; omega
      · by_cases hd1 : (k : Int) < (n1 : Int)
        · have hd2 : ¬ (k : Int) < 10 := by omega
          clear hin
          go_wp2_with fail
          go_meet
          exact ⟨k, hk10, Lib.hid ⟨L, Z, st, K, f, HS.out, HK.out, HF.out, HO.out⟩⟩
        · clear hin
          go_wp2_with fail
          go_meet
          exact ⟨k, hk10, Lib.hid ⟨L, Z, st, K, f, HS.out, HK.out, HF.out, HO.out⟩⟩
  case rest =>
    clear H3
    obtain ⟨k0, hk0, HX⟩ := hcut
    obtain ⟨w5, hw5⟩ : ∃ W, W = wc := ⟨wc, rfl⟩
    subst hw5
    obtain ⟨L, Z, st, K, f, hs, hK, hf, hO⟩ := HX.out
    have HS := Lib.hid hs.askNil
    have HF := Lib.hid (fun id => Nat.le_trans (hf id) hk0 : ∀ id, f id ≤ 10)
    have HO := Lib.hid hO
    obtain ⟨qo, qc, e2, f2⟩ := hO.askCell
    clear HX hs hK hf hO hk0
    go_upto_region 17 with fail
    have H4 : Hid (∃ (L Z : List Pb) (st : Po) (K : Nat), PnS m K f st ∧ K ≤ 0 ∧ Own w _ (Sep (PoR p bb L Z st) (Sep (HlR hb f) Emp))) := Lib.hid ⟨L, Z, _, 0, HS.out, Nat.le_refl _, HO.out.askNil⟩
    generalize World.setCell w5 _ _ = w6 at *
    clear HS HO e2 f2
    go_upto_block 2 with fail
    go_cut [13] (fun _ wx => Hid (∃ (L Z : List Pb) (st : Po) (K : Nat), PnS m K f st ∧ K ≤ 30 ∧ Own w wx (Sep (PoR p bb L Z st) (Sep (HlR hb f) Emp))))
    case first =>
      go_wp2_with fail
      go_loopw [13] (fun v wr => ∃ k : Nat, k ≤ n2 ∧ k ≤ 30 ∧ v = .int .i64 (k : Int) ∧ Hid (∃ (L Z : List Pb) (st : Po) (K : Nat), PnS m K f st ∧ K ≤ k ∧ Own w wr (Sep (PoR p bb L Z st) (Sep (HlR hb f) Emp)))) (fun v _ => n2 - (intOf v).toNat)
      case atStart => exact ⟨0, Nat.zero_le _, Nat.zero_le _, rfl, H4⟩
      case round =>
        clear H4
        obtain ⟨k, hk, hk30, rfl, HX⟩ := hrel
        obtain ⟨L, Z, st, K, hs, hK, hO⟩ := HX.out
        have HS := Lib.hid hs
        have HK := Lib.hid hK
        have HO := Lib.hid hO
        clear HX hK hO
        by_cases hin : k < n2 ∧ k < 30
        · obtain ⟨hlt, hlt30⟩ := hin
          have hltI : (k : Int) < (n2 : Int) := by omega
          have h30I : (k : Int) < 30 := by omega
          have hk0 : (0 : Int) ≤ (k : Int) := by omega
          obtain ⟨g, off, rfl, hx⟩ := HI2.out k (by rw [HN2.out]; exact hlt)
          have hx := HO.out.only.cellq hx
          obtain ⟨y, hy⟩ : ∃ y, ks2.getD k 0 = y := ⟨_, rfl⟩
          rw [hy] at hx
          obtain ⟨q2, a, hq2, ha, haq, hq3⟩ := rem1 6 (by decide) (by decide) y
          have hq2' : (wrap64 (y.tmod 6 + 6)).tmod 6 = (q2 : Int) := hq2
          have hau : IntKind.u64.wrap (a : Int) = (a : Int) := by rw [wrapU]; unfold wu; omega
          have ha6 : 1 ≤ a ∧ a ≤ 6 := by omega
          have haI : (a : Int) < 7 := by omega
          have ha0 : (0 : Int) ≤ (a : Int) := by omega
          obtain ⟨qo, qc, e2, _⟩ := HO.out.askCell
          rw [hs.q] at e2
          have hget := pins_get HO.out HS.out (by have := HK.out; omega) a ha6.1 ha6.2
          have HG := Lib.hid hget
          have HA6 := Lib.hid ha6
          clear hy hq2 haq hq3 ha6 hget hs
          go_wp2_with fail
          refine HG.out.mono ?_
          rintro e w7 ⟨v, rfl, L', Z', st', K', hs', hK', hKf, ho⟩
          have HS' := Lib.hid hs'
          have HK2 := Lib.hid hK'
          have HO' := Lib.hid ho
          obtain ⟨qo', qc', e3, _⟩ := ho.askCell
          rw [hs'.q] at e3
          obtain ⟨e1, _⟩ := ho.swap.hl (a := a) (by have := HA6.out; omega)
          obtain ⟨fa, hfa⟩ : ∃ n, f (a : Int) = n := ⟨_, rfl⟩
          rw [hfa] at e1 hKf
          have hev := pins_evict ho hs' (by have := HK.out; omega)
          have HEV := Lib.hid hev
          have HKF := Lib.hid hKf
          clear HG hs' hK' ho HO HS hfa hKf hev e2
          by_cases h0 : fa = 0
          · subst h0
            clear HKF
            go_wp2_with fail
            refine HEV.out.mono ?_
            rintro e w8 ⟨a8, b8, rfl, L8, Z8, st8, hs8, _, _, ho8⟩
            have HS8 := Lib.hid hs8
            have HO8 := Lib.hid ho8
            clear HEV hs8 ho8 e1 e3 HO' HS'
            go_wp2_with fail
            go_roundw
            case rel => exact ⟨k + 1, by omega, by omega, by go_num, Lib.hid ⟨L8, Z8, st8, K', HS8.out, by have h1 := HK2.out; have h2 := HK.out; omega, HO8.out⟩⟩
            case measure => simp [intOf]; omega
          · have h0I : (0 : Int) < (fa : Int) := by omega
            obtain rfl : K' = K := HKF.out h0
            clear HKF h0
            go_wp2_with fail
            refine HEV.out.mono ?_
            rintro e w8 ⟨a8, b8, rfl, L8, Z8, st8, hs8, _, _, ho8⟩
            have HS8 := Lib.hid hs8
            have HO8 := Lib.hid ho8
            clear HEV hs8 ho8 e1 e3 HO' HS'
            go_wp2_with fail
            go_roundw
            case rel => exact ⟨k + 1, by omega, by omega, by go_num, Lib.hid ⟨L8, Z8, st8, K', HS8.out, by have h1 := HK2.out; have h2 := HK.out; omega, HO8.out⟩⟩
            case measure => simp [intOf]; omega
        · by_cases hd1 : (k : Int) < (n2 : Int)
          · have hd2 : ¬ (k : Int) < 30 := by omega
            clear hin hs
            go_wp2_with fail
            go_meet
            exact Lib.hid ⟨L, Z, st, K, HS.out, by have := HK.out; omega, HO.out⟩
          · clear hin hs
            go_wp2_with fail
            go_meet
            exact Lib.hid ⟨L, Z, st, K, HS.out, by have := HK.out; omega, HO.out⟩
    case rest =>
      clear H4
      obtain ⟨w7, hw7⟩ : ∃ W, W = wc := ⟨wc, rfl⟩
      subst hw7
      have H5 : Hid (∃ (L Z : List Pb) (st : Po) (K : Nat) (f : Int → Nat), PnS m K f st ∧ K ≤ 30 ∧ (∀ j : Int, j < ((1 : Nat) : Int) → f j = 0) ∧ Own w w7 (Sep (PoR p bb L Z st) (Sep (HlR hb f) Emp))) := Lib.hid (by
        obtain ⟨L, Z, st, K, hs, hK, hO⟩ := hcut.out
        refine ⟨L, Z, st, K, f, hs, hK, fun j hj => ?_, hO⟩
        apply Classical.byContradiction
        intro h
        have := hs.f3 j h
        omega)
      clear hcut HF
      go_wp2_with fail
      go_loopw [18] (fun v wr => ∃ a : Nat, 1 ≤ a ∧ a ≤ 4 ∧ v = .int .i64 (a : Int) ∧ Hid (∃ (L Z : List Pb) (st : Po) (K : Nat) (f : Int → Nat), PnS m K f st ∧ K ≤ 30 ∧ (∀ j : Int, j < (a : Int) → f j = 0) ∧ Own w wr (Sep (PoR p bb L Z st) (Sep (HlR hb f) Emp)))) (fun v _ => 5 - (intOf v).toNat)
      case atStart => exact ⟨1, Nat.le_refl _, by omega, rfl, H5⟩
      case round =>
        clear H5
        obtain ⟨a, ha1, ha4, rfl, HX⟩ := hrel
        by_cases hlt : a < 4
        · have hltI : (a : Int) < 4 := by omega
          have ha7 : (a : Int) < 7 := by omega
          have ha0 : (0 : Int) ≤ (a : Int) := by omega
          have hau : IntKind.u64.wrap (a : Int) = (a : Int) := by rw [wrapU]; unfold wu; omega
          have HA := Lib.hid (⟨ha1, hlt⟩ : 1 ≤ a ∧ a < 4)
          go_wp2_with fail
          go_loopw [125] (fun _ wr => True ∧ Hid (∃ (L Z : List Pb) (st : Po) (K : Nat) (f : Int → Nat), PnS m K f st ∧ K ≤ 30 ∧ (∀ j : Int, j < (a : Int) → f j = 0) ∧ Own w wr (Sep (PoR p bb L Z st) (Sep (HlR hb f) Emp)))) (fun _ wr => hlAt wr hb a)
          case atStart => exact ⟨trivial, HX⟩
          case round =>
            clear HX
            obtain ⟨_, HY⟩ := hrel
            obtain ⟨L, Z, st, K, f, hs, hK, hf, hO⟩ := HY.out
            have HS := Lib.hid hs
            have HK := Lib.hid hK
            have HF := Lib.hid hf
            have HO := Lib.hid hO
            obtain ⟨e1, _⟩ := hO.swap.hl (a := a) (by omega)
            have HMS := Lib.hid (hO.swap.hlAt (a := a) (by omega))
            obtain ⟨fa, hfa⟩ : ∃ n, f (a : Int) = n := ⟨_, rfl⟩
            rw [hfa] at e1 HMS
            have HFA := Lib.hid hfa
            clear HY hs hK hf
            by_cases h0 : fa = 0
            · subst h0
              have hun := pins_unpin_no hO HS.out (by have := HK.out; omega) a (by omega) hfa
              have HUN := Lib.hid hun
              clear hO hun hfa
              go_wp2_with fail
              refine HUN.out.mono ?_
              rintro e w8 ⟨rfl, L8, Z8, ho8⟩
              have HO8 := Lib.hid ho8
              clear HUN ho8 e1 HO
              go_wp2_with fail
              go_roundw
              case rel => exact ⟨a + 1, by omega, by omega, by go_num, Lib.hid ⟨L8, Z8, st, K, f, HS.out, HK.out, fun j hj => by
                by_cases e : j = (a : Int)
                · rw [e]; exact HFA.out
                · exact HF.out j (by push_cast at hj; omega), HO8.out⟩⟩
              case measure => simp [intOf]; omega
            · have h0I : (0 : Int) < (fa : Int) := by omega
              have hun := pins_unpin hO HS.out (by have := HK.out; omega) a (by omega) (by rw [hfa]; exact h0)
              have HUN := Lib.hid hun
              have H0 := Lib.hid h0
              have hfb10 : fa ≤ 10 := by rw [← hfa]; exact HS.out.f10 _
              have hw : wrap64 ((fa : Int) - 1) = ((fa - 1 : Nat) : Int) := by
                rw [IntWalk.wrap64_in _ ⟨by omega, by omega⟩]
                omega
              obtain ⟨fb, hfb⟩ : ∃ n, fa - 1 = n := ⟨_, rfl⟩
              rw [hfb] at hw
              have HFB := Lib.hid hfb
              clear hO hun hfa h0 hfb10 hfb
              go_wp2_with fail
              refine HUN.out.mono ?_
              rintro e w8 ⟨rfl, L8, Z8, st8, hs8, ho8⟩
              have HS8 := Lib.hid hs8
              have HO8 := Lib.hid ho8.swap
              obtain ⟨e4, e5⟩ := ho8.swap.hl (a := a) (by omega)
              rw [HFA.out] at e4
              clear HUN hs8 ho8 e1 HO
              go_wp2_with fail
              have HO9 := Lib.hid (HO8.out.hlSet (a := a) (by have := HA.out; omega) fb)
              generalize World.setCell w8 _ _ = w9 at *
              clear HO8 e4 e5
              go_roundw
              case rel =>
                refine ⟨trivial, Lib.hid ⟨L8, Z8, st8, K, _, HS8.out, HK.out, fun j hj => ?_, ?_⟩⟩
                · rw [if_neg (by omega)]
                  exact HF.out j hj
                · rw [HFA.out, HFB.out]
                  exact HO9.out.swap
              case measure =>
                rw [HMS.out, HO9.out.hlAt (a := a) (by have := HA.out; omega)]
                rw [if_pos rfl]
                have := HFB.out
                have := H0.out
                omega
        · obtain rfl : a = 4 := by omega
          obtain ⟨L, Z, st, K, f, hs, hK, hf, hO⟩ := HX.out
          have hz : ∀ id, f id = 0 := fun id => by
            apply Classical.byContradiction
            intro h
            have h3 := hs.f3 id h
            exact h (hf id (by push_cast; omega))
          have HZ := Lib.hid hz
          have H6 : Hid (∃ (L Z : List Pb) (st : Po) (K : Nat), PnS m K f st ∧ K ≤ 30 ∧ st.L.length + 0 ≤ 6 ∧ Own w wr (Sep (PoR p bb L Z st) (Sep (HlR hb f) Emp))) := Lib.hid ⟨L, Z, st, K, hs, hK, hs.h.len, hO⟩
          clear HX hs hK hf hO hz
          go_upto_block 8 with fail
          go_cut [19] (fun _ wx => Hid (∃ (L Z : List Pb) (st : Po) (K : Nat), PnS m K f st ∧ K ≤ 30 ∧ st.L = [] ∧ Own w wx (Sep (PoR p bb L Z st) (Sep (HlR hb f) Emp))))
          case first =>
            go_wp2_with fail
            go_loopw [19] (fun v wr => ∃ k : Nat, k ≤ 20 ∧ v = .int .i64 (k : Int) ∧ Hid (∃ (L Z : List Pb) (st : Po) (K : Nat), PnS m K f st ∧ K ≤ 30 ∧ st.L.length + k ≤ 6 ∧ Own w wr (Sep (PoR p bb L Z st) (Sep (HlR hb f) Emp)))) (fun v _ => 21 - (intOf v).toNat)
            case atStart => exact ⟨0, by omega, rfl, H6⟩
            case round =>
              clear H6
              obtain ⟨k, hk, rfl, HY⟩ := hrel
              obtain ⟨L, Z, st, K, hs, hK, hlen, hO⟩ := HY.out
              have hkI : (k : Int) < 20 := by omega
              have hk0 : (0 : Int) ≤ (k : Int) := by omega
              have HS := Lib.hid hs
              have HK := Lib.hid hK
              have HL6 := Lib.hid hlen
              have HO := Lib.hid hO
              obtain ⟨n, hn⟩ : ∃ n, st.L.length = n := ⟨_, rfl⟩
              have hle := plen_any hO
              rw [hn] at hle
              have HLE := Lib.hid hle
              have HN := Lib.hid hn
              have hev := pins_evict hO hs (by omega)
              have HEV := Lib.hid hev
              clear HY hs hK hlen hO hn hle hev
              by_cases h0 : n = 0
              · subst h0
                go_wp2_with (go_at_call 26; refine HLE.out.mono ?_; rintro e w8 ⟨rfl, rfl⟩)
                go_meet
                exact Lib.hid ⟨L, Z, st, K, HS.out, HK.out, List.length_eq_zero_iff.1 HN.out, HO.out⟩
              · have h0I : (0 : Int) < (n : Int) := by omega
                have HNE := Lib.hid h0
                clear h0
                go_wp2_with (go_at_call 26; refine HLE.out.mono ?_; rintro e w8 ⟨rfl, rfl⟩)
                refine HEV.out.mono ?_
                rintro e w8 ⟨a8, b8, rfl, L8, Z8, st8, hs8, _, hb8, ho8⟩
                obtain ⟨rfl, hl8⟩ := hb8 (fun e => HNE.out (by rw [← HN.out, e]; rfl)) HZ.out
                have HS8 := Lib.hid hs8
                have HL8 := Lib.hid hl8
                have HO8 := Lib.hid ho8
                clear HEV hs8 ho8 hl8 hb8 HO
                go_wp2_with fail
                go_roundw
                case rel =>
                  have hr : ∃ j : Nat, j ≤ 20 ∧ (Value.int .i64 ((k : Int) + 1)) = .int .i64 (j : Int) ∧ Hid (∃ (L Z : List Pb) (st : Po) (K : Nat), PnS m K f st ∧ K ≤ 30 ∧ st.L.length + j ≤ 6 ∧ Own w w8 (Sep (PoR p bb L Z st) (Sep (HlR hb f) Emp))) := ⟨k + 1, by omega, by push_cast; rfl, Lib.hid ⟨L8, Z8, st8, K, HS8.out, HK.out, by have h1 := HL8.out; have h2 := HL6.out; omega, HO8.out⟩⟩
                  repeat apply Exists.intro
                  exact ⟨hr, rfl⟩
                case measure => simp [intOf]; omega
          case rest =>
            clear H6
            obtain ⟨w8, hw8⟩ : ∃ W, W = wc := ⟨wc, rfl⟩
            subst hw8
            obtain ⟨L, Z, st, K, hs, hK, hnil, hO⟩ := hcut.out
            have hev := pins_evict hO hs (by omega)
            have HEV := Lib.hid hev
            have HNIL := Lib.hid hnil
            clear hcut hs hK hnil hO hev
            go_wp2_with fail
            refine HEV.out.mono ?_
            rintro e w9 ⟨a9, b9, rfl, L9, Z9, st9, hs9, hb9, _, ho9⟩
            obtain ⟨rfl, rfl⟩ := hb9 HNIL.out
            have hle := plen_any ho9
            rw [HNIL.out] at hle
            have HLE := Lib.hid hle
            have HO9 := Lib.hid ho9
            clear HEV hs9 ho9 hle hb9
            go_wp2_with (go_at_call 26; refine HLE.out.mono ?_; rintro e w10 ⟨rfl, rfl⟩)
            go_ret
            exact ⟨rfl, HO9.out.only⟩

end Go.Proofs.Ytlfmkjapglalpaa
