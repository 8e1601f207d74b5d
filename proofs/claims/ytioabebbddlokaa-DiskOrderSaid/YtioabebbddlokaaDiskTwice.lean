/-
  The walk of the statement DiskTwice.
-/
import Derived.Test.YtioabebbddlokaaDiskFuses
import Derived.Test.YtioabebbddlokaaCopyInts
namespace Go.Proofs.Ytioabebbddlokaa
open Go Go.RowKit
set_option linter.unusedVariables false

/-- A disk of 16 sectors with at most k of each. -/
structure Few (m k : Nat) (D : DS) : Prop where
  sz : D.n = m
  W : D.W.length ≤ k
  wr : D.wr ≤ k
  sy : D.sy ≤ k
theorem last_few {m k : Nat} {D : DS} (h : Few m k D) : Few m k D.last := by
  obtain ⟨h1, _, _, h4, h5, h6⟩ := DS.last_same D
  exact ⟨h1.trans h.sz, by rw [h4]; exact h.W, by rw [h5]; exact h.wr, by rw [h6]; exact h.sy⟩
theorem Few.up {m k : Nat} {D : DS} (h : Few m k D) : Few m (k + 1) D := ⟨h.sz, Nat.le_succ_of_le h.W, Nat.le_succ_of_le h.wr, Nat.le_succ_of_le h.sy⟩
theorem Few.write {m k : Nat} {D : DS} (h : Few m k D) (i : Int) (b : List UInt8) : Few m (k + 1) (D.write i b) := by
  unfold DS.write
  split
  · exact h.up
  · split
    · have g := last_few h
      refine ⟨g.sz, ?_, ?_, Nat.le_succ_of_le g.sy⟩
      · show (D.last.W ++ _).length ≤ _
        have := g.W
        simp
        omega
      · show D.last.wr + 1 ≤ _
        have := g.wr
        omega
    · exact (last_few h).up
theorem Few.sync {m k : Nat} {D : DS} (h : Few m k D) : Few m (k + 1) D.sync := by
  unfold DS.sync
  split
  · exact h.up
  · exact ⟨h.sz, Nat.zero_le _, Nat.le_succ_of_le h.wr, Nat.succ_le_succ h.sy⟩
theorem Few.crash {m k : Nat} {D : DS} (h : Few m k D) (l : List Int) : Few m k (D.crash l) := ⟨h.sz, Nat.zero_le _, h.wr, h.sy⟩

/-- Slices of sectors that were read, in an array of m. -/
def secV (g : Nat) : Value := .slice (some ⟨g, 0, none⟩) 64 64
def WasR (ga m : Nat) (t : TypeId) (N : List UInt8) (k : Nat) : Res := fun w F => ∃ gs : List Nat, gs.length = k ∧ k ≤ m ∧
  w.heap[ga]? = some (.cells (gs.map secV ++ List.replicate (m - k) (Value.slice none 0 0)).toArray t (0, 0)) ∧
  (∀ j (hj : j < gs.length), w.heap[gs[j]]? = some (.cells (u8s (sec N j)).toArray 60 (0, 0))) ∧ ∀ i, F i ↔ i = ga ∨ i ∈ gs
instance {ga m k : Nat} {t : TypeId} {N : List UInt8} : Stab (WasR ga m t N k) where
  lt := by
    rintro w F ⟨gs, h1, h2, h3, h4, h5⟩ k hk
    rcases (h5 k).1 hk with rfl | hk
    · exact lt_of_some h3
    · obtain ⟨j, hj, rfl⟩ := List.getElem_of_mem hk
      exact lt_of_some (h4 j hj)
  keep := by
    rintro w w' F ⟨gs, h1, h2, h3, h4, h5⟩ hk
    exact ⟨gs, h1, h2, (hk ga ((h5 ga).2 (.inl rfl))).trans h3, fun j hj => (hk _ ((h5 _).2 (.inr (List.getElem_mem hj)))).trans (h4 j hj), h5⟩
theorem was_new {w0 w : World} {J : Res} [Stab J] {m : Nat} {t : TypeId} {N : List UInt8} (h : Own w0 w J) : Own w0 (w.alloc (.cells (List.replicate m (Value.slice none 0 0)).toArray t)) (Sep (WasR w.heap.size m t N 0) J) :=
  h.fresh ((Only.refl _ w).alloc _) (B := fun k => k = w.heap.size) ⟨[], rfl, Nat.zero_le _, heap_alloc_new w _, fun j hj => by simp at hj, fun i => by simp⟩ (fun k e => by omega)
theorem WasR.cell {w : World} {ga m k : Nat} {t : TypeId} {N : List UInt8} {F : Nat → Prop} (h : WasR ga m t N k w F) {j : Nat} (hj : j < m) : ∃ v, w.cell? ⟨ga, j, none⟩ = some v ∧ w.frozen? ⟨ga, j, none⟩ = false := by
  obtain ⟨gs, h1, h2, h3, h4, h5⟩ := h
  refine ⟨_, by simp only [World.cell?, h3]; rw [if_neg (by simp), List.getElem?_toArray, List.getElem?_eq_getElem (by simp; omega)], by simp [World.frozen?, h3]⟩
/-- The next one read is laid into the array. -/
theorem WasR.put {w0 w : World} {ga m k g : Nat} {t : TypeId} {N : List UInt8} {J : Res} [Stab J] (h : Own w0 w (Sep (Row g 60 (sec N k)) (Sep (WasR ga m t N k) J))) (hk : k < m) :
    Own w0 (w.setCell ⟨ga, k, none⟩ (secV g)) (Sep (WasR ga m t N (k + 1)) J) := by
  obtain ⟨F, ⟨A, BC, hA, ⟨B, C, ⟨gs, h1, h2, h3, h4, h5⟩, hC, hBC, hBCi⟩, hABC, hF⟩, hF0, hO⟩ := h
  have hg : A g := (hA.2 g).2 rfl
  have hB : ∀ i, B i → i ≠ g := fun i hi e => hABC g hg ((hBCi g).2 (.inl (e ▸ hi)))
  have hga : B ga := (h5 ga).2 (.inl rfl)
  have hne : g ≠ ga := fun e => hB ga hga e.symm
  have hkeep : ∀ i, i ≠ ga → (w.setCell ⟨ga, k, none⟩ (secV g)).heap[i]? = w.heap[i]? := fun i hi => Below.heap_setCell _ _ _ _ hi
  refine ⟨fun i => (i = ga ∨ i ∈ gs ++ [g]) ∨ C i, ⟨fun i => i = ga ∨ i ∈ gs ++ [g], C, ⟨gs ++ [g], by simp [h1], by omega, ?_, ?_, fun i => Iff.rfl⟩, Stab.keep hC (fun i hi => hkeep i (fun e => hBC ga hga (e ▸ hi))), ?_, fun i => Iff.rfl⟩, ?_, ?_⟩
  · rw [heap_set h3]
    congr 2
    apply Array.toList_inj.1
    simp only [List.setIfInBounds_toArray]
    rw [List.set_append_right _ _ (by simp; omega)]
    have e1 : k - (gs.map secV).length = 0 := by simp; omega
    rw [e1, show m - k = (m - (k + 1)) + 1 by omega, List.replicate_succ, List.set_cons_zero]
    simp
  · intro j hj
    by_cases hjk : j < gs.length
    · rw [List.getElem_append_left hjk, hkeep _ (fun e => ?_)]
      · exact h4 j hjk
      · have a := h4 j hjk
        rw [e, h3] at a
        simp only [Option.some.injEq, Obj.cells.injEq] at a
        have hl := congrArg (fun x => x.toList) a.1
        simp only at hl
        have h0 : 0 < m := by omega
        have hx : ∀ v ∈ (gs.map secV ++ List.replicate (m - k) (Value.slice none 0 0)), ∃ q n c, v = .slice q n c := by
          intro v hv
          rcases List.mem_append.1 hv with hv | hv
          · obtain ⟨x, _, rfl⟩ := List.mem_map.1 hv
            exact ⟨_, _, _, rfl⟩
          · rw [(List.mem_replicate.1 hv).2]
            exact ⟨_, _, _, rfl⟩
        have hm : (gs.map secV ++ List.replicate (m - k) (Value.slice none 0 0)).length = m := by simp; omega
        obtain ⟨v, hv⟩ : ∃ v, v ∈ (gs.map secV ++ List.replicate (m - k) (Value.slice none 0 0)) := ⟨_, List.getElem_mem (n := 0) (by omega)⟩
        obtain ⟨q, n, c, rfl⟩ := hx v hv
        rw [hl] at hv
        simp [u8s] at hv
    · have e2 : j = gs.length := by simp at hj; omega
      subst e2
      rw [List.getElem_append_right (by omega), hkeep _ (by simpa using hne)]
      simp only [Nat.sub_self, List.getElem_singleton]
      rw [h1]
      exact hA.1
  · rintro i (rfl | hi) hCi
    · exact hBC _ hga hCi
    · rcases List.mem_append.1 hi with hi | hi
      · exact hBC i ((h5 i).2 (.inr hi)) hCi
      · rw [List.mem_singleton.1 hi] at hCi
        exact hABC g hg ((hBCi g).2 (.inr hCi))
  · rintro i ((rfl | hi) | hi)
    · exact hF0 _ ((hF _).2 (.inr ((hBCi _).2 (.inl hga))))
    · rcases List.mem_append.1 hi with hi | hi
      · exact hF0 i ((hF i).2 (.inr ((hBCi i).2 (.inl ((h5 i).2 (.inr hi))))))
      · rw [List.mem_singleton.1 hi]
        exact hF0 g ((hF g).2 (.inl hg))
    · exact hF0 i ((hF i).2 (.inr ((hBCi i).2 (.inr hi))))
  · exact hO.trans (Only.cell w ga k _) (fun i hi e => by have := hF0 ga ((hF ga).2 (.inr ((hBCi ga).2 (.inl hga)))); omega)
/-- One of them read again. -/
theorem WasR.read {w : World} {ga m k : Nat} {t : TypeId} {N : List UInt8} {F : Nat → Prop} (h : WasR ga m t N k w F) {j : Nat} (hj : j < k) (hl : (sec N j).length = 64) : ∃ g, w.cell? ⟨ga, j, none⟩ = some (secV g) ∧ SlC w (secV g) (sec N j) := by
  obtain ⟨gs, h1, h2, h3, h4, h5⟩ := h
  refine ⟨gs[j], ?_, row_bytes' (h4 j (by omega)) hl.symm⟩
  simp only [World.cell?, h3]
  rw [if_neg (by simp), List.getElem?_toArray, List.getElem?_append_left (by simp; omega)]
  simp [show j < gs.length by omega]


theorem Try.infoA16 : (Try.prog.info? 49).map (fun i => (i.zero, i.size)) = some (some (.agg (List.replicate 16 (Value.slice none 0 0)).toArray), 16) := by kernel_rfl

set_option maxRecDepth 100000 in
set_option maxHeartbeats 2000000 in
theorem twice_walk (ao : Option Addr) (c : Nat) (os : List OpT) (ko : Option Addr) (kc : Nat) (keep : List Int) (lo : Option Addr) (lc : Nat) (again : List Int) (w : World) (ho : SlOp w ao os)
    (hk : SlI w ko keep) (hkr : ∀ z ∈ keep, -9223372036854775808 ≤ z ∧ z ≤ 9223372036854775807) (hkl : keep.length * 8 ≤ 140737488351232) (hkc : ko = none → kc = 0)
    (hl : SlI w lo again) (hlr : ∀ z ∈ again, -9223372036854775808 ≤ z ∧ z ≤ 9223372036854775807) (hll : again.length * 8 ≤ 140737488351232) (hlc : lo = none → lc = 0) :
    Calls Try.prog 7 #[.slice ao os.length c, .slice ko keep.length kc, .slice lo again.length lc] w fun e w' => e = .returned (.bool true) ∧ Quiet w w' := by
  obtain ⟨Z, hZ⟩ : ∃ Z : Array Value, Z = (List.replicate 16 (Value.slice none 0 0)).toArray := ⟨_, rfl⟩
  have HZ := Lib.hid hZ
  have HZI : Hid ((Try.prog.info? 49).map (fun i => (i.zero, i.size)) = some (some (.agg Z), 16)) := Lib.hid (by rw [hZ]; exact Try.infoA16)
  clear hZ
  have HO := Lib.hid ho
  have HK := Lib.hid hk
  have HKR := Lib.hid hkr
  have HKC := Lib.hid hkc
  have HL := Lib.hid hl
  have HLR := Lib.hid hlr
  have HLC := Lib.hid hlc
  have hkl : keep.length * 8 ≤ 140737488355328 := by omega
  have hll : again.length * 8 ≤ 140737488355328 := by omega
  clear ho hk hkr hkc hl hlr hlc
  go_enter Try.func7, Try.ntmps7
  go_wp2_with fail
  refine (awake_any w).mono ?_
  rintro e w0 ⟨rfl, hq⟩
  have H0 := Lib.hid ((Own.start w).quiet hq); clear hq
  go_wp2_with fail
  refine (own_new H0.out 16 (by decide) (by decide)).mono ?_
  rintro e w1 ⟨p, rfl, h1⟩
  have HF0 : Hid (Few 16 0 (DS.new 16)) := Lib.hid ⟨rfl, Nat.le_refl _, Nat.le_refl _, Nat.le_refl _⟩
  have H1 := Lib.hid h1; clear h1 H0
  go_wp2_with fail
  go_loopw [9] (fun i wr => ∃ (k : Nat) (D : DS), k ≤ os.length ∧ k ≤ 60 ∧ i = .int .i64 k ∧ Hid (Few 16 (2 * k) D) ∧ Hid (Own w wr (Sep (DiskR p D) Emp))) (fun i _ => os.length - (intOf i).toNat)
  case atStart => exact ⟨0, _, Nat.zero_le _, by omega, rfl, HF0, H1⟩
  case round =>
    obtain ⟨k, D, hk, hk1, rfl, HF, HQ⟩ := hrel
    clear HF0 H1
    by_cases hlt : k < os.length
    · by_cases h60 : k < 60
      · have hltI : (k : Int) < (os.length : Int) := by omega
        have h60I : (k : Int) < 60 := by omega
        have hk0 : (0 : Int) ≤ (k : Int) := by omega
        obtain ⟨g, off, rfl, hx⟩ := HO.out k hlt
        obtain ⟨x, hxe⟩ : ∃ x, x = os.getD k default := ⟨_, rfl⟩
        rw [← hxe] at hx
        clear hxe
        obtain ⟨xk, xi, xb, xl⟩ := x
        obtain ⟨vb, hvb, hSb⟩ := hx.b
        obtain ⟨vo, vc, rfl⟩ := hSb.shape
        have HI := Lib.hid hx.i
        have HKD := Lib.hid hx.k
        have HVB := Lib.hid hvb
        have HSB := Lib.hid hSb
        have d1 : wr.cell? ⟨g, off + k * 4 + 1, none⟩ = some (.int .i64 xi) := HQ.out.only.cellq hx.i
        have d2 : wr.cell? ⟨g, off + k * 4 + 2, none⟩ = some (.slice vo xb.length vc) := HQ.out.only.cellq hvb
        clear hx hvb hSb
        have HQd := Lib.hid HQ.out.drew
        have hcall := fun (W : World) (hW : Own w W (Sep (DiskR p D) Emp)) => own_write hW xi (.slice vo xb.length vc) xb (fun F B _ _ h0 _ => HSB.out.old hW.only h0) (by have := HF.out.W; omega) (by have := HF.out.wr; omega)
        have HCALL := Lib.hid hcall
        clear hcall
        go_upto_region 9 with fail
        go_region_held3 (fun w' => w'.cell? ⟨g, off + k * 4 + 1, none⟩ = some (.int .i64 xi) ∧ w'.cell? ⟨g, off + k * 4 + 2, none⟩ = some (.slice vo xb.length vc))
          (first
            | exact ⟨HA1.out.only.cellq HI.out, HA1.out.only.cellq HVB.out⟩
            | exact ⟨HQd.out.only.cellq HI.out, HQd.out.only.cellq HVB.out⟩)
          (first
            | (go_at_call 15; (with_reducible refine (HCALL.out _ HQd.out).mono ?_); rintro e w3 ⟨rfl, ha⟩; have HA1 := Lib.hid ha; clear ha))
        have d0' : w3.cell? ⟨g, off + k * 4, none⟩ = some (.int .i64 xk) := HA1.out.only.cellq HKD.out
        have F1 : Hid (Few 16 (2 * k + 1) (D.write xi xb)) := Lib.hid (HF.out.write xi xb)
        obtain ⟨E, hE⟩ : ∃ E, E = D.write xi xb := ⟨_, rfl⟩
        rw [← hE] at HA1 F1
        clear hE d1 d2 HQd HCALL HQ HF
        by_cases hz : xk.tmod 4 = 0
        · have hzB : (xk.tmod 4 == 0) = true := by simp [hz]
          clear hz
          go_wp2_with fail
          refine (own_sync HA1.out (by have := F1.out.W; omega) (by have := F1.out.sy; omega)).mono ?_
          rintro e w4 ⟨rfl, h4⟩
          have F2 : Hid (Few 16 (2 * (k + 1)) E.sync) := Lib.hid F1.out.sync
          have H4 := Lib.hid h4; clear h4
          go_wp2_with fail
          go_roundw
          case rel => exact ⟨k + 1, _, by omega, by omega, by go_num, F2, H4⟩
          case measure => simp [intOf]; omega
        · have hzB : (xk.tmod 4 == 0) = false := by simpa using hz
          have F2 : Hid (Few 16 (2 * (k + 1)) E) := Lib.hid F1.out.up
          clear hz
          go_wp2_with fail
          go_roundw
          case rel => exact ⟨k + 1, _, by omega, by omega, by go_num, F2, HA1⟩
          case measure => simp [intOf]; omega
      · have hltI : (k : Int) < (os.length : Int) := by omega
        have h60I : ¬ (k : Int) < 60 := by omega

        go_wp2_with (at_builtin; refine wp_freshI _ ko kc keep (HK.out.keep HQ.out.only) HKC.out hkl rfl (.tmp 60) (.tmp 61) rfl rfl rfl ?_; intro bo cap w2 HF2)
        have HX : Hid (Own w w2 (Sep (DiskR p D) (Sep (IntR bo keep) Emp))) := Lib.hid (fresh_own HQ.out HF2.out).swap
        refine (own_crash HX.out bo cap keep (fun F B hJ hd _ _ => IntR.apart hJ hd) HKR.out (by have := HF.out.W; omega)).mono ?_
        rintro e w3 ⟨rfl, h3⟩
        obtain ⟨D1, hD1⟩ : ∃ D1, D1 = D.crash keep := ⟨_, rfl⟩
        rw [← hD1] at h3
        have F1 : Hid (Few 16 (2 * k) D1) := Lib.hid (by rw [hD1]; exact HF.out.crash keep)
        have W1 : Hid (D1.W = []) := Lib.hid (by rw [hD1]; rfl)
        have H3 : Hid (Own w w3 (Sep (DiskR p D1) Emp)) := Lib.hid h3.drop2
        clear h3 HX HF2 HQ hD1 HF
        go_wp2_with (refine wpList_alloc_agg rfl 49 rfl Z 16 HZI.out ?_)
        obtain ⟨ga, hga⟩ : ∃ ga, ga = w3.heap.size := ⟨_, rfl⟩
        have H4 : Hid (Own w (w3.alloc (.cells Z 49)) (Sep (DiskR p D1) (Sep (WasR ga 16 49 D1.N 0) Emp))) := Lib.hid (by rw [hga, HZ.out]; exact (was_new (m := 16) H3.out).swap)
        (try simp only [Act.put, List.setIfInBounds_toArray, List.set_cons_succ, List.set_cons_zero])
        rw [← hga]
        clear H3 hga
        generalize w3.alloc (.cells Z 49) = w4 at *
        go_loopw [11] (fun i wr => ∃ q : Nat, q ≤ 16 ∧ i = .int .i64 q ∧ Hid (Own w wr (Sep (DiskR p D1) (Sep (WasR ga 16 49 D1.N q) Emp)))) (fun i _ => 16 - (intOf i).toNat)
        case atStart => exact ⟨0, by omega, rfl, H4⟩
        case round =>
          clear H4
          obtain ⟨q, hq, rfl, HQ⟩ := hrel
          by_cases hq16 : q < 16
          · have hqI : (q : Int) < 16 := by omega
            have hq0 : (0 : Int) ≤ (q : Int) := by omega
            go_wp2_with fail
            refine (own_read HQ.out q (by rw [F1.out.sz]; exact hq16)).mono ?_
            rintro e w5 ⟨g, rfl, h5⟩
            have H5 := Lib.hid h5.rot
            obtain ⟨FW, hW, _⟩ := h5.snd.snd.fst
            obtain ⟨v0, c0, f0⟩ := hW.cell hq16
            have H6 := Lib.hid (WasR.put H5.out hq16).swap
            clear h5 hW H5 HQ
            go_wp2_with fail
            go_roundw
            case rel => exact ⟨q + 1, by omega, by go_num, H6⟩
            case measure => simp [intOf]; omega
          · obtain rfl : q = 16 := by omega
            have hwr := fun (W : World) (hW : Own w W (Sep (DiskR p D1) (Sep (WasR ga 16 49 D1.N 16) Emp))) => disk_writes (Own.disk hW).choose_spec.choose_spec.choose_spec
            have HWR := Lib.hid (hwr _ HQ.out)
            clear hwr hq16 hq
            go_wp2_with (first | (go_at_call 19; refine HWR.out.mono ?_; rintro e w' ⟨rfl, rfl⟩) | (at_builtin; refine wp_freshI _ lo lc again (HL.out.keep HQ.out.only) HLC.out hll rfl (.tmp 79) (.tmp 80) rfl rfl rfl ?_; intro bo2 cap2 w6 HF3))
            have HX : Hid (Own w w6 (Sep (DiskR p D1) (Sep (IntR bo2 again) (Sep (WasR ga 16 49 D1.N 16) Emp)))) := Lib.hid (fresh_own HQ.out HF3.out).swap
            refine (own_crash HX.out bo2 cap2 again (fun F B hJ hd _ _ => IntR.apart hJ hd) HLR.out (by rw [W1.out]; exact Nat.zero_le _)).mono ?_
            rintro e w7 ⟨rfl, h7⟩
            obtain ⟨D2, hD2⟩ : ∃ D2, D2 = D1.crash again := ⟨_, rfl⟩
            rw [← hD2] at h7
            have hD2n : D2.n = 16 := by rw [hD2]; exact F1.out.sz
            have hD2N : D2.N = D1.N := by rw [hD2]; show backs D1.N _ D1.W = _; rw [W1.out]; rfl
            have hD2W : D2.W = [] := by rw [hD2]; rfl
            have hD2wr : D2.wr = D1.wr := by rw [hD2]; rfl
            have H7 : Hid (Own w w7 (Sep (DiskR p D2) (Sep (WasR ga 16 49 D1.N 16) Emp))) := Lib.hid h7.drop2
            have HD2 := Lib.hid (And.intro hD2n (And.intro hD2N (And.intro hD2W hD2wr)))
            clear h7 HX HF3 HQ hD2 hD2n hD2N hD2W hD2wr HWR
            go_wp2_with fail
            go_loopw [13] (fun i wr => ∃ q : Nat, q ≤ 16 ∧ i = .int .i64 q ∧ Hid (Own w wr (Sep (DiskR p D2) (Sep (WasR ga 16 49 D1.N 16) Emp)))) (fun i _ => 16 - (intOf i).toNat)
            case atStart => exact ⟨0, by omega, rfl, H7⟩
            case round =>
              clear H7
              obtain ⟨q, hq, rfl, HQ⟩ := hrel
              by_cases hq16 : q < 16
              · have hqI : (q : Int) < 16 := by omega
                have hq0 : (0 : Int) ≤ (q : Int) := by omega
                go_wp2_with fail
                refine (own_read HQ.out q (by rw [HD2.out.1]; exact hq16)).mono ?_
                rintro e w8 ⟨g, rfl, h8⟩
                obtain ⟨gn, gk, vw, hDA⟩ := h8.snd.disk
                have hs64 : (sec D1.N q).length = 64 := by rw [← HD2.out.2.1]; exact sec_length hDA.ok.N (by rw [HD2.out.1]; exact hq16)
                have hb1 : SlC w8 (secV g) (sec D1.N q) := by
                  have := row_bytes' (n := 64) (cap := 64) h8.fst.row (by rw [HD2.out.2.1]; exact hs64.symm)
                  rw [HD2.out.2.1] at this
                  exact this
                obtain ⟨FW, hW, _⟩ := h8.snd.snd.fst
                obtain ⟨g2, hc2, hb2⟩ := hW.read hq16 hs64
                have hcv1 := fun n => run_strC (hb1.keep ((Only.refl (fun _ => False) w8).drewN n))
                have hcv2 := fun n => run_strC (hb2.keep ((Only.refl (fun _ => False) w8).drewN n))
                have H8 := Lib.hid h8.snd
                simp only [secV] at hcv1 hcv2 hc2
                generalize (sec D1.N q).toArray = bs at hcv1 hcv2
                clear h8 hDA hs64 hb1 hb2 hW HQ
                go_upto_region 24 with fail
                go_quiet (fail)
                have H9 := Lib.hid (H8.out.drewN nq)
                clear hcv1 hcv2 hc2 H8
                go_wp2_with fail
                all_goals
                  go_roundw
                  case rel => exact ⟨q + 1, by omega, by go_num, H9⟩
                  case measure => simp [intOf]; omega
              · obtain rfl : q = 16 := by omega
                obtain ⟨gn, gk, vw, hDA⟩ := HQ.out.disk
                have hw1 := disk_writes hDA
                rw [HD2.out.2.2.2] at hw1
                have hw2 := disk_waiting hDA
                rw [HD2.out.2.2.1] at hw2
                have HW1 := Lib.hid hw1
                have HW2 := Lib.hid hw2
                have HQO := Lib.hid HQ.out.only
                clear hDA hw1 hw2 hq16 hq HQ
                go_wp2_with (first | (go_at_call 19; refine HW1.out.mono ?_; rintro e w' ⟨rfl, rfl⟩) | (go_at_call 18; refine HW2.out.mono ?_; rintro e w' ⟨rfl, rfl⟩))
                go_ret
                exact ⟨rfl, HQO.out⟩
    · have hltI : ¬ (k : Int) < (os.length : Int) := by omega

      go_wp2_with (at_builtin; refine wp_freshI _ ko kc keep (HK.out.keep HQ.out.only) HKC.out hkl rfl (.tmp 60) (.tmp 61) rfl rfl rfl ?_; intro bo cap w2 HF2)
      have HX : Hid (Own w w2 (Sep (DiskR p D) (Sep (IntR bo keep) Emp))) := Lib.hid (fresh_own HQ.out HF2.out).swap
      refine (own_crash HX.out bo cap keep (fun F B hJ hd _ _ => IntR.apart hJ hd) HKR.out (by have := HF.out.W; omega)).mono ?_
      rintro e w3 ⟨rfl, h3⟩
      obtain ⟨D1, hD1⟩ : ∃ D1, D1 = D.crash keep := ⟨_, rfl⟩
      rw [← hD1] at h3
      have F1 : Hid (Few 16 (2 * k) D1) := Lib.hid (by rw [hD1]; exact HF.out.crash keep)
      have W1 : Hid (D1.W = []) := Lib.hid (by rw [hD1]; rfl)
      have H3 : Hid (Own w w3 (Sep (DiskR p D1) Emp)) := Lib.hid h3.drop2
      clear h3 HX HF2 HQ hD1 HF
      go_wp2_with (refine wpList_alloc_agg rfl 49 rfl Z 16 HZI.out ?_)
      obtain ⟨ga, hga⟩ : ∃ ga, ga = w3.heap.size := ⟨_, rfl⟩
      have H4 : Hid (Own w (w3.alloc (.cells Z 49)) (Sep (DiskR p D1) (Sep (WasR ga 16 49 D1.N 0) Emp))) := Lib.hid (by rw [hga, HZ.out]; exact (was_new (m := 16) H3.out).swap)
      (try simp only [Act.put, List.setIfInBounds_toArray, List.set_cons_succ, List.set_cons_zero])
      rw [← hga]
      clear H3 hga
      generalize w3.alloc (.cells Z 49) = w4 at *
      go_loopw [11] (fun i wr => ∃ q : Nat, q ≤ 16 ∧ i = .int .i64 q ∧ Hid (Own w wr (Sep (DiskR p D1) (Sep (WasR ga 16 49 D1.N q) Emp)))) (fun i _ => 16 - (intOf i).toNat)
      case atStart => exact ⟨0, by omega, rfl, H4⟩
      case round =>
        clear H4
        obtain ⟨q, hq, rfl, HQ⟩ := hrel
        by_cases hq16 : q < 16
        · have hqI : (q : Int) < 16 := by omega
          have hq0 : (0 : Int) ≤ (q : Int) := by omega
          go_wp2_with fail
          refine (own_read HQ.out q (by rw [F1.out.sz]; exact hq16)).mono ?_
          rintro e w5 ⟨g, rfl, h5⟩
          have H5 := Lib.hid h5.rot
          obtain ⟨FW, hW, _⟩ := h5.snd.snd.fst
          obtain ⟨v0, c0, f0⟩ := hW.cell hq16
          have H6 := Lib.hid (WasR.put H5.out hq16).swap
          clear h5 hW H5 HQ
          go_wp2_with fail
          go_roundw
          case rel => exact ⟨q + 1, by omega, by go_num, H6⟩
          case measure => simp [intOf]; omega
        · obtain rfl : q = 16 := by omega
          have hwr := fun (W : World) (hW : Own w W (Sep (DiskR p D1) (Sep (WasR ga 16 49 D1.N 16) Emp))) => disk_writes (Own.disk hW).choose_spec.choose_spec.choose_spec
          have HWR := Lib.hid (hwr _ HQ.out)
          clear hwr hq16 hq
          go_wp2_with (first | (go_at_call 19; refine HWR.out.mono ?_; rintro e w' ⟨rfl, rfl⟩) | (at_builtin; refine wp_freshI _ lo lc again (HL.out.keep HQ.out.only) HLC.out hll rfl (.tmp 79) (.tmp 80) rfl rfl rfl ?_; intro bo2 cap2 w6 HF3))
          have HX : Hid (Own w w6 (Sep (DiskR p D1) (Sep (IntR bo2 again) (Sep (WasR ga 16 49 D1.N 16) Emp)))) := Lib.hid (fresh_own HQ.out HF3.out).swap
          refine (own_crash HX.out bo2 cap2 again (fun F B hJ hd _ _ => IntR.apart hJ hd) HLR.out (by rw [W1.out]; exact Nat.zero_le _)).mono ?_
          rintro e w7 ⟨rfl, h7⟩
          obtain ⟨D2, hD2⟩ : ∃ D2, D2 = D1.crash again := ⟨_, rfl⟩
          rw [← hD2] at h7
          have hD2n : D2.n = 16 := by rw [hD2]; exact F1.out.sz
          have hD2N : D2.N = D1.N := by rw [hD2]; show backs D1.N _ D1.W = _; rw [W1.out]; rfl
          have hD2W : D2.W = [] := by rw [hD2]; rfl
          have hD2wr : D2.wr = D1.wr := by rw [hD2]; rfl
          have H7 : Hid (Own w w7 (Sep (DiskR p D2) (Sep (WasR ga 16 49 D1.N 16) Emp))) := Lib.hid h7.drop2
          have HD2 := Lib.hid (And.intro hD2n (And.intro hD2N (And.intro hD2W hD2wr)))
          clear h7 HX HF3 HQ hD2 hD2n hD2N hD2W hD2wr HWR
          go_wp2_with fail
          go_loopw [13] (fun i wr => ∃ q : Nat, q ≤ 16 ∧ i = .int .i64 q ∧ Hid (Own w wr (Sep (DiskR p D2) (Sep (WasR ga 16 49 D1.N 16) Emp)))) (fun i _ => 16 - (intOf i).toNat)
          case atStart => exact ⟨0, by omega, rfl, H7⟩
          case round =>
            clear H7
            obtain ⟨q, hq, rfl, HQ⟩ := hrel
            by_cases hq16 : q < 16
            · have hqI : (q : Int) < 16 := by omega
              have hq0 : (0 : Int) ≤ (q : Int) := by omega
              go_wp2_with fail
              refine (own_read HQ.out q (by rw [HD2.out.1]; exact hq16)).mono ?_
              rintro e w8 ⟨g, rfl, h8⟩
              obtain ⟨gn, gk, vw, hDA⟩ := h8.snd.disk
              have hs64 : (sec D1.N q).length = 64 := by rw [← HD2.out.2.1]; exact sec_length hDA.ok.N (by rw [HD2.out.1]; exact hq16)
              have hb1 : SlC w8 (secV g) (sec D1.N q) := by
                have := row_bytes' (n := 64) (cap := 64) h8.fst.row (by rw [HD2.out.2.1]; exact hs64.symm)
                rw [HD2.out.2.1] at this
                exact this
              obtain ⟨FW, hW, _⟩ := h8.snd.snd.fst
              obtain ⟨g2, hc2, hb2⟩ := hW.read hq16 hs64
              have hcv1 := fun n => run_strC (hb1.keep ((Only.refl (fun _ => False) w8).drewN n))
              have hcv2 := fun n => run_strC (hb2.keep ((Only.refl (fun _ => False) w8).drewN n))
              have H8 := Lib.hid h8.snd
              simp only [secV] at hcv1 hcv2 hc2
              generalize (sec D1.N q).toArray = bs at hcv1 hcv2
              clear h8 hDA hs64 hb1 hb2 hW HQ
              go_upto_region 24 with fail
              go_quiet (fail)
              have H9 := Lib.hid (H8.out.drewN nq)
              clear hcv1 hcv2 hc2 H8
              go_wp2_with fail
              all_goals
                go_roundw
                case rel => exact ⟨q + 1, by omega, by go_num, H9⟩
                case measure => simp [intOf]; omega
            · obtain rfl : q = 16 := by omega
              obtain ⟨gn, gk, vw, hDA⟩ := HQ.out.disk
              have hw1 := disk_writes hDA
              rw [HD2.out.2.2.2] at hw1
              have hw2 := disk_waiting hDA
              rw [HD2.out.2.2.1] at hw2
              have HW1 := Lib.hid hw1
              have HW2 := Lib.hid hw2
              have HQO := Lib.hid HQ.out.only
              clear hDA hw1 hw2 hq16 hq HQ
              go_wp2_with (first | (go_at_call 19; refine HW1.out.mono ?_; rintro e w' ⟨rfl, rfl⟩) | (go_at_call 18; refine HW2.out.mono ?_; rintro e w' ⟨rfl, rfl⟩))
              go_ret
              exact ⟨rfl, HQO.out⟩

end Go.Proofs.Ytioabebbddlokaa
