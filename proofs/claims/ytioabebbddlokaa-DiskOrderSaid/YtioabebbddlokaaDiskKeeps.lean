/-
  The walk of the statement DiskKeeps.
-/
import Derived.Test.YtioabebbddlokaaDiskCoh
import Derived.Deep.DeepCutAuto
import Derived.Deep.CutBlock
namespace Go.Proofs.Ytioabebbddlokaa
open Go Go.RowKit
set_option linter.unusedVariables false

set_option maxHeartbeats 400000 in
theorem rawBytes (a b : Value) (xs : List UInt8) (w : World) (ha : SlC w a xs) (hb : SlC w b xs) :
    Calls Try.prog 26 #[a, b] w fun e w' => e = .returned (.bool true) ∧ w = w' := by
  have hca := run_strC ha
  have hcb := run_strC hb
  obtain ⟨ao, ac, rfl⟩ := ha.shape
  obtain ⟨bo, bc, rfl⟩ := hb.shape
  clear ha hb
  go_enter Try.func26, Try.ntmps26
  go_wp2
  go_ret
  exact ⟨rfl, rfl⟩

/-- The power is there, and there is no fuse. -/
structure Up (k : Nat) (D : DS) : Prop where
  few : Few 16 k D
  coh : Coh D
  down : D.down = false
  fuse : D.fuse = -1
theorem Up.last {k : Nat} {D : DS} (h : Up k D) : D.lastB = true ∧ D.last = D := DS.last_free h.down (by rw [h.fuse]; decide)
theorem Up.write {k : Nat} {D : DS} (h : Up k D) (i : Int) (b : List UInt8) : Up (k + 1) (D.write i b) := by
  refine ⟨h.few.write i b, h.coh.write i b, ?_, ?_⟩
  · unfold DS.write
    split
    · exact h.down
    · rw [h.last.1, h.last.2]; exact h.down
  · unfold DS.write
    split
    · exact h.fuse
    · rw [h.last.1, h.last.2]; exact h.fuse
/-- A write of such a disk: wrong, and nothing is changed; or right, and it waits. -/
theorem Up.waits {k : Nat} {D : DS} (h : Up k D) (i : Int) (b : List UInt8) : (D.write i b).K = D.K ∧ ((D.wrE i b = 0 ∧ (D.write i b).W.length = D.W.length + 1) ∨ (D.wrE i b ≠ 0 ∧ D.write i b = D)) := by
  unfold DS.write DS.wrE
  rw [h.last.1, h.last.2]
  split
  · exact ⟨rfl, .inr ⟨by decide, rfl⟩⟩
  · exact ⟨rfl, .inl ⟨rfl, by simp [DS.lay]⟩⟩
theorem Up.sync {k : Nat} {D : DS} (h : Up k D) : Up (k + 1) D.sync ∧ syE D = 0 ∧ D.sync.W = [] ∧ D.sync.N = D.sync.K := by
  have e : D.sync = { D with K := lays D.K D.W, W := [], sy := D.sy + 1 } := by simp [DS.sync, h.down]
  refine ⟨⟨h.few.sync, h.coh.sync, by rw [e]; exact h.down, by rw [e]; exact h.fuse⟩, by simp [syE, h.down], by rw [e], ?_⟩
  rw [e]
  exact h.coh

def ones (n : Nat) : List Int := List.replicate n 1
theorem chosen_ones (W : List (Nat × List UInt8)) : chosen W (ones W.length) = W := by
  unfold chosen ones
  induction W with
  | nil => rfl
  | cons x W ih =>
    rw [List.length_cons, List.replicate_succ, List.zip_cons_cons, List.filterMap_cons]
    have e : oddZ 1 = true := by decide
    simp only [e, if_true]
    rw [ih]

/-- The list of ones, in a row of its own. -/
def AllR (v : Value) (n : Nat) : Res := fun w F => w.ownsRow 0 3 1 v n (i64s (ones n)) ∧ ∀ k, F k ↔ v.ownBlock = some k
instance {v : Value} {n : Nat} : Stab (AllR v n) where
  lt := fun h k hk => own_lt h.1 ((h.2 k).1 hk)
  keep := fun h hk => ⟨own_keepAt h.1 (fun k e => hk k ((h.2 k).2 e)), h.2⟩
theorem all_new {w0 w : World} {J : Res} (h : Own w0 w J) : Own w0 w (Sep (AllR (.slice none 0 0) 0) J) := by
  obtain ⟨F, h1, h2, h3⟩ := h
  exact ⟨F, ⟨fun _ => False, F, ⟨World.ownsRow_nil _ _ _ _, fun k => by simp [Value.ownBlock]⟩, h1, fun _ h => h.elim, fun k => by simp⟩, h2, h3⟩
theorem all_grow {w0 w w1 : World} {v v' : Value} {n g : Nat} {J : Res} [Stab J] {o : Obj} (h : Own w0 w (Sep (AllR v n) J)) (hown : w1.ownsRow 0 3 1 v' (n + 1) (i64s (ones (n + 1)))) (hg : (w.alloc o).grownBy w1 v.ownBlock)
    (hv : v'.ownBlock = some g) (hat : v.ownBlock = some g ∨ w.heap.size ≤ g) : Own w0 w1 (Sep (AllR v' (n + 1)) J) := by
  obtain ⟨F, ⟨A, B, hA, hB, hd, hF⟩, h2, h3⟩ := h
  have ho : Only (fun k => v.ownBlock = some k) w w1 := (((Only.refl (fun _ => False) w).alloc o).mono (T := fun k => v.ownBlock = some k) (fun _ _ h => h.elim)).grown hg (fun k _ e => e)
  refine ⟨fun k => k = g ∨ B k, ⟨fun k => k = g, B, ⟨hown, fun k => by rw [hv]; simp [eq_comm]⟩, Stab.keep hB (fun k hk => ho.block k (Stab.lt hB k hk) (fun e => hd k ((hA.2 k).2 e) hk)), ?_, fun _ => Iff.rfl⟩, ?_, h3.trans ho (fun k hk e => ?_)⟩
  · rintro k rfl hk
    rcases hat with e | e
    · exact hd _ ((hA.2 _).2 e) hk
    · have := Stab.lt hB _ hk; omega
  · rintro k (rfl | hk)
    · rcases hat with e | e
      · exact h2 _ ((hF _).2 (.inl ((hA.2 _).2 e)))
      · have := h3.size; omega
    · exact h2 k ((hF k).2 (.inr hk))
  · have := h2 k ((hF k).2 (.inl ((hA.2 k).2 e))); omega
theorem AllR.ints {w : World} {v : Value} {n : Nat} {J : Res} {F B : Nat → Prop} (hJ : Sep (AllR v n) J w B) (hd : ∀ k, F k → ¬ B k) : ∃ ao c, v = .slice ao n c ∧ SlIO w F ao (ones n) := by
  obtain ⟨A, C, hA, hC, hac, hB⟩ := hJ
  obtain ⟨ao, c, rfl⟩ := own_shape hA.1
  refine ⟨ao, c, rfl, fun j hj => ?_, fun a e _ hk => hd _ hk ((hB _).2 (.inl ((hA.2 _).2 (by rw [e]; rfl))))⟩
  rcases hA.1.2 with ⟨hv, h0⟩ | ⟨g, cap, cur, hv, _⟩
  · subst h0; simp [ones] at hj
  · simp at hv
    obtain ⟨rfl, _⟩ := hv
    refine ⟨g, 0, rfl, ?_⟩
    have hj' : j < n := by simpa [ones] using hj
    rw [Nat.zero_add, hA.1.cellAt j (by simpa using hj')]
    simp [i64s, ones, hj']
theorem was_any {ga m : Nat} {t : TypeId} {N N' : List UInt8} {w : World} {F : Nat → Prop} (h : WasR ga m t N 0 w F) : WasR ga m t N' 0 w F := by
  obtain ⟨gs, h1, h2, h3, h4, h5⟩ := h
  have : gs = [] := List.eq_nil_of_length_eq_zero h1
  subst this
  exact ⟨[], rfl, h2, h3, fun j hj => by simp at hj, h5⟩

theorem Own.rot2 {w0 w : World} {I J K L M : Res} (h : Own w0 w (Sep I (Sep J (Sep K (Sep L M))))) : Own w0 w (Sep I (Sep J (Sep L (Sep K M)))) :=
  h.imp fun _ h => h.imp (fun _ h => h) (fun _ h => h.imp (fun _ h => h) (fun _ h => Sep.swap h))
theorem Own.rot3 {w0 w : World} {I J K L M N : Res} (h : Own w0 w (Sep I (Sep J (Sep K (Sep L (Sep M N)))))) : Own w0 w (Sep I (Sep J (Sep K (Sep M (Sep L N))))) :=
  h.imp fun _ h => h.imp (fun _ h => h) (fun _ h => h.imp (fun _ h => h) (fun _ h => h.imp (fun _ h => h) (fun _ h => Sep.swap h)))
theorem ones_length (n : Nat) : (ones n).length = n := by simp [ones]
theorem ones_succ (n : Nat) : i64s (ones n) ++ [Value.int .i64 1] = i64s (ones (n + 1)) := by
  rw [ones, ones, List.replicate_succ', i64s, i64s, List.map_append]
  rfl

set_option maxRecDepth 100000 in
set_option maxHeartbeats 4000000 in
theorem keeps_walk (ao : Option Addr) (c : Nat) (os : List OpT) (bo : Option Addr) (bc : Nat) (bs : List OpT) (w : World) (ho : SlOp w ao os) (hb : SlOp w bo bs) :
    Calls Try.prog 4 #[.slice ao os.length c, .slice bo bs.length bc] w fun e w' => e = .returned (.bool true) ∧ Quiet w w' := by
  obtain ⟨Z, hZ⟩ : ∃ Z : Array Value, Z = (List.replicate 16 (Value.slice none 0 0)).toArray := ⟨_, rfl⟩
  have HZ := Lib.hid hZ
  have HZI : Hid ((Try.prog.info? 49).map (fun i => (i.zero, i.size)) = some (some (.agg Z), 16)) := Lib.hid (by rw [hZ]; exact Try.infoA16)
  clear hZ
  have HO := Lib.hid ho
  have HB := Lib.hid hb
  clear ho hb
  go_enter Try.func4, Try.ntmps4
  go_wp2_with fail
  refine (awake_any w).mono ?_
  rintro e w0 ⟨rfl, hq⟩
  have H0 := Lib.hid ((Own.start w).quiet hq); clear hq
  go_wp2_with fail
  refine (own_new H0.out 16 (by decide) (by decide)).mono ?_
  rintro e w1 ⟨p, rfl, h1⟩
  have H1 := Lib.hid h1; clear h1 H0
  go_wp2_with fail
  refine (own_new H1.out 16 (by decide) (by decide)).mono ?_
  rintro e w2 ⟨q, rfl, h2⟩
  have H2 : Hid (Own w w2 (Sep (DiskR p (DS.new 16)) (Sep (DiskR q (DS.new 16)) Emp))) := Lib.hid h2.swap
  have HU0 : Hid (Up 0 (DS.new 16)) := Lib.hid ⟨⟨rfl, Nat.le_refl _, Nat.le_refl _, Nat.le_refl _⟩, Coh.new 16, rfl, rfl⟩
  clear h2 H1
  go_upto_block 0 with fail
  go_cut [9] (fun s9 wx => ∃ D, Hid (Up 100 D) ∧ Hid (Own w wx (Sep (DiskR p D) (Sep (DiskR q D) Emp))))
  case first =>
    go_wp2_with fail
    go_loopw [9] (fun i wr => ∃ (k : Nat) (D : DS), k ≤ os.length ∧ k ≤ 100 ∧ i = .int .i64 k ∧ Hid (Up k D) ∧ Hid (Own w wr (Sep (DiskR p D) (Sep (DiskR q D) Emp)))) (fun i _ => os.length - (intOf i).toNat)
    case atStart => exact ⟨0, _, Nat.zero_le _, by omega, rfl, HU0, H2⟩
    case round =>
      obtain ⟨k, D, hk, hk1, rfl, HF, HQ⟩ := hrel
      clear HU0 H2
      by_cases hlt : k < os.length
      · by_cases h100 : k < 100
        · have hltI : (k : Int) < (os.length : Int) := by omega
          have h100I : (k : Int) < 100 := by omega
          have hk0 : (0 : Int) ≤ (k : Int) := by omega
          obtain ⟨g, off, rfl, hx⟩ := HO.out k hlt
          obtain ⟨x, hxe⟩ : ∃ x, x = os.getD k default := ⟨_, rfl⟩
          rw [← hxe] at hx
          clear hxe
          obtain ⟨xk, xi, xb, xl⟩ := x
          obtain ⟨vb, hvb, hSb⟩ := hx.b
          obtain ⟨vo, vc, rfl⟩ := hSb.shape
          have HI := Lib.hid hx.i
          have HVB := Lib.hid hvb
          have HSB := Lib.hid hSb
          have d1 : wr.cell? ⟨g, off + k * 4 + 1, none⟩ = some (.int .i64 xi) := HQ.out.only.cellq hx.i
          have d2 : wr.cell? ⟨g, off + k * 4 + 2, none⟩ = some (.slice vo xb.length vc) := HQ.out.only.cellq hvb
          clear hx hvb hSb
          have HQd := Lib.hid HQ.out.drew
          have hb1 := HF.out.few.W
          have hb2 := HF.out.few.wr
          have hcall1 := fun (W : World) (hW : Own w W (Sep (DiskR p D) (Sep (DiskR q D) Emp))) => own_write hW xi (.slice vo xb.length vc) xb (fun F B _ _ h0 _ => HSB.out.old hW.only h0) (by omega) (by omega)
          have hcall2 := fun (W : World) (hW : Own w W (Sep (DiskR q D) (Sep (DiskR p (D.write xi xb)) Emp))) => own_write hW xi (.slice vo xb.length vc) xb (fun F B _ _ h0 _ => HSB.out.old hW.only h0) (by omega) (by omega)
          have HCALL1 := Lib.hid hcall1
          have HCALL2 := Lib.hid hcall2
          clear hcall1 hcall2 hb1 hb2
          go_upto_region 10 with fail
          go_region_held3 (fun w' => w'.cell? ⟨g, off + k * 4 + 1, none⟩ = some (.int .i64 xi) ∧ w'.cell? ⟨g, off + k * 4 + 2, none⟩ = some (.slice vo xb.length vc))
            (first
              | exact ⟨HA2.out.only.cellq HI.out, HA2.out.only.cellq HVB.out⟩
              | exact ⟨HA1.out.only.cellq HI.out, HA1.out.only.cellq HVB.out⟩
              | exact ⟨HQd.out.only.cellq HI.out, HQd.out.only.cellq HVB.out⟩)
            (first
              | (go_at_call 15; (with_reducible refine (HCALL1.out _ HQd.out).mono ?_); rintro e w3 ⟨rfl, ha⟩; have HA1 := Lib.hid ha.swap; clear ha)
              | (go_at_call 15; (with_reducible refine (HCALL2.out _ HA1.out).mono ?_); rintro e w4 ⟨rfl, ha⟩; have HA2 := Lib.hid ha.swap; clear ha))
          have F1 : Hid (Up (k + 1) (D.write xi xb)) := Lib.hid (HF.out.write xi xb)
          obtain ⟨E, hE⟩ : ∃ E, E = D.write xi xb := ⟨_, rfl⟩
          rw [← hE] at HA2 F1
          clear hE d1 d2 HQd HCALL1 HCALL2 HQ HF HA1
          go_wp2_with fail
          all_goals
            go_roundw
            case rel => exact ⟨k + 1, _, by omega, by omega, by go_num, F1, HA2⟩
            case measure => simp [intOf]; omega
        · have hltI : (k : Int) < (os.length : Int) := by omega
          have h100I : ¬ (k : Int) < 100 := by omega
          go_wp2_with fail
          go_meet
          exact ⟨D, Lib.hid ⟨⟨HF.out.few.sz, by have := HF.out.few.W; omega, by have := HF.out.few.wr; omega, by have := HF.out.few.sy; omega⟩, HF.out.coh, HF.out.down, HF.out.fuse⟩, HQ⟩
      · have hltI : ¬ (k : Int) < (os.length : Int) := by omega
        go_wp2_with fail
        go_meet
        exact ⟨D, Lib.hid ⟨⟨HF.out.few.sz, by have := HF.out.few.W; omega, by have := HF.out.few.wr; omega, by have := HF.out.few.sy; omega⟩, HF.out.coh, HF.out.down, HF.out.fuse⟩, HQ⟩
  case rest =>
    obtain ⟨D, HU, HQ⟩ := hcut
    clear HU0 H2
    obtain ⟨hu1, hu2, hu3, hu4⟩ := HU.out.sync
    have b1 := HU.out.few.W
    have b2 := HU.out.few.sy
    have hs1 := own_sync HQ.out (by omega) (by omega)
    have hs2 := fun (W : World) (hW : Own w W (Sep (DiskR q D) (Sep (DiskR p D.sync) Emp))) => own_sync hW (by omega) (by omega)
    rw [hu2] at hs1 hs2
    obtain ⟨E, hE⟩ : ∃ E, E = D.sync := ⟨_, rfl⟩
    rw [← hE] at hu1 hu3 hu4 hs1 hs2
    have HE1 := Lib.hid hu1
    have HE3 := Lib.hid hu3
    have HE4 := Lib.hid hu4
    have HS1 := Lib.hid hs1
    have HS2 := Lib.hid hs2
    clear hE hu1 hu2 hu3 hu4 hs1 hs2 b1 b2 HQ HU
    go_wp2_with fail
    refine HS1.out.mono ?_
    rintro e w3 ⟨rfl, h3⟩
    have H3 := Lib.hid h3.swap; clear h3 HS1
    go_wp2_with fail
    refine (HS2.out _ H3.out).mono ?_
    rintro e w4 ⟨rfl, h4⟩
    have H4 := Lib.hid h4.swap; clear h4 HS2 H3
    go_upto_region 15 with (refine wpList_alloc_agg rfl 49 rfl Z 16 HZI.out ?_)
    (try simp only [Act.put, List.setIfInBounds_toArray, List.set_cons_succ, List.set_cons_zero])
    obtain ⟨ga, hga⟩ : ∃ ga, ga = w4.heap.size := ⟨_, rfl⟩
    obtain ⟨gb, hgb⟩ : ∃ gb, gb = (w4.alloc (.cells Z 49)).heap.size := ⟨_, rfl⟩
    have H5 : Own w (w4.alloc (.cells Z 49)) (Sep (WasR ga 16 49 E.N 0) (Sep (DiskR p E) (Sep (DiskR q E) Emp))) := by rw [hga, HZ.out]; exact was_new (m := 16) H4.out
    have H6 : Own w ((w4.alloc (.cells Z 49)).alloc (.cells Z 49)) (Sep (WasR gb 16 49 [] 0) (Sep (WasR ga 16 49 E.N 0) (Sep (DiskR p E) (Sep (DiskR q E) Emp)))) := by
      rw [hgb]
      have := was_new (m := 16) (t := 49) (N := []) H5
      rw [← HZ.out] at this
      exact this
    rw [← hgb, ← hga]
    have H7 : Hid (Own w ((w4.alloc (.cells Z 49)).alloc (.cells Z 49)) (Sep (DiskR p E) (Sep (WasR ga 16 49 E.N 0) (Sep (DiskR q E) (Sep (WasR gb 16 49 [] 0) Emp))))) := Lib.hid H6.swap.rot.swap.rot2
    clear H5 H6 H4 hga hgb
    generalize (w4.alloc (.cells Z 49)).alloc (.cells Z 49) = w5 at *
    go_wp2_with fail
    go_loopw [12] (fun i wr => ∃ k : Nat, k ≤ 16 ∧ i = .int .i64 k ∧ Hid (Own w wr (Sep (DiskR p E) (Sep (WasR ga 16 49 E.N k) (Sep (DiskR q E) (Sep (WasR gb 16 49 [] 0) Emp)))))) (fun i _ => 16 - (intOf i).toNat)
    case atStart => exact ⟨0, by omega, rfl, H7⟩
    case round =>
      clear H7
      obtain ⟨k, hk, rfl, HQ⟩ := hrel
      by_cases hk16 : k < 16
      · have hkI : (k : Int) < 16 := by omega
        have hk0 : (0 : Int) ≤ (k : Int) := by omega
        go_wp2_with fail
        refine (own_read HQ.out k (by rw [HE1.out.few.sz]; exact hk16)).mono ?_
        rintro e w6 ⟨g, rfl, h6⟩
        have H6 := Lib.hid h6.rot
        obtain ⟨FW, hW, _⟩ := h6.snd.snd.fst
        obtain ⟨v0, c0, f0⟩ := hW.cell hk16
        have H8 := Lib.hid (WasR.put H6.out hk16).swap
        clear h6 hW H6 HQ
        go_wp2_with fail
        go_roundw
        case rel => exact ⟨k + 1, by omega, by go_num, H8⟩
        case measure => simp [intOf]; omega
      · obtain rfl : k = 16 := by omega
        have H9 : Hid (Own w wr (Sep (DiskR p E) (Sep (DiskR q E) (Sep (AllR (.slice none 0 0) 0) (Sep (WasR ga 16 49 E.N 16) (Sep (WasR gb 16 49 [] 0) Emp)))))) := Lib.hid (all_new HQ.out.rot).swap.rot
        clear HQ hk hk16
        rw [show ((16 : Nat) : Int) = (16 : Int) from rfl]
        go_upto_block 4 with fail
        go_cut [13] (fun s13 wx => ∃ (n : Nat) (D : DS) (lo : Option Addr) (lc : Nat), s13 = .slice lo n lc ∧ Hid (Up 201 D ∧ D.W.length = n ∧ D.K = E.K) ∧ Hid (Own w wx (Sep (DiskR p D) (Sep (DiskR q D) (Sep (AllR (.slice lo n lc) n) (Sep (WasR ga 16 49 E.N 16) (Sep (WasR gb 16 49 [] 0) Emp)))))))
        case first =>
          go_wp2_with fail
          go_loopw [13, 14] (fun av i wr => ∃ (k n : Nat) (D : DS) (lo : Option Addr) (lc : Nat), k ≤ bs.length ∧ k ≤ 100 ∧ n ≤ k ∧ av = .slice lo n lc ∧ i = .int .i64 k ∧ Hid (Up (101 + k) D ∧ D.W.length = n ∧ D.K = E.K) ∧
            Hid (Own w wr (Sep (DiskR p D) (Sep (DiskR q D) (Sep (AllR (.slice lo n lc) n) (Sep (WasR ga 16 49 E.N 16) (Sep (WasR gb 16 49 [] 0) Emp))))))) (fun _ i _ => bs.length - (intOf i).toNat)
          case atStart => exact ⟨0, 0, E, none, 0, Nat.zero_le _, by omega, Nat.le_refl _, rfl, rfl, Lib.hid ⟨HE1.out, by rw [HE3.out]; rfl, rfl⟩, H9⟩
          case round =>
            clear H9
            obtain ⟨k, n, D, lo, lc, hk, hk1, hnk, rfl, rfl, HF, HQ⟩ := hrel
            by_cases hlt : k < bs.length
            · by_cases h100 : k < 100
              · have hltI : (k : Int) < (bs.length : Int) := by omega
                have h100I : (k : Int) < 100 := by omega
                have hk0 : (0 : Int) ≤ (k : Int) := by omega
                obtain ⟨g, off, rfl, hx⟩ := HB.out k hlt
                obtain ⟨x, hxe⟩ : ∃ x, x = bs.getD k default := ⟨_, rfl⟩
                rw [← hxe] at hx
                clear hxe
                obtain ⟨xk, xi, xb, xl⟩ := x
                obtain ⟨vb, hvb, hSb⟩ := hx.b
                obtain ⟨vo, vc, rfl⟩ := hSb.shape
                have HI := Lib.hid hx.i
                have HVB := Lib.hid hvb
                have HSB := Lib.hid hSb
                have d1 : wr.cell? ⟨g, off + k * 4 + 1, none⟩ = some (.int .i64 xi) := HQ.out.only.cellq hx.i
                have d2 : wr.cell? ⟨g, off + k * 4 + 2, none⟩ = some (.slice vo xb.length vc) := HQ.out.only.cellq hvb
                clear hx hvb hSb
                have HQd := Lib.hid HQ.out.drew
                have hb1 := HF.out.1.few.W
                have hb2 := HF.out.1.few.wr
                have hcall1 := fun (W : World) (hW : Own w W (Sep (DiskR p D) (Sep (DiskR q D) (Sep (AllR (.slice lo n lc) n) (Sep (WasR ga 16 49 E.N 16) (Sep (WasR gb 16 49 [] 0) Emp)))))) => own_write hW xi (.slice vo xb.length vc) xb (fun F B _ _ h0 _ => HSB.out.old hW.only h0) (by omega) (by omega)
                have hcall2 := fun (W : World) (hW : Own w W (Sep (DiskR q D) (Sep (DiskR p (D.write xi xb)) (Sep (AllR (.slice lo n lc) n) (Sep (WasR ga 16 49 E.N 16) (Sep (WasR gb 16 49 [] 0) Emp)))))) => own_write hW xi (.slice vo xb.length vc) xb (fun F B _ _ h0 _ => HSB.out.old hW.only h0) (by omega) (by omega)
                have HCALL1 := Lib.hid hcall1
                have HCALL2 := Lib.hid hcall2
                clear hcall1 hcall2 hb1 hb2
                go_upto_region 23 with fail
                go_region_held3 (fun w' => w'.cell? ⟨g, off + k * 4 + 1, none⟩ = some (.int .i64 xi) ∧ w'.cell? ⟨g, off + k * 4 + 2, none⟩ = some (.slice vo xb.length vc))
                  (first
                    | exact ⟨HA1.out.only.cellq HI.out, HA1.out.only.cellq HVB.out⟩
                    | exact ⟨HQd.out.only.cellq HI.out, HQd.out.only.cellq HVB.out⟩)
                  (first
                    | (go_at_call 15; (with_reducible refine (HCALL1.out _ HQd.out).mono ?_); rintro e w3 ⟨rfl, ha⟩; have HA1 := Lib.hid ha.swap; clear ha))
                have d1' : w3.cell? ⟨g, off + k * 4 + 1, none⟩ = some (.int .i64 xi) := HA1.out.only.cellq HI.out
                have d2' : w3.cell? ⟨g, off + k * 4 + 2, none⟩ = some (.slice vo xb.length vc) := HA1.out.only.cellq HVB.out
                have HQe := Lib.hid HA1.out.drew
                clear d1 d2 HQd HCALL1 HQ HA1
                go_upto_region 24 with fail
                go_region_held3 (fun w' => w'.cell? ⟨g, off + k * 4 + 1, none⟩ = some (.int .i64 xi) ∧ w'.cell? ⟨g, off + k * 4 + 2, none⟩ = some (.slice vo xb.length vc))
                  (first
                    | exact ⟨HA2.out.only.cellq HI.out, HA2.out.only.cellq HVB.out⟩
                    | exact ⟨HQe.out.only.cellq HI.out, HQe.out.only.cellq HVB.out⟩)
                  (first
                    | (go_at_call 15; (with_reducible refine (HCALL2.out _ HQe.out).mono ?_); rintro e w5 ⟨rfl, ha⟩; have HA2 := Lib.hid ha.swap; clear ha))
                clear d1' d2' HQe HCALL2
                have hup := HF.out.1.write xi xb
                obtain ⟨hK, hcase⟩ := HF.out.1.waits xi xb
                rcases hcase with ⟨e0, eW⟩ | ⟨ne0, eD⟩
                · rw [show (((D.wrE xi xb : Nat) : Int) == 0) = true by rw [e0]; rfl]
                  obtain ⟨D', hD'⟩ : ∃ D', D' = D.write xi xb := ⟨_, rfl⟩
                  rw [← hD'] at hup hK eW HA2
                  have HF' : Hid (Up (101 + (k + 1)) D' ∧ D'.W.length = n + 1 ∧ D'.K = E.K) := Lib.hid ⟨hup, by rw [eW, HF.out.2.1], by rw [hK, HF.out.2.2]⟩
                  have HA3 := Lib.hid HA2.out.rot.swap
                  obtain ⟨FV, ⟨hown, _⟩, _⟩ := HA3.out.fst
                  have HOWN := Lib.hid hown
                  obtain ⟨i0, hi0, hz0, hz1, hz2⟩ := info_parts Try.infoInt
                  clear e0 eW hup hK hD' hown HF HA2
                  go_wp2_with (at_builtin; refine wpList_append_lies _ rfl (.tmp 135) (.tmp 136) 39 rfl 0 3 i0 (.int .i64 0) 1 8 Try.underlying39 hi0 hz0 hz1 hz2 rfl (by decide) (.slice lo n lc) n (i64s (ones n)) rfl (HOWN.out.alloc _) ⟨w5.heap.size, 0, none⟩ 1 1 [.int .i64 1] rfl rfl (World.news_of_block (heap_alloc_new w5 _)) (by intro u hu; rw [List.mem_singleton.1 hu]; rfl) (by decide) ?c1 ?c2 (Nat.zero_le _) (w5.heap.size + 1) ?c4 ?_)
                  case c1 => unfold maxLen; omega
                  case c2 => omega
                  case c4 => simp
                  intro g2 cap w6 hown6 hgrow hat _
                  rw [ones_succ] at hown6
                  have HA4 := Lib.hid (all_grow HA3.out hown6 hgrow (g := g2) rfl (hat.imp id (fun e => by omega))).swap.rot
                  clear hown6 hgrow hat HA3 HOWN
                  go_wp2_with fail
                  go_roundw
                  case rel => exact ⟨k + 1, n + 1, D', some ⟨g2, 0, none⟩, cap, by omega, by omega, by omega, rfl, by go_num, HF', HA4⟩
                  case measure => simp [intOf]; omega
                · rw [show (((D.wrE xi xb : Nat) : Int) == 0) = false by simpa using ne0]
                  rw [eD] at HA2 hup
                  have HF' : Hid (Up (101 + (k + 1)) D ∧ D.W.length = n ∧ D.K = E.K) := Lib.hid ⟨hup, HF.out.2⟩
                  clear ne0 eD hup hK HF
                  go_wp2_with fail
                  go_roundw
                  case rel => exact ⟨k + 1, n, D, lo, lc, by omega, by omega, by omega, rfl, by go_num, HF', HA2⟩
                  case measure => simp [intOf]; omega
              · have hltI : (k : Int) < (bs.length : Int) := by omega
                have h100I : ¬ (k : Int) < 100 := by omega
                go_wp2_with fail
                go_meet
                exact ⟨n, D, lo, lc, rfl, Lib.hid ⟨⟨⟨HF.out.1.few.sz, by have := HF.out.1.few.W; omega, by have := HF.out.1.few.wr; omega, by have := HF.out.1.few.sy; omega⟩, HF.out.1.coh, HF.out.1.down, HF.out.1.fuse⟩, HF.out.2⟩, HQ⟩
            · have hltI : ¬ (k : Int) < (bs.length : Int) := by omega
              go_wp2_with fail
              go_meet
              exact ⟨n, D, lo, lc, rfl, Lib.hid ⟨⟨⟨HF.out.1.few.sz, by have := HF.out.1.few.W; omega, by have := HF.out.1.few.wr; omega, by have := HF.out.1.few.sy; omega⟩, HF.out.1.coh, HF.out.1.down, HF.out.1.fuse⟩, HF.out.2⟩, HQ⟩
        case rest =>
          obtain ⟨n, D, lo, lc, rfl, HF, HQ⟩ := hcut
          clear H9
          have HQ1 : Hid (Own w _ (Sep (DiskR q D) (Sep (WasR gb 16 49 D.N 0) (Sep (DiskR p D) (Sep (AllR (.slice lo n lc) n) (Sep (WasR ga 16 49 E.N 16) Emp)))))) := Lib.hid (HQ.out.swap.rot3.rot2.rot.imp fun _ h => h.imp (fun _ h => h) (fun _ h => h.imp (fun _ h => was_any h) (fun _ h => h)))
          clear HQ
          go_wp2_with fail
          go_loopw [15] (fun i wr => ∃ k : Nat, k ≤ 16 ∧ i = .int .i64 k ∧ Hid (Own w wr (Sep (DiskR q D) (Sep (WasR gb 16 49 D.N k) (Sep (DiskR p D) (Sep (AllR (.slice lo n lc) n) (Sep (WasR ga 16 49 E.N 16) Emp))))))) (fun i _ => 16 - (intOf i).toNat)
          case atStart => exact ⟨0, by omega, rfl, HQ1⟩
          case round =>
            clear HQ1
            obtain ⟨k, hk, rfl, HQ⟩ := hrel
            by_cases hk16 : k < 16
            · have hkI : (k : Int) < 16 := by omega
              have hk0 : (0 : Int) ≤ (k : Int) := by omega
              go_wp2_with fail
              refine (own_read HQ.out k (by rw [HF.out.1.few.sz]; exact hk16)).mono ?_
              rintro e w6 ⟨g, rfl, h6⟩
              have H6 := Lib.hid h6.rot
              obtain ⟨FW, hW, _⟩ := h6.snd.snd.fst
              obtain ⟨v0, c0, f0⟩ := hW.cell hk16
              have H8 := Lib.hid (WasR.put H6.out hk16).swap
              clear h6 hW H6 HQ
              go_wp2_with fail
              go_roundw
              case rel => exact ⟨k + 1, by omega, by go_num, H8⟩
              case measure => simp [intOf]; omega
            · obtain rfl : k = 16 := by omega
              have H10 : Hid (Own w wr (Sep (DiskR p D) (Sep (DiskR q D) (Sep (WasR gb 16 49 D.N 16) (Sep (AllR (.slice lo n lc) n) (Sep (WasR ga 16 49 E.N 16) Emp)))))) := Lib.hid HQ.out.rot.swap
              obtain ⟨gn, gk, vw, hDA⟩ := H10.out.disk
              have HOK := Lib.hid hDA.ok
              have hwt := disk_waiting hDA
              rw [HF.out.2.1] at hwt
              have HWT := Lib.hid hwt
              have hWl := HF.out.1.few.W
              clear hDA hwt HQ hk hk16
              go_wp2_with (go_at_call 18; refine HWT.out.mono ?_; rintro e w' ⟨rfl, rfl⟩)
              refine (own_crash H10.out none 0 [] (fun _ _ _ _ _ _ => SlIO.nil _ _) (by simp) (by omega)).mono ?_
              rintro e w7 ⟨rfl, h7⟩
              obtain ⟨P, hP⟩ : ∃ P, P = D.crash [] := ⟨_, rfl⟩
              rw [← hP] at h7
              have HP : Hid (P.n = 16 ∧ P.W = [] ∧ P.N = E.N) := Lib.hid (by
                rw [hP]
                exact ⟨HF.out.1.few.sz, rfl, by rw [HF.out.1.coh.crashed HOK.out, chosen_nil, HE4.out]; exact HF.out.2.2⟩)
              have H11 := Lib.hid h7.swap.rot2.rot
              clear h7 hP H10 HWT
              have hcr := own_crash H11.out lo lc (ones n) (fun F B hJ hd _ _ => by
                obtain ⟨ao', c', e, h⟩ := AllR.ints hJ hd
                simp at e
                rw [e.1]
                exact h) (by intro z hz; rw [(List.mem_replicate.1 hz).2]; decide) (by omega)
              rw [ones_length] at hcr
              have HCR := Lib.hid hcr
              clear hcr
              go_wp2_with fail
              refine HCR.out.mono ?_
              rintro e w8 ⟨rfl, h8⟩
              obtain ⟨R, hR⟩ : ∃ R, R = D.crash (ones n) := ⟨_, rfl⟩
              rw [← hR] at h8
              have HR : Hid (R.n = 16 ∧ R.W = [] ∧ R.N = D.N) := Lib.hid (by
                rw [hR]
                refine ⟨HF.out.1.few.sz, rfl, ?_⟩
                rw [HF.out.1.coh.crashed HOK.out, ← HF.out.2.1, chosen_ones]
                exact HF.out.1.coh.symm)
              have H12 : Hid (Own w w8 (Sep (DiskR p P) (Sep (DiskR q R) (Sep (WasR gb 16 49 D.N 16) (Sep (WasR ga 16 49 E.N 16) Emp))))) := Lib.hid h8.drop2.swap
              clear h8 hR H11 HCR
              go_wp2_with fail
              go_loopw [16] (fun i wr => ∃ k : Nat, k ≤ 16 ∧ i = .int .i64 k ∧ Hid (Own w wr (Sep (DiskR p P) (Sep (DiskR q R) (Sep (WasR gb 16 49 D.N 16) (Sep (WasR ga 16 49 E.N 16) Emp)))))) (fun i _ => 16 - (intOf i).toNat)
              case atStart => exact ⟨0, by omega, rfl, H12⟩
              case round =>
                clear H12
                obtain ⟨k, hk, rfl, HQ⟩ := hrel
                by_cases hk16 : k < 16
                · have hkI : (k : Int) < 16 := by omega
                  have hk0 : (0 : Int) ≤ (k : Int) := by omega
                  go_wp2_with fail
                  refine (own_read HQ.out k (by rw [HP.out.1]; exact hk16)).mono ?_
                  rintro e w9 ⟨g1, rfl, h9⟩
                  have H13 := Lib.hid h9.rot.swap
                  clear h9
                  go_wp2_with fail
                  refine (own_read H13.out k (by rw [HR.out.1]; exact hk16)).mono ?_
                  rintro e w10 ⟨g2, rfl, h10⟩
                  obtain ⟨gn, gk, vw, hDA⟩ := h10.snd.disk
                  obtain ⟨gn', gk', vw', hDB⟩ := h10.snd.snd.snd.disk
                  have hsR : (sec D.N k).length = 64 := by rw [← HR.out.2.2]; exact sec_length hDA.ok.N (by rw [HR.out.1]; exact hk16)
                  have hsP : (sec E.N k).length = 64 := by rw [← HP.out.2.2]; exact sec_length hDB.ok.N (by rw [HP.out.1]; exact hk16)
                  have hb2 : SlC w10 (secV g2) (sec D.N k) := by
                    have := row_bytes' (n := 64) (cap := 64) h10.fst.row (by rw [HR.out.2.2]; exact hsR.symm)
                    rw [HR.out.2.2] at this
                    exact this
                  have hb1 : SlC w10 (secV g1) (sec E.N k) := by
                    have := row_bytes' (n := 64) (cap := 64) h10.snd.snd.fst.row (by rw [HP.out.2.2]; exact hsP.symm)
                    rw [HP.out.2.2] at this
                    exact this
                  obtain ⟨FA, hWB, _⟩ := h10.snd.snd.snd.snd.fst
                  obtain ⟨FB, hWA, _⟩ := h10.snd.snd.snd.snd.snd.fst
                  obtain ⟨ga2, hca, hba⟩ := hWA.read hk16 hsP
                  obtain ⟨gb2, hcb, hbb⟩ := hWB.read hk16 hsR
                  have HY1 := Lib.hid (rawBytes _ _ _ _ hb1 hba)
                  have HY2 := Lib.hid (rawBytes _ _ _ _ hb2 hbb)
                  have H14 : Hid (Own w w10 (Sep (DiskR p P) (Sep (DiskR q R) (Sep (WasR gb 16 49 D.N 16) (Sep (WasR ga 16 49 E.N 16) Emp))))) := Lib.hid h10.snd.drop2.swap
                  simp only [secV] at hca hcb HY1 HY2
                  clear h10 hDA hDB hsR hsP hb1 hb2 hWB hWA hba hbb H13 HQ
                  go_wp2_with (first | (go_at_call 26; with_reducible refine HY1.out.mono ?_; rintro e w' ⟨rfl, rfl⟩) | (go_at_call 26; with_reducible refine HY2.out.mono ?_; rintro e w' ⟨rfl, rfl⟩))
                  all_goals
                    go_roundw
                    case rel => exact ⟨k + 1, by omega, by go_num, H14⟩
                    case measure => simp [intOf]; omega
                · obtain rfl : k = 16 := by omega
                  obtain ⟨gn, gk, vw, hDA⟩ := HQ.out.disk
                  obtain ⟨gn', gk', vw', hDB⟩ := HQ.out.snd.disk
                  have hw1 := disk_waiting hDA
                  rw [HP.out.2.1] at hw1
                  have hw2 := disk_waiting hDB
                  rw [HR.out.2.1] at hw2
                  have HW1 := Lib.hid hw1
                  have HW2 := Lib.hid hw2
                  have HQO := Lib.hid HQ.out.only
                  clear hDA hDB hw1 hw2 hk16 hk HQ
                  go_wp2_with (first | (go_at_call 18; with_reducible refine HW1.out.mono ?_; rintro e w' ⟨rfl, rfl⟩) | (go_at_call 18; with_reducible refine HW2.out.mono ?_; rintro e w' ⟨rfl, rfl⟩))
                  go_ret
                  exact ⟨rfl, HQO.out⟩

end Go.Proofs.Ytioabebbddlokaa
