/-
  Package pool: next.
-/
import Derived.Test.YtjmelhmjcbliaaaPoP3
namespace Go.Proofs.Ytjmelhmjcbliaaa
open Go Go.RowKit
set_option linter.unusedVariables false
set_option linter.unusedSimpArgs false
set_option maxRecDepth 100000

/-- One of a pool's places has been turned. -/
theorem Own.turnPl {w0 w : World} {p bb mb : Nat} {ro : Option Addr} {rc : Nat} {D : DataW Value} {L Z : List Pb} {st : Po} {J : Res} {i : Nat} {x : Pb} {P : World → Prop} (hm : PoM D L st) (hs : Shp ro L.length rc) (hi : i < L.length) (hk : x.k = (L.getD i default).k) (hid : x.v.id = (L.getD i default).v.id) (hP : ∀ w, P w → BytesOk ((L ++ Z).set i x) w)
    (h : Own w0 w (Sep (PlB x) (Sep (PlsR ((L ++ Z).eraseIdx i)) (Sep (Blk p (.cells (poc bb mb ro rc L st) 66)) (Sep (RowG 67 (.slice ro L.length rc) L) (Sep (MapR mb D) (Sep (Fix P) (Sep (BkR bb st.bk) J)))))))) :
    Own w0 w (Sep (PoR p bb (L.set i x) Z (st.turn i x.v)) J) := by
  have h3 := Own.plBack (i := i) (A := L ++ Z) h (by rw [List.length_append]; omega)
  rw [set_left hi] at h3
  have h5 : Own w0 w (Sep (RowG 67 (.slice ro L.length rc) L) (Sep (Fix P) (Sep (Blk p (.cells (poc bb mb ro rc L st) 66)) (Sep (PlsR (L.set i x ++ Z)) (Sep (MapR mb D) (Sep (BkR bb st.bk) J)))))) := h3.ac (by ac_rfl)
  have h6 := (h5.rowPb (B := L.set i x) (by rw [map_set_same (fun x : Pb => x.k) L i x hk])).swap
  have h7 := h6.fixI (Q := BytesOk (L.set i x ++ Z)) fun w hw => by
    rw [← set_left hi]
    exact hP w hw
  have hsl : (L.set i x).length = L.length := List.length_set
  have hm2 := hm.set (st' := st.turn i x.v) hi (x := x) hk hid rfl hm.ok.h
  refine Own.shutPo (mb := mb) (ro := ro) (rc := rc) (D := D) hm2 (by rw [hsl]; exact hs) ?_
  unfold poc Po.turn
  dsimp only
  rw [hsl]
  unfold poc at h7
  exact h7.ac (by ac_rfl)
/-- A pool with one of its places apart. -/
theorem Own.openPl {w0 w : World} {p bb : Nat} {L Z : List Pb} {st : Po} {J : Res} (h : Own w0 w (Sep (PoR p bb L Z st) J)) {i : Nat} (hi : i < L.length) : ∃ mb ro rc D, PoM D L st ∧ Shp ro L.length rc ∧
    Own w0 w (Sep (PlB (L.getD i default)) (Sep (PlsR ((L ++ Z).eraseIdx i)) (Sep (Blk p (.cells (poc bb mb ro rc L st) 66)) (Sep (RowG 67 (.slice ro L.length rc) L) (Sep (MapR mb D) (Sep (Fix (BytesOk (L ++ Z))) (Sep (BkR bb st.bk) J))))))) := by
  obtain ⟨mb, ro, rc, D, hm, hs, h1⟩ := h.openPo
  refine ⟨mb, ro, rc, D, hm, hs, ?_⟩
  have h2 := (h1.ac (by ac_rfl : _ = Sep (PlsR (L ++ Z)) (Sep (Blk p (.cells (poc bb mb ro rc L st) 66)) (Sep (RowG 67 (.slice ro L.length rc) L) (Sep (MapR mb D) (Sep (Fix (BytesOk (L ++ Z))) (Sep (BkR bb st.bk) J))))))).plAt (i := i) (by rw [List.length_append]; omega)
  rw [getD_left hi] at h2
  exact h2
theorem Own.poM {w0 w : World} {p bb : Nat} {L Z : List Pb} {st : Po} {J : Res} (h : Own w0 w (Sep (PoR p bb L Z st) J)) : ∃ D, PoM D L st := by
  obtain ⟨mb, ro, rc, D, hm, _⟩ := h.openPo
  exact ⟨D, hm⟩
theorem Keeps.left {L L' Z : List Pb} (h : Keeps L L') : Keeps (L ++ Z) (L' ++ Z) := fun x hx => by
  rcases List.mem_append.1 hx with h1 | h1
  · obtain ⟨y, hy, e⟩ := h x h1
    exact ⟨y, List.mem_append.2 (.inl hy), e⟩
  · exact ⟨x, List.mem_append.2 (.inr h1), rfl, rfl, rfl, rfl, rfl⟩
/-- What next leaves. -/
def NextPost (w0 w' : World) (p bb : Nat) (L Z : List Pb) (st : Po) (J : Res) (e : Ending) : Prop :=
  ∃ L', Keeps (L ++ Z) (L' ++ Z) ∧ L'.length = L.length ∧ e = .returned (.tuple #[.int .i64 (((nextP (2 * st.L.length) st.L st.hand).2.getD 0 : Nat) : Int), .bool (nextP (2 * st.L.length) st.L st.hand).2.isSome]) ∧ Own w0 w' (Sep (PoR p bb L' Z { st with L := (nextP (2 * st.L.length) st.L st.hand).1 }) J)
theorem nextP_pin {k : Nat} {L : List Pl} {i : Nat} (h : 0 < (L.getD (i % L.length) default).p) : nextP (k + 1) L i = nextP k L (i + 1) := by rw [nextP, if_pos h]
theorem nextP_used {k : Nat} {L : List Pl} {i : Nat} (h : ¬ 0 < (L.getD (i % L.length) default).p) (h2 : (L.getD (i % L.length) default).u = true) : nextP (k + 1) L i = nextP k (L.set (i % L.length) { L.getD (i % L.length) default with u := false }) (i + 1) := by rw [nextP, if_neg h, if_pos h2]
theorem nextP_here {k : Nat} {L : List Pl} {i : Nat} (h : ¬ 0 < (L.getD (i % L.length) default).p) (h2 : (L.getD (i % L.length) default).u = false) : nextP (k + 1) L i = (L, some (i % L.length)) := by
  rw [nextP, if_neg h, if_neg (by rw [h2]; simp)]
theorem tmod_nat {a b n m : Nat} (h : (a + b) % n = m) : ((a : Int) + (b : Int)).tmod (n : Int) = (m : Int) := by
  rw [Int.tmod_eq_emod_of_nonneg (Int.add_nonneg (Int.natCast_nonneg _) (Int.natCast_nonneg _)), ← h]
  norm_cast
theorem BytesOk.same {A : List Pb} {w : World} (h : BytesOk A w) {i : Nat} (hi : i < A.length) {x : Pb} (e : A.getD i default = x) (d : Bool) (pn : Nat) (u : Bool) : BytesOk (A.set i ⟨x.k, x.ao, x.c, ⟨x.v.id, x.v.b, d, pn, u⟩⟩) w := by
  subst e
  exact h.set hi rfl rfl rfl
/-- Where next's loop stands. -/
structure NextAt (L Z : List Pb) (st : Po) (k : Nat) (L' : List Pb) (st' : Po) : Prop where
  kp : Keeps (L ++ Z) (L' ++ Z)
  n : L'.length = L.length
  s : st' = { st with L := st'.L }
  g : nextP (2 * st.L.length - k) st'.L (st.hand + k) = nextP (2 * st.L.length) st.L st.hand
set_option maxHeartbeats 4000000 in
theorem pnext_any {w0 w : World} {p bb : Nat} {L Z : List Pb} {st : Po} {J : Res} [Stab J] (h : Own w0 w (Sep (PoR p bb L Z st) J)) (hl : L.length ≤ 1000000000) :
    Calls Try.prog 50 #[ptr p] w (fun e w' => NextPost w0 w' p bb L Z st J e) := by
  obtain ⟨n, hn⟩ : ∃ n, L.length = n := ⟨_, rfl⟩
  have hns : st.L.length = n := by
    obtain ⟨D, hm⟩ := h.poM
    rw [← hm.len]
    exact hn
  have hhd : st.hand = 0 ∨ st.hand < n := by
    obtain ⟨D, hm⟩ := h.poM
    rw [← hns]
    exact hm.ok.h
  obtain ⟨hd, hh⟩ : ∃ x, st.hand = x := ⟨_, rfl⟩
  rw [hn] at hl
  rw [hh] at hhd
  have HN := Lib.hid hn
  have HNS := Lib.hid hns
  have HHH := Lib.hid hh
  have HS := Lib.hid h
  have HAT : Hid (NextAt L Z st 0 L st) := Lib.hid ⟨Keeps.refl _, rfl, rfl, rfl⟩
  obtain ⟨mb, ro, rc, D, hm, hs, h1⟩ := h.openPo
  unfold poc at h1
  rw [hn] at h1
  obtain ⟨c0, c1, c2, c3, c4⟩ := h1.blk5c.1
  have hw : wrap64 (2 * (n : Int)) = 2 * (n : Int) := IntWalk.wrap64_in _ ⟨by omega, by omega⟩
  clear h hn hns hh hm hs h1
  go_enter Try.func50, Try.ntmps50
  go_wp2_with fail
  clear c0 c1 c2 c3 c4
  go_loopw [13] (fun j wr => ∃ k : Nat, k ≤ 2 * n ∧ j = .int .i64 (k : Int) ∧ Hid (∃ L' st', NextAt L Z st k L' st' ∧ Own w0 wr (Sep (PoR p bb L' Z st') J))) (fun j _ => 2 * n - (intOf j).toNat)
  case atStart => exact ⟨0, Nat.zero_le _, rfl, Lib.hid ⟨L, st, HAT.out, HS.out⟩⟩
  case round =>
    clear HS HAT
    obtain ⟨k, hk, rfl, HX⟩ := hrel
    obtain ⟨L', st', hat, hO⟩ := HX.out
    have HAT := Lib.hid hat
    have HO0 := Lib.hid hO
    clear HX
    have h0 : (0 : Int) ≤ (k : Int) := by omega
    by_cases hlt : k < 2 * n
    · have hltI : (k : Int) < 2 * (n : Int) := by omega
      have hnpos : 0 < n := by omega
      have hn' : L'.length = n := by rw [hat.n]; exact HN.out
      obtain ⟨m, hmv⟩ : ∃ m, (hd + k) % n = m := ⟨_, rfl⟩
      have hmn : m < n := by rw [← hmv]; exact Nat.mod_lt _ hnpos
      obtain ⟨mb, ro, rc, D, hm, hs, h1⟩ := hO.openPl (i := m) (by omega)
      obtain ⟨x, hx⟩ : ∃ x, L'.getD m default = x := ⟨_, rfl⟩
      have HX := Lib.hid hx
      have hpl : st'.L.getD m default = x.v := by have := hm.pl m; rw [hx] at this; exact this
      have HPL := Lib.hid hpl
      have hns' : st'.L.length = n := by rw [← hm.len]; exact hn'
      have hhd' : st'.hand = hd := by rw [hat.s]; exact HHH.out
      have HHD := Lib.hid hhd'
      have hgg := hat.g
      rw [show 2 * st.L.length - k = (2 * n - (k + 1)) + 1 by rw [HNS.out]; omega, HHH.out] at hgg
      have hmod : (hd + k) % st'.L.length = m := by rw [hns']; exact hmv
      have HG := Lib.hid hgg
      have HMOD := Lib.hid hmod
      have HM := Lib.hid hm
      have HSH := Lib.hid hs
      have HN' := Lib.hid hn'
      have HNS' := Lib.hid hns'
      obtain ⟨g, rfl⟩ := own_addr (h1.snd.snd.swap) (by omega)
      rw [hx] at h1
      unfold poc at h1
      rw [hn', hhd'] at h1
      obtain ⟨xk, xo, xc, xv⟩ := x
      obtain ⟨xi, xb, xd, xp, xu⟩ := xv
      unfold PlB plc at h1
      dsimp only at h1 hpl
      have hR : w0 = w0 → (wr.drew.cell? ⟨p, 4, none⟩ = some (.int .i64 (hd : Int)) ∧ wr.drew.cell? ⟨p, 2, none⟩ = some (.slice (some ⟨g, 0, none⟩) n rc)) := fun _ => by
        have := h1.drew.snd.snd.blk5c.1
        exact ⟨this.2.2.2.2, this.2.2.1⟩
      have hrow : wr.drew.cell? ⟨g, m, none⟩ = some (ptr xk) := by
        obtain ⟨g2, off, e2, e3⟩ := h1.drew.snd.snd.swap.rowSlg.pb (j := m) (by omega)
        simp only [Option.some.injEq, Addr.mk.injEq, and_true] at e2
        obtain ⟨rfl, rfl⟩ := e2
        rw [hx, Nat.zero_add] at e3
        exact e3
      have hmI : (m : Int) < (n : Int) := by omega
      have hm0 : (0 : Int) ≤ (m : Int) := by omega
      have hw2 : wrap64 ((hd : Int) + (k : Int)) = (hd : Int) + (k : Int) := IntWalk.wrap64_in _ ⟨by omega, by omega⟩
      have htm : ((hd : Int) + (k : Int)).tmod (n : Int) = (m : Int) := by
        exact tmod_nat hmv
      have hn0 : ¬ n = 0 := by omega
      have hw3 : IntKind.i64.wrap ((hd : Int) + (k : Int)) = (hd : Int) + (k : Int) := (IntWalk.i64_left _).trans hw2
      have HO := Lib.hid h1.drew
      have HRR := hR rfl
      clear h1 hm hs hat hO hpl hgg hmod hx hn' hns' hR HO0
      go_upto_region 4 with fail
      refine anyG.start (fun w' => w'.cell? ⟨p, 4, none⟩ = some (.int .i64 (hd : Int)) ∧ w'.cell? ⟨p, 2, none⟩ = some (.slice (some ⟨g, 0, none⟩) n rc)) [] (by kernel_rfl) ?_ (fun hHeld => ?_)
      · exact HRR
      refine anyG.take [] (i := 0) (oi := ?_) (v := ?_) ?_ (by kernel_rfl) (by kernel_rfl) (by kernel_rfl) (by kernel_rfl) (by kernel_rfl) (by kernel_rfl) ?_ (Or.inl ⟨?_, ?_⟩) (by assumption) ?_
      rotate_left 2
      · (simp only [List.getElem?_toArray, List.getElem?_cons_zero]; rfl)
      · exact fun _ _ _ h => h
      · rfl
      · (intro w hSw; (try dsimp only at hSw); go_simp <;> with_reducible rfl)
      (try simp only [Act.put, List.setIfInBounds_toArray, List.set_cons_zero, List.set_cons_succ])
      refine anyG.take [] (i := 1) (oi := ?_) (v := ?_) ?_ (by kernel_rfl) (by kernel_rfl) (by kernel_rfl) (by kernel_rfl) (by kernel_rfl) (by kernel_rfl) ?_ (Or.inl ⟨?_, ?_⟩) (by assumption) ?_
      rotate_left 2
      · (simp only [List.getElem?_toArray, List.getElem?_cons_succ, List.getElem?_cons_zero]; rfl)
      · exact fun _ _ _ h => h
      · rfl
      · (intro w hSw; (try dsimp only at hSw); go_simp <;> with_reducible rfl)
      (try simp only [Act.put, List.setIfInBounds_toArray, List.set_cons_zero, List.set_cons_succ])
      refine anyG.take [] (i := 2) (oi := ?_) (v := ?_) ?_ (by kernel_rfl) (by kernel_rfl) (by kernel_rfl) (by kernel_rfl) (by kernel_rfl) (by kernel_rfl) ?_ (Or.inl ⟨?_, ?_⟩) (by assumption) ?_
      rotate_left 2
      · (simp only [List.getElem?_toArray, List.getElem?_cons_succ, List.getElem?_cons_zero]; rfl)
      · exact fun _ _ _ h => h
      · rfl
      · (intro w hSw; (try dsimp only at hSw); go_simp <;> with_reducible rfl)
      (try simp only [Act.put, List.setIfInBounds_toArray, List.set_cons_zero, List.set_cons_succ])
      refine anyG.take [] (i := 3) (oi := ?_) (v := ?_) ?_ (by kernel_rfl) (by kernel_rfl) (by kernel_rfl) (by kernel_rfl) (by kernel_rfl) (by kernel_rfl) ?_ (Or.inl ⟨?_, ?_⟩) (by assumption) ?_
      rotate_left 2
      · (simp only [List.getElem?_toArray, List.getElem?_cons_succ, List.getElem?_cons_zero]; rfl)
      · exact fun _ _ _ h => h
      · rfl
      · (intro w hSw; (try dsimp only at hSw); go_simp <;> with_reducible rfl)
      (try simp only [Act.put, List.setIfInBounds_toArray, List.set_cons_zero, List.set_cons_succ])
      refine anyG.take [] (i := 4) (oi := ?_) (v := ?_) ?_ (by kernel_rfl) (by kernel_rfl) (by kernel_rfl) (by kernel_rfl) (by kernel_rfl) (by kernel_rfl) ?_ (Or.inl ⟨?_, ?_⟩) (by assumption) ?_
      rotate_left 2
      · (simp only [List.getElem?_toArray, List.getElem?_cons_succ, List.getElem?_cons_zero]; rfl)
      · exact fun _ _ _ h => h
      · rfl
      · (intro w hSw; (try dsimp only at hSw); go_simp <;> with_reducible rfl)
      (try simp only [Act.put, List.setIfInBounds_toArray, List.set_cons_zero, List.set_cons_succ])
      refine anyG.take [] (i := 5) (oi := ?_) (v := ?_) ?_ (by kernel_rfl) (by kernel_rfl) (by kernel_rfl) (by kernel_rfl) (by kernel_rfl) (by kernel_rfl) ?_ (Or.inl ⟨?_, ?_⟩) (by assumption) ?_
      rotate_left 2
      · (simp only [List.getElem?_toArray, List.getElem?_cons_succ, List.getElem?_cons_zero]; rfl)
      · exact fun _ _ _ h => h
      · rfl
      · (intro w hSw; (try dsimp only at hSw); go_simp <;> with_reducible rfl)
      (try simp only [Act.put, List.setIfInBounds_toArray, List.set_cons_zero, List.set_cons_succ])
      refine anyG.take [] (i := 6) (oi := ?_) (v := ?_) ?_ (by kernel_rfl) (by kernel_rfl) (by kernel_rfl) (by kernel_rfl) (by kernel_rfl) (by kernel_rfl) ?_ (Or.inl ⟨?_, ?_⟩) (by assumption) ?_
      rotate_left 2
      · (simp only [List.getElem?_toArray, List.getElem?_cons_succ, List.getElem?_cons_zero]; rfl)
      · exact fun _ _ _ h => h
      · rfl
      · (intro w hSw; (try dsimp only at hSw); go_simp <;> with_reducible rfl)
      (try simp only [Act.put, List.setIfInBounds_toArray, List.set_cons_zero, List.set_cons_succ])
      refine anyG.take [] (i := 7) (oi := ?_) (v := ?_) ?_ (by kernel_rfl) (by kernel_rfl) (by kernel_rfl) (by kernel_rfl) (by kernel_rfl) (by kernel_rfl) ?_ (Or.inl ⟨?_, ?_⟩) (by assumption) ?_
      rotate_left 2
      · (simp only [List.getElem?_toArray, List.getElem?_cons_succ, List.getElem?_cons_zero]; rfl)
      · exact fun _ _ _ h => h
      · rfl
      · (intro w hSw; (try dsimp only at hSw); go_simp <;> with_reducible rfl)
      (try simp only [Act.put, List.setIfInBounds_toArray, List.set_cons_zero, List.set_cons_succ])
      refine anyG.take [] (i := 8) (oi := ?_) (v := ?_) ?_ (by kernel_rfl) (by kernel_rfl) (by kernel_rfl) (by kernel_rfl) (by kernel_rfl) (by kernel_rfl) ?_ (Or.inl ⟨?_, ?_⟩) (by assumption) ?_
      rotate_left 2
      · (simp only [List.getElem?_toArray, List.getElem?_cons_succ, List.getElem?_cons_zero]; rfl)
      · exact fun _ _ _ h => h
      · rfl
      · (intro w hSw; (try dsimp only at hSw); go_simp <;> with_reducible rfl)
      (try simp only [Act.put, List.setIfInBounds_toArray, List.set_cons_zero, List.set_cons_succ])
      refine anyG.take [] (i := 9) (oi := ?_) (v := ?_) ?_ (by kernel_rfl) (by kernel_rfl) (by kernel_rfl) (by kernel_rfl) (by kernel_rfl) (by kernel_rfl) ?_ (Or.inl ⟨?_, ?_⟩) (by assumption) ?_
      rotate_left 2
      · (simp only [List.getElem?_toArray, List.getElem?_cons_succ, List.getElem?_cons_zero]; rfl)
      · exact fun _ _ _ h => h
      · rfl
      · (intro w hSw; (try dsimp only at hSw); go_simp <;> with_reducible rfl)
      (try simp only [Act.put, List.setIfInBounds_toArray, List.set_cons_zero, List.set_cons_succ])
      refine anyG.take [] (i := 10) (oi := ?_) (v := ?_) ?_ (by kernel_rfl) (by kernel_rfl) (by kernel_rfl) (by kernel_rfl) (by kernel_rfl) (by kernel_rfl) ?_ (Or.inl ⟨?_, ?_⟩) (by assumption) ?_
      rotate_left 2
      · (simp only [List.getElem?_toArray, List.getElem?_cons_succ, List.getElem?_cons_zero]; rfl)
      · exact fun _ _ _ h => h
      · rfl
      · (intro w hSw; (try dsimp only at hSw); go_simp <;> with_reducible rfl)
      (try simp only [Act.put, List.setIfInBounds_toArray, List.set_cons_zero, List.set_cons_succ])
      refine anyG.take [] (i := 11) (oi := ?_) (v := ?_) ?_ (by kernel_rfl) (by kernel_rfl) (by kernel_rfl) (by kernel_rfl) (by kernel_rfl) (by kernel_rfl) ?_ (Or.inl ⟨?_, ?_⟩) (by assumption) ?_
      rotate_left 2
      · (simp only [List.getElem?_toArray, List.getElem?_cons_succ, List.getElem?_cons_zero]; rfl)
      · exact fun _ _ _ h => h
      · rfl
      · (intro w hSw; (try dsimp only at hSw); go_simp <;> with_reducible rfl)
      (try simp only [Act.put, List.setIfInBounds_toArray, List.set_cons_zero, List.set_cons_succ])
      refine anyG.take [] (i := 12) (oi := ?_) (v := ?_) ?_ (by kernel_rfl) (by kernel_rfl) (by kernel_rfl) (by kernel_rfl) (by kernel_rfl) (by kernel_rfl) ?_ (Or.inl ⟨?_, ?_⟩) (by assumption) ?_
      rotate_left 2
      · (simp only [List.getElem?_toArray, List.getElem?_cons_succ, List.getElem?_cons_zero]; rfl)
      · exact fun _ _ _ h => h
      · rfl
      · (intro w hSw; (try dsimp only at hSw); go_simp <;> with_reducible rfl)
      (try simp only [Act.put, List.setIfInBounds_toArray, List.set_cons_zero, List.set_cons_succ])
      refine anyG.done (by kernel_rfl) ?_
      obtain ⟨e0, e1, e2, e3, e4⟩ := HO.out.snd.snd.blk5c.1
      obtain ⟨⟨d0, d1, d2, d3, d4⟩, q0, q1, q2, q3, q4⟩ := HO.out.blk5c
      clear hHeld HRR
      generalize World.drew wr = w2 at *
      by_cases hp : 0 < xp
      · have hpI : (0 : Int) < (xp : Int) := by omega
        have HBK : Hid (Own w0 w2 (Sep (PoR p bb L' Z st') J)) := Lib.hid (by
          have h3 := Own.turnPl (P := BytesOk (L' ++ Z)) (x := ⟨xk, xo, xc, ⟨xi, xb, xd, xp, xu⟩⟩) HM.out HSH.out (by rw [HN'.out]; exact hmn) (by rw [HX.out]) (by rw [HX.out]) (fun w hw => hw.same (i := m) (x := ⟨xk, xo, xc, ⟨xi, xb, xd, xp, xu⟩⟩) (by rw [List.length_append, HN'.out]; omega) (by rw [getD_left (by rw [HN'.out]; exact hmn)]; exact HX.out) xd xp xu) (by unfold PlB plc poc; dsimp only; rw [HN'.out, HHD.out]; exact HO.out)
          rw [← HX.out, set_getD_self] at h3
          have e : st'.turn m (L'.getD m default).v = st' := by
            unfold Po.turn
            rw [← HM.out.pl m]
            unfold Po.pl
            rw [set_getD_self]
          rw [e] at h3
          exact h3)
        have HNX : Hid (NextAt L Z st (k + 1) L' st') := Lib.hid ⟨HAT.out.kp, HAT.out.n, HAT.out.s, by
          have hg := HG.out
          rw [nextP_pin (by rw [HMOD.out, HPL.out]; exact hp)] at hg
          rw [HNS.out, HHH.out]
          rw [HNS.out] at hg
          exact hg⟩
        go_wp2_with fail
        go_roundw
        case rel => exact ⟨k + 1, by omega, by go_num, Lib.hid ⟨L', st', HNX.out, HBK.out⟩⟩
        case measure => simp [intOf]; omega
      · have hpI : ¬ (0 : Int) < (xp : Int) := by omega
        have hpd : decide ((0 : Int) < (xp : Int)) = false := decide_eq_false hpI
        cases xu with
        | true =>
          have HNX : Hid (NextAt L Z st (k + 1) (L'.set m ⟨xk, xo, xc, ⟨xi, xb, xd, xp, false⟩⟩) (st'.turn m ⟨xi, xb, xd, xp, false⟩)) := Lib.hid ⟨HAT.out.kp.trans (Keeps.left (Keeps.set (by rw [HN'.out]; exact hmn) (by rw [HX.out]) (by rw [HX.out]) (by rw [HX.out]) (by rw [HX.out]) (by rw [HX.out]))), by rw [List.length_set]; exact HAT.out.n, by
            have := HAT.out.s
            unfold Po.turn
            rw [this], by
            have hg := HG.out
            rw [nextP_used (by rw [HMOD.out, HPL.out]; exact hp) (by rw [HMOD.out, HPL.out]), HMOD.out, HPL.out] at hg
            rw [HNS.out, HHH.out]
            rw [HNS.out] at hg
            exact hg⟩
          go_wp2_with fail
          have HO3 := Lib.hid (HO.out.store 4 (.bool false))
          generalize World.setCell w2 _ _ = w3 at *
          have HBK : Hid (Own w0 w3 (Sep (PoR p bb (L'.set m ⟨xk, xo, xc, ⟨xi, xb, xd, xp, false⟩⟩) Z (st'.turn m ⟨xi, xb, xd, xp, false⟩)) J)) := Lib.hid (Own.turnPl (P := BytesOk (L' ++ Z)) (x := ⟨xk, xo, xc, ⟨xi, xb, xd, xp, false⟩⟩) HM.out HSH.out (by rw [HN'.out]; exact hmn) (by rw [HX.out]) (by rw [HX.out]) (fun w hw => hw.same (i := m) (x := ⟨xk, xo, xc, ⟨xi, xb, xd, xp, true⟩⟩) (by rw [List.length_append, HN'.out]; omega) (by rw [getD_left (by rw [HN'.out]; exact hmn)]; exact HX.out) xd xp false) (by unfold PlB plc poc; dsimp only; rw [HN'.out, HHD.out]; exact HO3.out))
          go_roundw
          case rel => exact ⟨k + 1, by omega, by go_num, Lib.hid ⟨_, _, HNX.out, HBK.out⟩⟩
          case measure => simp [intOf]; omega
        | false =>
          have hgn : nextP (2 * st.L.length) st.L st.hand = (st'.L, some m) := by
            have hg := HG.out
            rw [nextP_here (by rw [HMOD.out, HPL.out]; exact hp) (by rw [HMOD.out, HPL.out]), HMOD.out] at hg
            rw [HHH.out]
            exact hg.symm
          have HGN := Lib.hid hgn
          have HBK : Hid (Own w0 w2 (Sep (PoR p bb L' Z st') J)) := Lib.hid (by
            have h3 := Own.turnPl (P := BytesOk (L' ++ Z)) (x := ⟨xk, xo, xc, ⟨xi, xb, xd, xp, false⟩⟩) HM.out HSH.out (by rw [HN'.out]; exact hmn) (by rw [HX.out]) (by rw [HX.out]) (fun w hw => hw.same (i := m) (x := ⟨xk, xo, xc, ⟨xi, xb, xd, xp, false⟩⟩) (by rw [List.length_append, HN'.out]; omega) (by rw [getD_left (by rw [HN'.out]; exact hmn)]; exact HX.out) xd xp false) (by unfold PlB plc poc; dsimp only; rw [HN'.out, HHD.out]; exact HO.out)
            rw [← HX.out, set_getD_self] at h3
            have e : st'.turn m (L'.getD m default).v = st' := by
              unfold Po.turn
              rw [← HM.out.pl m]
              unfold Po.pl
              rw [set_getD_self]
            rw [e] at h3
            exact h3)
          clear hgn
          go_wp2_with fail
          go_ret2
          refine ⟨L', HAT.out.kp, HAT.out.n, by rw [HGN.out]; rfl, ?_⟩
          rw [HGN.out]
          have := HAT.out.s
          dsimp only
          rw [← this]
          exact HBK.out
    · have hge : k = 2 * n := by omega
      subst hge
      have hgeI : ¬ ((2 * n : Nat) : Int) < 2 * (n : Int) := by push_cast; omega
      have hgg := hat.g
      rw [HNS.out, Nat.sub_self] at hgg
      have hgn : nextP (2 * st.L.length) st.L st.hand = (st'.L, none) := by rw [HNS.out, ← hgg]; rfl
      have HGN := Lib.hid hgn
      clear hat hO hgg hgn
      go_wp2_with fail
      go_ret2
      refine ⟨L', HAT.out.kp, HAT.out.n, by rw [HGN.out]; rfl, ?_⟩
      rw [HGN.out]
      have := HAT.out.s
      dsimp only
      rw [← this]
      exact HO0.out

end Go.Proofs.Ytjmelhmjcbliaaa
