/-
  WalRing: in a ring that is trimmed as it fills, however often round: what is found from the head on are the records behind it, in order.
-/
import Derived.Test.YtoldkhdobdlmfaaWal12
import Derived.Test.YtoldkhdobdlmfaaWalPreK
import Derived.Test.YtoldkhdobdlmfaaWalApart
import Derived.Test.YtoldkhdobdlmfaaQueW
namespace Go.Proofs.Ytoldkhdobdlmfaa
open Go Go.RowKit Go.Lib
set_option linter.unusedVariables false
set_option linter.unusedSimpArgs false
set_option maxRecDepth 100000

/-- The cells of the statement's own list: where each record begins, and its bytes. -/
def liveC : Nat → List (List UInt8) → List Value → List Value
  | h, x :: A, v :: vs => .int .u64 (h : Int) :: v :: liveC (h + cntN x.length) A vs
  | _, _, _ => []
theorem liveC_length : ∀ (A : List (List UInt8)) (vs : List Value) (h : Nat), vs.length = A.length → (liveC h A vs).length = A.length * 2
  | [], [], _, _ => rfl
  | [], _ :: _, _, e => by simp at e
  | _ :: _, [], _, e => by simp at e
  | x :: A, v :: vs, h, e => by
    have := liveC_length A vs (h + cntN x.length) (by simpa using e)
    simp [liveC, this]
    omega
theorem liveC_snoc (v : Value) (xs : List UInt8) : ∀ (A : List (List UInt8)) (vs : List Value) (h : Nat), vs.length = A.length → liveC h A vs ++ [.int .u64 ((h + pcnt (tagM 1 A) : Nat) : Int), v] = liveC h (A ++ [xs]) (vs ++ [v])
  | [], [], h, _ => by simp [liveC, tagM, pcnt]
  | [], _ :: _, _, e => by simp at e
  | _ :: _, [], _, e => by simp at e
  | x :: A, u :: vs, h, e => by
    have := liveC_snoc v xs A vs (h + cntN x.length) (by simpa using e)
    have e2 : h + pcnt (tagM 1 (x :: A)) = h + cntN x.length + pcnt (tagM 1 A) := by show h + pcnt ((1, x) :: tagM 1 A) = _; rw [pcnt_cons]; show h + (cntN x.length + pcnt (tagM 1 A)) = _; omega
    rw [e2]
    show .int .u64 (h : Int) :: u :: (liveC (h + cntN x.length) A vs ++ _) = _
    rw [this]
    rfl
theorem liveC_at : ∀ (A : List (List UInt8)) (vs : List Value) (h j : Nat), vs.length = A.length → j < A.length → (liveC h A vs)[j * 2]? = some (.int .u64 (((recsAt h (tagM 1 A)).getD j (0, 0, [])).1 : Int)) ∧ (liveC h A vs)[j * 2 + 1]? = vs[j]?
  | [], _, _, _, _, hj => by simp at hj
  | _ :: _, [], _, _, e, _ => by simp at e
  | x :: A, v :: vs, h, 0, _, _ => ⟨rfl, rfl⟩
  | x :: A, v :: vs, h, j + 1, e, hj => by
    have := liveC_at A vs (h + cntN x.length) j (by simpa using e) (by simpa using hj)
    have e1 : (j + 1) * 2 = j * 2 + 1 + 1 := by omega
    rw [e1]
    simpa [liveC, tagM, recsAt] using this
theorem DatL.len {w0 w : World} {vs : List Value} {L : List (List UInt8)} {J : Res} (h : Own w0 w (Sep (DatL vs L) J)) : vs.length = L.length := by
  obtain ⟨F, ⟨A, B, h1, _⟩, _⟩ := h
  exact h1.1
theorem DatL.tail {v : Value} {vs : List Value} {x : List UInt8} {A : List (List UInt8)} {w : World} {F : Nat → Prop} (h : DatL (v :: vs) (x :: A) w F) : DatL vs A w F := by
  obtain ⟨h1, h2, h3⟩ := h
  exact ⟨by simpa using h1, h2, fun j hj => h3 (j + 1) (by simp; omega)⟩
theorem DatL.push_row {g n c : Nat} {t : TypeId} {fr : Nat × Nat} {vs : List Value} {A : List (List UInt8)} {xs : List UInt8} {w : World} {F : Nat → Prop} (hn : n = xs.length) (h : Sep (Row g t xs fr) (DatL vs A) w F) : DatL (vs ++ [.slice (some ⟨g, 0, none⟩) n c]) (A ++ [xs]) w F := by
  obtain ⟨X, Y, hA, ⟨h1, h2, h3⟩, hd, hF⟩ := h
  have k1 : SlC w (.slice (some ⟨g, 0, none⟩) n c) xs := row_bytes' hA.1 hn
  refine ⟨by simp [h1], fun k hk => ((hF k).1 hk).elim (fun hx => Stab.lt (I := Row g t xs fr) hA k hx) (h2 k), fun j hj => ?_⟩
  simp at hj
  by_cases e : j = A.length
  · subst e
    have e1 : (vs ++ [Value.slice (some ⟨g, 0, none⟩) n c]).getD A.length (.slice none 0 0) = .slice (some ⟨g, 0, none⟩) n c := by rw [← h1]; simp [List.getD_eq_getElem?_getD]
    have e2 : (A ++ [xs]).getD A.length [] = xs := by simp [List.getD_eq_getElem?_getD]
    rw [e1, e2]
    refine ⟨k1, fun b m c e hne => (hF _).2 (.inl ((hA.2 _).2 ?_))⟩
    simp at e
    rw [← e.1]
  · have hl : j < A.length := by omega
    have e1 : (vs ++ [Value.slice (some ⟨g, 0, none⟩) n c]).getD j (.slice none 0 0) = vs.getD j (.slice none 0 0) := by
      rw [List.getD_eq_getElem?_getD, List.getD_eq_getElem?_getD, List.getElem?_append_left (by omega)]
    have e2 : (A ++ [xs]).getD j [] = A.getD j [] := by
      rw [List.getD_eq_getElem?_getD, List.getD_eq_getElem?_getD, List.getElem?_append_left hl]
    rw [e1, e2]
    exact ⟨(h3 j hl).1, fun b m c e hne => (hF _).2 (.inr ((h3 j hl).2 b m c e hne))⟩
theorem u8s_set (zs : List UInt8) (m : Nat) (b : UInt8) : (u8s zs).toArray.setIfInBounds m (.int .u8 (b.toNat : Int)) = (u8s (zs.set m b)).toArray := by
  simp [u8s, List.map_set]
theorem Own.row_put {w0 w : World} {g : Nat} {t : TypeId} {zs : List UInt8} {J : Res} [Stab J] (h : Own w0 w (Sep (Row g t zs) J)) (m : Nat) (b : UInt8) : Own w0 (w.setCell ⟨g, m, none⟩ (.int .u8 (b.toNat : Int))) (Sep (Row g t (zs.set m b)) J) := by
  have := Own.store h m (.int .u8 (b.toNat : Int))
  rwa [u8s_set] at this
theorem LogOk.drop {D : DS} {base size head nxt M c : Nat} {x : List UInt8} {A : List (List UInt8)} (h : LogOk D base size head nxt M (x :: A) c) (hn : head + cntN x.length + size ≤ 9223372036854775808) : LogOk D base size (head + cntN x.length) nxt M A c :=
  ⟨h.ring.drop hn, by rw [h.nx]; show head + pcnt ((M, x) :: tagM M A) = _; rw [pcnt_cons]; show head + (cntN x.length + pcnt (tagM M A)) = _; omega, h.w, h.wr⟩

/-- What an Append has answered: done, or no room. -/
def RgS (s c B head : Nat) (A : List (List UInt8)) (xs : List UInt8) (f : Int) (a nx2 : Nat) (D2 : DS) : Prop :=
  (f = 0 ∧ a = head + pcnt (tagM 1 A) ∧ LogOk D2 0 s head nx2 1 (A ++ [xs]) (c + s) ∧ nx2 ≤ B + s) ∨ (f = 3 ∧ s < pcnt (tagM 1 A) + cntN xs.length ∧ LogOk D2 0 s head nx2 1 A c ∧ nx2 ≤ B)
theorem own_append_ring {w0 w : World} {q p s head nxt c B : Nat} {D : DS} {A : List (List UInt8)} {J : Res} [Stab J] (h : Own w0 w (Sep (WLogR q p 0 s 1 head nxt) (Sep (DiskR p D) J))) (hL : LogOk D 0 s head nxt 1 A c) (hB : nxt ≤ B) (hc : c ≤ 900000) (hs : s ≤ 655) (hnum : head ≤ 9223372036854760000)
    (vo : Option Addr) (n vc : Nat) (xs : List UInt8) (hnx : n = xs.length) (hvc : n ≤ vc) (hv : ∀ (w' : World) (B : Nat → Prop), J w' B → Only (fun _ => False) w0 w' → SlC w' (.slice vo n vc) xs) (hx : n ≤ 32768) :
    Calls Try.prog 18 #[.pointer (some ⟨q, 0, none⟩), .slice vo n vc] w fun e w' => ∃ (f : Int) (a nx2 : Nat) (D2 : DS), e = .returned (.tuple #[.int .u64 a, .int .i64 f]) ∧ RgS s c B head A xs f a nx2 D2 ∧ Own w0 w' (Sep (WLogR q p 0 s 1 head nx2) (Sep (DiskR p D2) J)) := by
  refine (own_append_dec h hL hc hs hnum vo n vc xs hnx hvc hv hx).mono ?_
  rintro e w' (⟨hfit, rfl, hL', h'⟩ | ⟨hful, rfl, h'⟩)
  · exact ⟨0, nxt, _, _, rfl, .inl ⟨rfl, hL.nx, hL', by omega⟩, h'⟩
  · exact ⟨3, 0, nxt, D, rfl, .inr ⟨rfl, by rw [← hnx]; exact hful, hL, hB⟩, h'⟩
def lenV : Value → Nat
  | .slice _ n _ => n
  | _ => 0
abbrev RgR (q p s head nxt : Nat) (D : DS) (lv : Value) (vs : List Value) (A : List (List UInt8)) : Res :=
  Sep (WLogR q p 0 s 1 head nxt) (Sep (DiskR p D) (Sep (QueV 72 2 lv A.length (liveC head A vs)) (Sep (DatL vs A) Emp)))
theorem Try.infoRg2 : (Try.prog.info? 72).map (fun i => (i.zero, i.size)) = some (some (.agg #[.int .u64 0, .slice none 0 0]), 2) := by kernel_rfl
theorem Try.infoRg3 : (Try.prog.info? 72).map (fun i => (i.zero, i.size, i.bytes)) = some (some (.agg #[.int .u64 0, .slice none 0 0]), 2, 32) := by kernel_rfl
theorem Try.infoRgS : (Try.prog.info? 72).map (·.size) = some 2 := by kernel_rfl

set_option maxRecDepth 100000 in
set_option maxHeartbeats 8000000 in
theorem ring_walk (z : Int) (ao : Option Addr) (cc : Nat) (ks : List Int) (w : World) (ho : SlI w ao ks) (hks : ∀ z ∈ ks, -9223372036854775808 ≤ z ∧ z ≤ 9223372036854775807) :
    Calls Try.prog 5 #[.int .i64 z, .slice ao ks.length cc] w fun e w' => e = .returned (.bool true) ∧ Quiet w w' := by
  obtain ⟨h12, hm⟩ := modN_spec 12 (by decide) (by decide) z
  have hm : (wrap64 (z.tmod 12 + 12)).tmod 12 = (modN 12 z : Int) := hm
  obtain ⟨y, hy⟩ : ∃ y, y = modN 12 z := ⟨_, rfl⟩
  rw [← hy] at h12 hm
  have HO := Lib.hid ho
  have HM := Lib.hid hm
  have H12 := Lib.hid h12
  clear ho hm hy h12
  go_enter Try.func5, Try.ntmps5
  go_wp2_with fail
  refine (wawake w).mono ?_
  rintro e w0 ⟨rfl, hq⟩
  have H0 := Lib.hid ((Own.start w).quiet hq); clear hq
  go_wp2_with fail
  rw [HM.out]
  obtain ⟨s, hs⟩ : ∃ s : Nat, s = y + 4 := ⟨_, rfl⟩
  have hsI : ((y : Int) + 4) = (s : Int) := by omega
  have hs4 : 4 ≤ s := by omega
  have hs15 : s ≤ 15 := by have := H12.out; omega
  rw [hsI, show wrap64 (s : Int) = (s : Int) from IntWalk.wrap64_in _ ⟨by omega, by omega⟩]
  clear hs hsI HM H12
  refine (own_new H0.out 16 (by decide) (by decide)).mono ?_
  rintro e w1 ⟨p, rfl, h1⟩
  have HL0 : Hid (LogOk (DS.new 16) 0 s 1 1 1 [] 0) := Lib.hid (LogOk.new (by decide) (by omega) (by omega) (by decide) (by decide) (by omega))
  have hf0 : (DS.new 16).found 0 s 1 1 1 = [] := HL0.out.found (by decide) (by decide)
  have HO1 := Lib.hid (own_open h1 0 s 1 1 1 hs4 (by omega) (by show 0 + s ≤ 16; omega) (by decide) (by decide) (by decide) (by decide))
  rw [hf0] at HO1
  clear h1 H0 hf0
  go_wp2_with fail
  refine HO1.out.mono ?_
  rintro e w2 ⟨q, v, rfl, h2⟩
  obtain ⟨ro, rc, rfl⟩ := RecsR.shape h2.snd
  have H2 : Hid (Own w w2 (RgR q p s 1 1 (DS.new 16) (.slice none 0 0) [] [])) := Lib.hid (((h2.swap.snd).datl_nil.que_nil 72 2).ac (by unfold RgR; show Sep (QueV 72 2 (.slice none 0 0) 0 []) _ = Sep _ (Sep _ (Sep (QueV 72 2 (.slice none 0 0) 0 []) _)); ac_rfl))
  clear h2 HO1
  go_wp2_with fail
  go_loopw [10, 11] (fun lv i wr => ∃ (k head nxt : Nat) (D : DS) (A : List (List UInt8)) (vs : List Value) (lo : Option Addr) (lc : Nat), k ≤ ks.length ∧ k ≤ 100 ∧ lv = .slice lo A.length lc ∧ i = .int .i64 k ∧ Hid (LogOk D 0 s head nxt 1 A (16 * k) ∧ nxt ≤ 1 + 16 * k) ∧ Hid (Own w wr (RgR q p s head nxt D (.slice lo A.length lc) vs A))) (fun _ i _ => ks.length - (intOf i).toNat)
  case atStart => exact ⟨0, 1, 1, _, [], [], none, 0, Nat.zero_le _, by omega, rfl, rfl, Lib.hid ⟨HL0.out, by omega⟩, H2⟩
  case round =>
    clear H2 HL0
    obtain ⟨k, head, nxt, D, A, vs, lo, lc, hk, hk2, rfl, rfl, HL, HP⟩ := hrel
    obtain ⟨m, hm⟩ : ∃ m, m = A.length := ⟨_, rfl⟩
    rw [← hm]
    have HMA := Lib.hid hm
    clear hm
    have hnx : nxt = head + pcnt (tagM 1 A) := HL.out.1.nx
    have hft := HL.out.1.ring.fit
    have hh1 := HL.out.1.ring.h0
    by_cases hin : k < ks.length ∧ k < 100
    · obtain ⟨hlt, h100⟩ := hin
      have hltI : (k : Int) < (ks.length : Int) := by omega
      have h100I : (k : Int) < 100 := by omega
      have hk0 : (0 : Int) ≤ (k : Int) := by omega
      obtain ⟨g, off, rfl, hx⟩ := HO.out k hlt
      have dx := HP.out.only.cellq hx
      obtain ⟨x, hxe⟩ : ∃ x, x = ks.getD k 0 := ⟨_, rfl⟩
      rw [← hxe] at dx
      have HLT := Lib.hid hlt
      have H100 := Lib.hid h100
      obtain ⟨h4, hm4⟩ := modN_spec 120 (by decide) (by decide) x
      have hm4 : (wrap64 (x.tmod 120 + 120)).tmod 120 = (modN 120 x : Int) := hm4
      obtain ⟨n, hn⟩ : ∃ n : Nat, n = modN 120 x := ⟨_, rfl⟩
      rw [← hn] at h4 hm4
      have HM4 := Lib.hid hm4
      have HN4 := Lib.hid h4
      have HHH : Hid (1 ≤ head ∧ head ≤ 1601) := Lib.hid ⟨hh1, by have := HL.out.2; omega⟩
      clear hk hk2 hx hxe hnx hft hm4 hn h4 h100 hlt hh1
      go_upto_region 13 with fail
      rw [HM4.out]
      obtain ⟨zs0, hzs⟩ : ∃ zs : List UInt8, zs = List.replicate n 0 := ⟨_, rfl⟩
      obtain ⟨C, hC⟩ : ∃ C, C = (u8s zs0).toArray := ⟨_, rfl⟩
      have hzl : n = zs0.length := by rw [hzs]; simp
      have hmk : ∀ w, (Instr.makeSlice 48 (.int .i64 (n : Int)) (.int .i64 (n : Int))).run Try.prog w = .ok (.slice (some ⟨w.heap.size, 0, none⟩) n n) (w.alloc (.cells C 5)) := fun w => by
        rw [hC, hzs]; exact run_make_bytes n (by have := HN4.out; omega) w
      have h5 : Own w (wr.alloc (.cells C 5)) (Sep (Row wr.heap.size 5 zs0) (RgR q p s head nxt D (.slice lo A.length lc) vs A)) := by rw [hC]; exact HP.out.alloc _
      have H5 := Lib.hid h5
      have HZL := Lib.hid hzl
      clear h5 hzs hC HP hzl HM4 dx
      go_wp2_with fail
      obtain ⟨b, hb⟩ : ∃ b, b = wr.heap.size := ⟨_, rfl⟩
      rw [← hb] at H5 ⊢
      clear hb hmk
      go_loopw [14] (fun i w3 => ∃ (j : Nat) (zs : List UInt8), j ≤ n ∧ i = .int .i64 j ∧ Hid (n = zs.length) ∧ Hid (Own w w3 (Sep (Row b 5 zs) (RgR q p s head nxt D (.slice lo A.length lc) vs A)))) (fun i _ => n - (intOf i).toNat)
      case atStart => exact ⟨0, zs0, Nat.zero_le _, rfl, HZL, H5⟩
      case round =>
        clear H5 HZL
        obtain ⟨j, zs, hj, rfl, HZL, H5⟩ := hrel
        by_cases hlt : j < n
        · have hltJ : (j : Int) < (n : Int) := by omega
          have hj120 : (j : Int) < 120 := by have := HN4.out; omega
          have hj0 : (0 : Int) ≤ (j : Int) := by omega
          have hcl : wr.cell? ⟨b, j, none⟩ = some (.int .u8 ((zs.getD j 0).toNat : Int)) := blk_cell H5.out.held j (by have := HZL.out; (have hz : j < zs.length := by omega); simp [u8s, List.getD_eq_getElem?_getD, hz])
          have hfr : wr.frozen? ⟨b, j, none⟩ = false := blk_free H5.out.held j
          obtain ⟨c8, hc8⟩ : ∃ c8 : UInt8, (c8.toNat : Int) = ((k : Int) + (j : Int)) % 256 := ⟨UInt8.ofNat (k + j), by simp⟩
          have HPU := Lib.hid (H5.out.row_put j c8)
          have HZ2 : Hid (n = (zs.set j c8).length) := Lib.hid (by rw [List.length_set]; exact HZL.out)
          have HLJ := Lib.hid hlt
          have HN5 := HN4.out
          have hk3 := H100.out
          have hw1 : wrap64 ((k : Int) + (j : Int)) = (k : Int) + (j : Int) := IntWalk.wrap64_in _ ⟨by omega, by omega⟩
          have hw2 : IntKind.u8.wrap ((k : Int) + (j : Int)) = (c8.toNat : Int) := by rw [IntKind.wrap_u8', hc8]
          clear H5 HZL hlt hj hc8 hk3 HN5
          go_wp2_with fail
          go_roundw
          case rel => exact ⟨j + 1, _, HLJ.out, by go_num, HZ2, HPU⟩
          case measure => have := HLJ.out; simp [intOf]; omega
        · have hltJ : ¬ (j : Int) < (n : Int) := by omega
          clear hlt hj
          have hq2 : Own w wr (Sep (WLogR q p 0 s 1 head nxt) (Sep (DiskR p D) (Sep (Row b 5 zs) (Sep (QueV 72 2 (.slice lo A.length lc) A.length (liveC head A vs)) (Sep (DatL vs A) Emp))))) := H5.out.ac (by unfold RgR; ac_rfl)
          have HAP := Lib.hid (own_append_ring (B := 1 + 16 * k) hq2 HL.out.1 HL.out.2 (by have := H100.out; omega) (by omega) (by have := HHH.out; omega) (some ⟨b, 0, none⟩) n n zs HZL.out (Nat.le_refl _) (hv_row HZL.out) (by have := HN4.out; omega))
          clear hq2 H5
          go_wp2_with fail
          refine HAP.out.mono ?_
          clear HAP
          rintro e w4 ⟨f, a, nx2, D2, rfl, hS, h4⟩
          have HS : Hid (RgS s (16 * k) (1 + 16 * k) head A zs f a nx2 D2 ∧ 1 ≤ head ∧ head ≤ 1 + 16 * k) := Lib.hid ⟨hS, HHH.out.1, by have := HL.out.1.nx; have := HL.out.2; omega⟩
          have H4 : Hid (Own w w4 (Sep (Row b 5 zs) (RgR q p s head nx2 D2 (.slice lo A.length lc) vs A))) := Lib.hid (h4.ac (by unfold RgR; ac_rfl))
          rw [← HMA.out] at H4
          clear hS h4 HL
          go_wp2_with fail
          go_loopw [10, 15, 16] (fun lv av fv wr => ∃ (head a nx2 m : Nat) (f : Int) (D2 : DS) (A : List (List UInt8)) (vs : List Value) (lo : Option Addr) (lc : Nat), m = A.length ∧ lv = .slice lo m lc ∧ av = .int .u64 a ∧ fv = .int .i64 f ∧ Hid (RgS s (16 * k) (1 + 16 * k) head A zs f a nx2 D2 ∧ 1 ≤ head ∧ head ≤ 1 + 16 * k) ∧ Hid (Own w wr (Sep (Row b 5 zs) (RgR q p s head nx2 D2 (.slice lo m lc) vs A)))) (fun lv _ _ _ => lenV lv)
          case atStart => exact ⟨head, a, nx2, m, f, D2, A, vs, lo, lc, HMA.out, rfl, rfl, rfl, HS, H4⟩
          case round =>
            clear H4 HS
            obtain ⟨head, a, nx2, m, f, D2, A, vs, lo, lc, hmA, rfl, rfl, rfl, HS, H4⟩ := hrel
            have HMA := Lib.hid hmA
            by_cases hgo : f = 3 ∧ 0 < m
            · obtain ⟨rfl, hm0⟩ := hgo
              have hmI : (0 : Int) < (m : Int) := by omega
              have hS : s < pcnt (tagM 1 A) + cntN zs.length ∧ LogOk D2 0 s head nx2 1 A (16 * k) ∧ nx2 ≤ 1 + 16 * k := by
                rcases HS.out.1 with ⟨h, _⟩ | ⟨_, h⟩
                · omega
                · exact h
              have hvl : vs.length = A.length := DatL.len (H4.out.ac (J := Sep (DatL vs A) (Sep (Row b 5 zs) (Sep (WLogR q p 0 s 1 head nx2) (Sep (DiskR p D2) (Sep (QueV 72 2 (.slice lo m lc) A.length (liveC head A vs)) Emp))))) (by unfold RgR; ac_rfl))
              cases A with
              | nil => simp at hmA; omega
              | cons x A =>
                cases vs with
                | nil => simp at hvl
                | cons u vs =>
                  have hvl' : vs.length = A.length := by simpa using hvl
                  have hml : m - 1 = A.length := by simp at hmA; omega
                  obtain ⟨h2, hh2⟩ : ∃ h2, h2 = head + cntN x.length := ⟨_, rfl⟩
                  have hpc : pcnt (tagM 1 (x :: A)) = cntN x.length + pcnt (tagM 1 A) := by show pcnt ((1, x) :: tagM 1 A) = _; rw [pcnt_cons]
                  have hnx := hS.2.1.nx
                  have hft := hS.2.1.ring.fit
                  rw [hpc] at hnx hft
                  have hL2 : LogOk D2 0 s h2 nx2 1 A (16 * k) := by rw [hh2]; exact hS.2.1.drop (by have := HS.out.2; omega)
                  have hq : Own w wr (Sep (QueV 72 2 (.slice lo m lc) m (liveC head (x :: A) (u :: vs))) (Sep (DatL (u :: vs) (x :: A)) (Sep (Row b 5 zs) (Sep (WLogR q p 0 s 1 head nx2) (Sep (DiskR p D2) Emp))))) := H4.out.ac (by unfold RgR; rw [← hmA]; ac_rfl)
                  rcases hq.que with ⟨hv, _⟩ | ⟨g2, o2, c2, hv, hqa⟩
                  · simp at hv; omega
                  · simp at hv
                    obtain ⟨rfl, rfl⟩ := hv
                    obtain ⟨o3, ho3, hqa3⟩ := hqa.tail (by omega)
                    have hts : ∀ w, (Instr.slice 70 (.slice (some ⟨g2, o2, none⟩) m lc) (some (.int .i64 1)) none none).run Try.prog w = .ok (.slice (some ⟨g2, o3, none⟩) A.length (lc - 1)) w := fun w => by
                      rw [run_tail w 70 72 2 Try.underlying70 Try.infoRgS g2 o2 m lc (by omega) hqa.le, ho3, hml]
                    have hq3 : Own w wr (Sep (WLogR q p 0 s 1 head nx2) (Sep (DiskR p D2) (Sep (Row b 5 zs) (Sep (QueV 72 2 (.slice (some ⟨g2, o3, none⟩) A.length (lc - 1)) A.length (liveC h2 A vs)) (Sep (DatL vs A) Emp))))) := by
                      have h9 := hq.tail (by omega)
                      rw [ho3, hml] at h9
                      have h10 : Own w wr (Sep (DatL (u :: vs) (x :: A)) (Sep (QueV 72 2 (.slice (some ⟨g2, o3, none⟩) A.length (lc - 1)) A.length (liveC h2 A vs)) (Sep (Row b 5 zs) (Sep (WLogR q p 0 s 1 head nx2) (Sep (DiskR p D2) Emp))))) := by rw [hh2]; exact h9.ac (by show _ = Sep _ (Sep (QueV _ 2 _ _ ((liveC head (x :: A) (u :: vs)).drop 2)) _); ac_rfl)
                      have h11 := h10.imp fun F hF => hF.imp (fun B hB => DatL.tail hB) (fun _ h => h)
                      exact h11.ac (by ac_rfl)
                    have d0 : 0 < A.length → wr.cell? ⟨g2, o3, none⟩ = some (.int .u64 (h2 : Int)) := fun h0 => hqa3.cell (j := 0) (by
                      cases A with
                      | nil => simp at h0
                      | cons y A =>
                        cases vs with
                        | nil => simp at hvl'
                        | cons u2 vs => rw [hh2]; rfl)
                    have HNE := Lib.hid (wnext_any hq3.held)
                    have hTR := wtrim_any hq3 h2
                    rw [if_neg (by omega), if_neg (by omega)] at hTR
                    have HTR := Lib.hid hTR
                    have HL2 := Lib.hid hL2
                    have hh3 : 1 ≤ h2 ∧ h2 ≤ 1 + 16 * k := by have := HS.out.2; omega
                    have HH3 := Lib.hid hh3
                    have HNB := Lib.hid hS.2.2
                    obtain ⟨mm, hmm⟩ : ∃ mm, mm = A.length := ⟨_, rfl⟩
                    have hnxt0 : mm = 0 → nx2 = h2 := fun h => by
                      have : A = [] := by cases A with
                        | nil => rfl
                        | cons _ _ => simp at hmm; omega
                      rw [this] at hnx
                      simp [tagM, pcnt] at hnx
                      omega
                    rw [← hmm] at hts d0 hml
                    have HMM := Lib.hid hmm
                    clear hq hq3 hqa hqa3 hTR hL2 hpc hnx hft hS HS H4 hvl hvl' hmA hmm ho3 hh2 hh3
                    by_cases hz : mm = 0
                    case' pos =>
                      have hzI : ¬ (0 : Int) < (mm : Int) := by omega
                      have hto : nx2 = h2 := hnxt0 hz
                      rw [hto] at HNE
                      clear d0 hnxt0
                    case' neg =>
                      have hzI : (0 : Int) < (mm : Int) := by omega
                      have d0 := d0 (by omega)
                      clear hnxt0
                    all_goals
                      go_wp2_with fail
                      refine HNE.out.mono ?_
                      rintro e w' ⟨rfl, rfl⟩
                      go_wp2_with fail
                      refine HTR.out.mono ?_
                      rintro e w5 ⟨rfl, h5⟩
                      have HAP := Lib.hid (own_append_ring (B := 1 + 16 * k) h5 HL2.out HNB.out (by have := H100.out; omega) (by omega) (by have := HH3.out; have := H100.out; omega) (some ⟨b, 0, none⟩) n n zs HZL.out (Nat.le_refl _) (hv_row HZL.out) (by have := HN4.out; omega))
                      clear h5 HTR HNE
                      go_wp2_with fail
                      refine HAP.out.mono ?_
                      clear HAP
                      rintro e w6 ⟨f2, a2, nx3, D3, rfl, hS2, h6⟩
                      have HS2 : Hid (RgS s (16 * k) (1 + 16 * k) h2 A zs f2 a2 nx3 D3 ∧ 1 ≤ h2 ∧ h2 ≤ 1 + 16 * k) := Lib.hid ⟨hS2, HH3.out⟩
                      have H6 : Hid (Own w w6 (Sep (Row b 5 zs) (RgR q p s h2 nx3 D3 (.slice (some ⟨g2, o3, none⟩) mm (lc - 1)) vs A))) := Lib.hid (h6.ac (by unfold RgR; rw [← HMM.out]; ac_rfl))
                      clear hS2 h6
                      go_wp2_with fail
                      go_roundw
                      case rel => exact ⟨h2, a2, nx3, mm, f2, D3, A, vs, some ⟨g2, o3, none⟩, lc - 1, HMM.out, by first | rfl | (rw [hz]), rfl, rfl, HS2, H6⟩
                      case measure => simp [lenV]; omega
            · have hcase : f = 0 ∨ (f = 3 ∧ m = 0) := by
                rcases HS.out.1 with ⟨h, _⟩ | ⟨h, _⟩
                · exact .inl h
                · exact .inr ⟨h, by omega⟩
              clear hgo
              rcases hcase with rfl | ⟨rfl, rfl⟩
              · have hS : a = head + pcnt (tagM 1 A) ∧ LogOk D2 0 s head nx2 1 (A ++ [zs]) (16 * k + s) ∧ nx2 ≤ 1 + 16 * k + s := by
                  rcases HS.out.1 with ⟨_, h⟩ | ⟨h, _⟩
                  · exact h
                  · omega
                have hlen : m ≤ 15 := by
                  have h1 := hS.2.1.ring.fit
                  rw [tagM_append, pcnt_append] at h1
                  have h2 := pcnt_len (tagM 1 A)
                  have h3 : (tagM 1 A).length = A.length := by simp [tagM]
                  omega
                have hvl : vs.length = A.length := DatL.len (H4.out.ac (J := Sep (DatL vs A) (Sep (Row b 5 zs) (Sep (WLogR q p 0 s 1 head nx2) (Sep (DiskR p D2) (Sep (QueV 72 2 (.slice lo m lc) A.length (liveC head A vs)) Emp))))) (by unfold RgR; ac_rfl))
                have HLC : Hid ((liveC head A vs).length = m * 2) := Lib.hid (by rw [hmA]; exact liveC_length A vs head hvl)
                have HSN : Hid (liveC head A vs ++ [.int .u64 (a : Int), .slice (some ⟨b, 0, none⟩) n n] = liveC head (A ++ [zs]) (vs ++ [.slice (some ⟨b, 0, none⟩) n n])) := Lib.hid (by rw [hS.1]; exact liveC_snoc _ zs A vs head hvl)
                have HNI : Hid (LogOk D2 0 s head nx2 1 (A ++ [zs]) (16 * (k + 1)) ∧ nx2 ≤ 1 + 16 * (k + 1)) := Lib.hid ⟨hS.2.1.more (by omega), by omega⟩
                have hq1 : Own w (wr.alloc (.cells #[.int .u64 (a : Int), .slice (some ⟨b, 0, none⟩) n n] 72)) (Sep (QueV 72 2 (.slice lo m lc) m (liveC head A vs)) (Sep (Blk wr.heap.size (.cells #[.int .u64 (a : Int), .slice (some ⟨b, 0, none⟩) n n] 72 (0, 0))) (Sep (Sep (Row b 5 zs) (DatL vs A)) (Sep (WLogR q p 0 s 1 head nx2) (Sep (DiskR p D2) Emp))))) := (H4.out.alloc _).ac (by unfold RgR; rw [← hmA]; ac_rfl)
                have HQ1 := Lib.hid hq1
                have hbs := fun w => run_buildSlice_one (P := Try.prog) w 70 72 _ 2 Try.underlying70 Try.infoRg2 rfl (by decide) (by decide) #[.int .u64 (a : Int), .slice (some ⟨b, 0, none⟩) n n] rfl
                obtain ⟨i0, hi0, hz0, hz1, hz2⟩ := info_parts Try.infoRg3
                clear hS hvl hq1 H4 HS hmA
                go_wp2_with (first | (at_builtin; refine wpList_append_que (w0 := w) rfl (.tmp 121) (.tmp 125) 70 rfl 72 i0 _ 2 32 Try.underlying70 hi0 hz0 hz1 hz2 rfl (by decide) (.slice lo m lc) m (liveC head A vs) _ rfl HQ1.out HLC.out ⟨wr.heap.size, 0, none⟩ 1 [.int .u64 (a : Int), .slice (some ⟨b, 0, none⟩) n n] rfl rfl (World.news_of_block (heap_alloc_new wr _)) ?_ ?_ ?_ ?_))
                · intro u hu
                  simp at hu
                  rcases hu with rfl | rfl <;> rfl
                · unfold maxLen; omega
                · omega
                intro g5 o5 c5 w5 h5
                rw [HSN.out] at h5
                have H6 : Hid (Own w w5 (RgR q p s head nx2 D2 (.slice (some ⟨g5, o5, none⟩) (m + 1) c5) (vs ++ [.slice (some ⟨b, 0, none⟩) n n]) (A ++ [zs]))) := Lib.hid (by
                  have h6 : Own w w5 (Sep (Blk wr.heap.size (.cells #[.int .u64 (a : Int), .slice (some ⟨b, 0, none⟩) n n] 72 (0, 0))) (Sep (Sep (Row b 5 zs) (DatL vs A)) (Sep (QueV 72 2 (.slice (some ⟨g5, o5, none⟩) (m + 1) c5) (m + 1) (liveC head (A ++ [zs]) (vs ++ [.slice (some ⟨b, 0, none⟩) n n]))) (Sep (WLogR q p 0 s 1 head nx2) (Sep (DiskR p D2) Emp))))) := h5.ac (by ac_rfl)
                  have h7 := h6.snd.imp fun F hF => hF.imp (fun B hB => DatL.push_row (n := n) (c := n) HZL.out hB) (fun _ h => h)
                  exact h7.ac (by unfold RgR; rw [List.length_append, ← HMA.out]; show _ = Sep _ (Sep _ (Sep (QueV _ 2 _ (m + 1) _) _)); ac_rfl))
                clear h5 HQ1 hbs
                go_wp2_with fail
                go_roundw
                case rel => exact ⟨k + 1, head, nx2, D2, A ++ [zs], vs ++ [.slice (some ⟨b, 0, none⟩) n n], some ⟨g5, o5, none⟩, c5, HLT.out, H100.out, by rw [List.length_append, ← HMA.out]; rfl, by go_num, HNI, by rw [List.length_append, ← HMA.out]; exact H6⟩
                case measure => have := HLT.out; simp [intOf]; omega
              · have hA0 : A = [] := List.eq_nil_of_length_eq_zero hmA.symm
                have hcn : s < cntN n := by
                  rcases HS.out.1 with ⟨h, _⟩ | ⟨_, h, _⟩
                  · omega
                  · rw [hA0, ← HZL.out] at h
                    simpa [tagM, pcnt] using h
                obtain ⟨c, hc⟩ : ∃ c, c = cntN n := ⟨_, rfl⟩
                rw [← hc] at hcn
                have HCN : Hid (∀ w, Calls Try.prog 11 #[.int .i64 n] w fun e w' => e = .returned (.int .i64 c) ∧ w = w') := Lib.hid fun w => by
                  have := wcount_any (n : Int) w
                  rw [cnt_nat (by have := HN4.out; omega), ← hc] at this
                  exact this
                have hgI : (s : Int) < (c : Int) := by omega
                have HF := Lib.hid H4.out.only
                clear H4 HS hmA HMA hc hA0
                go_wp2_with fail
                refine (HCN.out _).mono ?_
                rintro e w' ⟨rfl, rfl⟩
                go_wp2_with fail
                go_ret
                exact ⟨rfl, HF.out⟩
    · have hcases : (¬ (k : Int) < (ks.length : Int)) ∨ ((k : Int) < (ks.length : Int) ∧ ¬ (k : Int) < 100) := by omega
      obtain ⟨rs, hrs⟩ : ∃ rs, rs = recsAt head (tagM 1 A) := ⟨_, rfl⟩
      have hfd : D.found 0 s 1 2 head = rs := by rw [hrs]; exact HL.out.1.found (by decide) (by decide)
      have hml : m = rs.length := by rw [hrs, recsAt_length, HMA.out]; simp [tagM]
      have hn2 := HL.out.2
      have hm15 : m ≤ 15 := by
        have h2 := pcnt_len (tagM 1 A)
        have h3 : (tagM 1 A).length = A.length := by simp [tagM]
        have := HMA.out
        omega
      have hlie : s ≤ D.n := by have := HL.out.1.ring.lies; omega
      have HRS := Lib.hid hrs
      have HML := Lib.hid hml
      have hq0 : Own w wr (Sep (WLogR q p 0 s 1 head nxt) (Sep (DiskR p D) (Sep (QueV 72 2 (.slice lo m lc) m (liveC head A vs)) (Sep (DatL vs A) Emp)))) := HP.out.ac (by unfold RgR; rw [← HMA.out])
      have HHE := Lib.hid (whead_any hq0.held)
      have hOP := own_open hq0.swap 0 s 1 2 head hs4 (by omega) (by omega) (by decide) (by decide) (by omega) (by omega)
      rw [hfd] at hOP
      have HOP := Lib.hid hOP
      have HLD : Hid (∀ j, j < m → (rs.getD j (0, 0, [])).2.2 = A.getD j []) := Lib.hid fun j hj => by rw [hrs]; exact recsAt_data A head 1 j (by rw [← HMA.out]; exact hj)
      obtain ⟨rm, hrm⟩ : ∃ rm : Nat, rm + nxt = s + head := ⟨s + head - nxt, by omega⟩
      have hrs2 : rm ≤ s := by omega
      have HRM := Lib.hid hrm
      have HNB : Hid (nxt ≤ 1601 ∧ head ≤ nxt) := Lib.hid (by omega)
      clear hrs hfd hml hq0 hOP hrm hk hk2 hin hnx hft hh1 HP HL hn2 hlie
      rcases hcases with h1 | ⟨h1, h2⟩
      all_goals
        go_wp2_with fail
        refine HHE.out.mono ?_
        rintro e w' ⟨rfl, rfl⟩
        go_wp2_with fail
        refine HOP.out.mono ?_
        rintro e w3 ⟨q2, v2, rfl, h3⟩
        obtain ⟨ro2, rc2, hv2⟩ := RecsR.shape h3.snd
        rw [← HML.out] at hv2
        subst hv2
        have h3q : Own w w3 (Sep (WLogR q p 0 s 1 head nxt) (Sep (RecsR 68 (.slice ro2 m rc2) rs) (Sep (QueV 72 2 (.slice lo m lc) m (liveC head A vs)) (Sep (DatL vs A) (Sep (DiskR p D) (Sep (WLogR q2 p 0 s 2 head (nextOf head rs)) Emp)))))) := h3.ac (by ac_rfl)
        have HRO := Lib.hid (own_room h3q (by have := HNB.out; omega) (by have := HNB.out; omega) (by omega) rm HRM.out)
        have m1 : ((m : Int) != (m : Int)) = false := by simp
        have r1 : ¬ (rm : Int) < 0 := by omega
        have r2 : ¬ (s : Int) < (rm : Int) := by omega
        clear h3 h3q HOP HHE h1
        go_wp2_with fail
        refine HRO.out.mono ?_
        rintro e w4 ⟨rfl, h4⟩
        have HRO2 := Lib.hid (own_room h4 (by have := HNB.out; omega) (by have := HNB.out; omega) (by omega) rm HRM.out)
        clear h4 HRO
        go_wp2_with fail
        refine HRO2.out.mono ?_
        rintro e w5 ⟨rfl, h5⟩
        have H5 := Lib.hid h5
        clear h5 HRO2
        go_wp2_with fail
        clear m1 r1 r2
        go_loopw [21] (fun i wr => ∃ j : Nat, j ≤ m ∧ i = .int .i64 j ∧ Hid (Own w wr (Sep (WLogR q p 0 s 1 head nxt) (Sep (RecsR 68 (.slice ro2 m rc2) rs) (Sep (QueV 72 2 (.slice lo m lc) m (liveC head A vs)) (Sep (DatL vs A) (Sep (DiskR p D) (Sep (WLogR q2 p 0 s 2 head (nextOf head rs)) Emp)))))))) (fun i _ => m - (intOf i).toNat)
        case atStart => exact ⟨0, Nat.zero_le _, rfl, H5⟩
        case round =>
          clear H5
          obtain ⟨j, hj, rfl, HQ⟩ := hrel
          by_cases hlt : j < m
          · have hltI : (j : Int) < (m : Int) := by omega
            have hj0 : (0 : Int) ≤ (j : Int) := by omega
            have hj15 : (j : Int) < 15 := by omega
            obtain ⟨g1, a1, rfl, d0, d1, d2, s1⟩ := rec_cells HML.out HQ.out.snd (k := j) (by have := HML.out; omega)
            obtain ⟨u, hu, s2⟩ := DatL.sl HQ.out.snd.snd.snd (j := j) (by have := HMA.out; omega)
            have hvl := DatL.len HQ.out.snd.snd.snd
            obtain ⟨c1, c2⟩ := liveC_at A vs head j hvl (by have := HMA.out; omega)
            rw [← HRS.out] at c1
            rw [hu] at c2
            rw [HLD.out j hlt] at s1
            rcases HQ.out.snd.snd.que with ⟨hv, hm0, _⟩ | ⟨g2, o2, c3, hv, hqa⟩
            · omega
            · simp at hv
              obtain ⟨rfl, rfl⟩ := hv
              have x1 := hqa.cell c1
              have x2 := hqa.cell c2
              rw [← Nat.add_assoc] at x2
              obtain ⟨fr, hfr⟩ : ∃ fr, fr = (rs.getD j (0, 0, [])).1 := ⟨_, rfl⟩
              rw [← hfr] at d0 x1
              have HCB := Lib.hid (quiet_bytes a1 u _ wr s1 s2)
              have HLTJ := Lib.hid hlt
              have HQD := Lib.hid (fun nq => HQ.out.drewN nq)
              have m1 : ((fr : Int) != (fr : Int)) = false := by simp
              clear s1 s2 hu hlt hj HQ c1 c2 hqa hvl hfr
              go_wp2_with fail
              go_quiet ((go_at_call 37; exact Calls.quiet_of (HCB.out _)))
              have HQN := Lib.hid (HQD.out nq)
              clear d0 d1 d2 x1 x2 HQD HCB m1
              go_wp2_with fail
              go_roundw
              case rel => exact ⟨j + 1, HLTJ.out, by go_num, HQN⟩
              case measure => have := HLTJ.out; simp [intOf]; omega
          · have hltI : ¬ (j : Int) < (m : Int) := by omega
            have HF := Lib.hid HQ.out.only
            clear HQ hlt hj
            go_wp2_with fail
            go_ret
            exact ⟨rfl, HF.out⟩

end Go.Proofs.Ytoldkhdobdlmfaa
