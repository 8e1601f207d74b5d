/-
  WalApart: two logs side by side have nothing in common.
-/
import Derived.Test.YtoldkhdobdlmfaaWalJ6
namespace Go.Proofs.Ytoldkhdobdlmfaa
open Go Go.RowKit Go.Lib
set_option linter.unusedVariables false
set_option linter.unusedSimpArgs false
set_option maxRecDepth 100000

theorem own_append_dec {w0 w : World} {q p base size M head nxt c : Nat} {D : DS} {A : List (List UInt8)} {J : Res} [Stab J] (h : Own w0 w (Sep (WLogR q p base size M head nxt) (Sep (DiskR p D) J))) (hL : LogOk D base size head nxt M A c) (hc : c ≤ 900000) (hs : size ≤ 655) (hnum : head ≤ 9223372036854760000)
    (vo : Option Addr) (n vc : Nat) (xs : List UInt8) (hnx : n = xs.length) (hvc : n ≤ vc) (hv : ∀ (w' : World) (B : Nat → Prop), J w' B → Only (fun _ => False) w0 w' → SlC w' (.slice vo n vc) xs) (hx : n ≤ 32768) :
    Calls Try.prog 18 #[.pointer (some ⟨q, 0, none⟩), .slice vo n vc] w fun e w' =>
      (pcnt (tagM M A) + cntN n ≤ size ∧ e = .returned (.tuple #[.int .u64 nxt, .int .i64 0]) ∧ LogOk (D.app base size M nxt xs (cntN n)) base size head (nxt + cntN n) M (A ++ [xs]) (c + size) ∧ Own w0 w' (Sep (WLogR q p base size M head (nxt + cntN n)) (Sep (DiskR p (D.app base size M nxt xs (cntN n))) J))) ∨
      (size < pcnt (tagM M A) + cntN n ∧ e = .returned (.tuple #[.int .u64 0, .int .i64 3]) ∧ Own w0 w' (Sep (WLogR q p base size M head nxt) (Sep (DiskR p D) J))) := by
  obtain ⟨hR, hnxt, hw, hwr⟩ := hL
  have hft := hR.fit
  have h4 : D.n ≤ 4096 := hR.up.ok.n
  by_cases hfit : pcnt (tagM M A) + cntN n ≤ size
  · refine (wlog_append_go h vo n vc xs hnx hvc hv hx (by omega) (by omega) hR.m hR.pos hR.lies h4 hR.up.d (by omega) (by omega) (by omega)).mono ?_
    rintro e w' ⟨rfl, h'⟩
    have hR' := hR.append xs (by omega) (by rw [← hnx]; exact hfit) hnxt
    rw [← hnx] at hR'
    have hd := hR'.up.d
    have hE : appE D base size M nxt xs = 0 := by unfold appE; rw [← hnx, hd]; rfl
    simp only [hd, Bool.false_eq_true, if_false] at h'
    have hf := app_few D base size M nxt xs (cntN n)
    refine .inl ⟨hfit, by simp only [hE, hd, Bool.false_eq_true, if_false]; rfl, ⟨hR', ?_, by omega, by omega⟩, h'⟩
    rw [tagM_append, pcnt_append, tagM_one, pcnt_one, ← hnx, hnxt]
    omega
  · refine (wlog_append_full h vo n vc hx (by omega) (by omega) (by omega) (by omega)).mono ?_
    rintro e w' ⟨rfl, h'⟩
    exact .inr ⟨by omega, rfl, h'⟩
theorem LogOk.more {D : DS} {base size head nxt M c c' : Nat} {A : List (List UInt8)} (h : LogOk D base size head nxt M A c) (hc : c ≤ c') : LogOk D base size head nxt M A c' := ⟨h.ring, h.nx, by have := h.w; omega, by have := h.wr; omega⟩
/-- A ring beside the one that is written. -/
theorem LogOk.beside {D : DS} {base size head nxt M c : Nat} {A : List (List UInt8)} (h : LogOk D base size head nxt M A c) {base' size' M' nxt' : Nat} {xs : List UInt8} (h0 : 0 < size') (hl : base' + size' ≤ D.n) (hap : base + size ≤ base' ∨ base' + size' ≤ base) (hx : cntN xs.length ≤ size') :
    LogOk (D.app base' size' M' nxt' xs (cntN xs.length)) base size head nxt M A (c + size') := by
  have hf := app_few D base' size' M' nxt' xs (cntN xs.length)
  exact ⟨h.ring.other h0 hl hap hx, h.nx, by have := h.w; omega, by have := h.wr; omega⟩
theorem recsAt_data : ∀ (A : List (List UInt8)) (s M k : Nat), k < A.length → ((recsAt s (tagM M A)).getD k (0, 0, [])).2.2 = A.getD k []
  | [], s, M, k, h => by simp at h
  | x :: A, s, M, 0, _ => rfl
  | x :: A, s, M, k + 1, h => by
    have := recsAt_data A (s + cntN x.length) M k (by simpa using h)
    simpa [tagM, recsAt] using this

/-- Slices of bytes that read as these, one by one. -/
structure Reads (w : World) (vs : List Value) (A : List (List UInt8)) : Prop where
  len : vs.length = A.length
  sl : ∀ j, j < A.length → SlC w (vs.getD j (.slice none 0 0)) (A.getD j [])
theorem Reads.nil (w : World) : Reads w [] [] := ⟨rfl, fun j h => by simp at h⟩
theorem Reads.snoc {w : World} {vs : List Value} {A : List (List UInt8)} (h : Reads w vs A) {v : Value} {xs : List UInt8} (hv : SlC w v xs) : Reads w (vs ++ [v]) (A ++ [xs]) := by
  have hl := h.len
  refine ⟨by simp [hl], fun j hj => ?_⟩
  simp at hj
  by_cases e : j < A.length
  · rw [List.getD_eq_getElem?_getD, List.getElem?_append_left (by omega), List.getD_eq_getElem?_getD, List.getElem?_append_left e, ← List.getD_eq_getElem?_getD, ← List.getD_eq_getElem?_getD]
    exact h.sl j e
  · obtain rfl : j = A.length := by omega
    rw [List.getD_eq_getElem?_getD, List.getElem?_append_right (by omega), hl, List.getD_eq_getElem?_getD, List.getElem?_append_right (by omega), Nat.sub_self]
    exact hv

/-- The state of the two logs. -/
structure ApI (D : DS) (na nb : Nat) (A B : List (List UInt8)) (c : Nat) : Prop where
  a : LogOk D 0 32 1 na 1 A c
  b : LogOk D 32 32 7 nb 1 B c
  n : D.n = 64
  la : A.length ≤ 32
  lb : B.length ≤ 32
abbrev ApR (qa qb p na nb : Nat) (D : DS) (xo yo : Option Addr) (nx xc ny yc : Nat) (va vb : List Value) : Res :=
  Sep (WLogR qa p 0 32 1 1 na) (Sep (DiskR p D) (Sep (WLogR qb p 32 32 1 7 nb) (Sep (RowV 48 1 (.slice xo nx xc) nx va) (Sep (RowV 48 1 (.slice yo ny yc) ny vb) Emp))))
theorem cnt_len (A : List (List UInt8)) (M : Nat) : A.length ≤ pcnt (tagM M A) := by
  induction A with
  | nil => simp
  | cons x A ih => show _ ≤ pcnt ((M, x) :: tagM M A); rw [pcnt_cons]; have := cntN_pos x.length; simp; omega
theorem ApI.appA {D : DS} {na nb c : Nat} {A B : List (List UInt8)} (h : ApI D na nb A B c) {xs : List UInt8} (hf : pcnt (tagM 1 A) + cntN xs.length ≤ 32) (hL : LogOk (D.app 0 32 1 na xs (cntN xs.length)) 0 32 1 (na + cntN xs.length) 1 (A ++ [xs]) (c + 32)) : ApI (D.app 0 32 1 na xs (cntN xs.length)) (na + cntN xs.length) nb (A ++ [xs]) B (c + 32) := by
  refine ⟨hL, h.b.beside (by decide) (by rw [h.n]; decide) (.inr (by decide)) (by omega), (app_few _ _ _ _ _ _ _).1.trans h.n, ?_, h.lb⟩
  have := cnt_len (A ++ [xs]) 1
  have := hL.ring.fit
  omega
theorem ApI.appB {D : DS} {na nb c : Nat} {A B : List (List UInt8)} (h : ApI D na nb A B c) {xs : List UInt8} (hf : pcnt (tagM 1 B) + cntN xs.length ≤ 32) (hL : LogOk (D.app 32 32 1 nb xs (cntN xs.length)) 32 32 7 (nb + cntN xs.length) 1 (B ++ [xs]) (c + 32)) : ApI (D.app 32 32 1 nb xs (cntN xs.length)) na (nb + cntN xs.length) A (B ++ [xs]) (c + 32) := by
  refine ⟨h.a.beside (by decide) (by rw [h.n]; decide) (.inl (by decide)) (by omega), hL, (app_few _ _ _ _ _ _ _).1.trans h.n, h.la, ?_⟩
  have := cnt_len (B ++ [xs]) 1
  have := hL.ring.fit
  omega
theorem ApI.more {D : DS} {na nb c c' : Nat} {A B : List (List UInt8)} (h : ApI D na nb A B c) (hc : c ≤ c') : ApI D na nb A B c' := ⟨h.a.more hc, h.b.more hc, h.n, h.la, h.lb⟩

set_option maxRecDepth 100000 in
set_option maxHeartbeats 16000000 in
theorem wapart_walk (lo : Option Addr) (lc : Nat) (ls : List (List UInt8)) (ko : Option Addr) (kc : Nat) (ks : List (List UInt8)) (w : World) (hl : SlR w lo ls) (hk : SlR w ko ks) :
    Calls Try.prog 6 #[.slice lo ls.length lc, .slice ko ks.length kc] w fun e w' => e = .returned (.bool true) ∧ Quiet w w' := by
  have HLS := Lib.hid hl
  have HKS := Lib.hid hk
  clear hl hk
  go_enter Try.func6, Try.ntmps6
  go_wp2_with fail
  refine (wawake w).mono ?_
  rintro e w0 ⟨rfl, hq⟩
  have H0 := Lib.hid ((Own.start w).quiet hq); clear hq
  go_wp2_with fail
  refine (own_new H0.out 64 (by decide) (by decide)).mono ?_
  rintro e w1 ⟨p, rfl, h1⟩
  have hI0 : ApI (DS.new 64) 1 7 [] [] 0 := ⟨LogOk.new (by decide) (by decide) (by decide) (by decide) (by decide) (by decide), LogOk.new (by decide) (by decide) (by decide) (by decide) (by decide) (by decide), rfl, by decide, by decide⟩
  have hf0 : (DS.new 64).found 0 32 1 1 1 = [] := hI0.a.found (by decide) (by decide)
  have hf1 : (DS.new 64).found 32 32 1 1 7 = [] := hI0.b.found (by decide) (by decide)
  have HO1 := Lib.hid (own_open h1 0 32 1 1 1 (by decide) (by decide) (by decide) (by decide) (by decide) (by decide) (by decide))
  rw [hf0] at HO1
  have HI0 := Lib.hid hI0
  have HF1 := Lib.hid hf1
  clear h1 H0 hf0 hf1 hI0
  go_wp2_with fail
  refine HO1.out.mono ?_
  rintro e w2 ⟨qa, v, rfl, h2⟩
  obtain ⟨ro, rc, rfl⟩ := RecsR.shape h2.snd
  have HO2 := Lib.hid (own_open (h2.ac (J := Sep (DiskR p (DS.new 64)) (Sep (WLogR qa p 0 32 1 1 1) (Sep (RecsR 68 (.slice ro 0 rc) []) Emp))) (by show Sep (WLogR qa p 0 32 1 1 1) (Sep (RecsR 68 (.slice ro 0 rc) []) _) = _; ac_rfl)) 32 32 1 1 7 (by decide) (by decide) (by decide) (by decide) (by decide) (by decide) (by decide))
  rw [HF1.out] at HO2
  clear h2 HO1 HF1
  go_wp2_with fail
  refine HO2.out.mono ?_
  rintro e w3 ⟨qb, v, rfl, h3⟩
  obtain ⟨rp, rd, rfl⟩ := RecsR.shape h3.snd
  have h3a : Own w w3 (Sep (Sep (RecsR 68 (.slice ro 0 rc) []) (RecsR 68 (.slice rp 0 rd) [])) (Sep (WLogR qa p 0 32 1 1 1) (Sep (DiskR p (DS.new 64)) (Sep (WLogR qb p 32 32 1 7 7) Emp)))) := h3.ac (by show Sep (WLogR qb p 32 32 1 7 7) (Sep (RecsR 68 (.slice rp 0 rd) []) _) = _; ac_rfl)
  have H3 : Hid (Own w w3 (ApR qa qb p 1 7 (DS.new 64) none none 0 0 0 0 [] [])) := Lib.hid (((h3a.snd.row_nil 48 1).row_nil 48 1).ac (by unfold ApR; ac_rfl))
  clear h3 h3a HO2
  go_wp2_with fail
  go_loopw [13, 14, 15] (fun xv yv i wr => ∃ (k na nb : Nat) (D : DS) (A B : List (List UInt8)) (xo yo : Option Addr) (xc yc : Nat) (va vb : List Value), k ≤ 20 ∧ i = .int .i64 k ∧ xv = .slice xo A.length xc ∧ yv = .slice yo B.length yc ∧ Hid (ApI D na nb A B (64 * k) ∧ Reads w va A ∧ Reads w vb B) ∧ Hid (Own w wr (ApR qa qb p na nb D xo yo A.length xc B.length yc va vb))) (fun _ _ i _ => 20 - (intOf i).toNat)
  case atStart => exact ⟨0, 1, 7, _, [], [], none, none, 0, 0, [], [], by omega, rfl, rfl, rfl, Lib.hid ⟨HI0.out, Reads.nil w, Reads.nil w⟩, H3⟩
  case round =>
    clear H3 HI0
    obtain ⟨k, na, nb, D, A, B, xo, yo, xc, yc, va, vb, hk, rfl, rfl, rfl, HI, HP⟩ := hrel
    by_cases hlt : k < 20
    · have hltI : (k : Int) < 20 := by omega
      have hk0 : (0 : Int) ≤ (k : Int) := by omega
      have HLT := Lib.hid hlt
      obtain ⟨ny, hny⟩ : ∃ ny, ny = B.length := ⟨_, rfl⟩
      obtain ⟨nx, hnx⟩ : ∃ nx, nx = A.length := ⟨_, rfl⟩
      rw [← hny, ← hnx] at HP ⊢
      have HNY := Lib.hid hny
      have HNX := Lib.hid hnx
      have hny32 : ny ≤ 32 := by rw [hny]; exact HI.out.1.lb
      have hnx32 : nx ≤ 32 := by rw [hnx]; exact HI.out.1.la
      clear hny hnx hk hlt
      have hfirst : (ls.length ≤ k) ∨ (∃ g off vo vc xs n, k < ls.length ∧ lo = some ⟨g, off, none⟩ ∧ w.cell? ⟨g, off + k, none⟩ = some (.slice vo n vc) ∧ SlC w (.slice vo n vc) xs ∧ n = xs.length ∧ n ≤ vc ∧ 300 ≤ n) ∨ (∃ g off vo vc xs n, k < ls.length ∧ lo = some ⟨g, off, none⟩ ∧ w.cell? ⟨g, off + k, none⟩ = some (.slice vo n vc) ∧ SlC w (.slice vo n vc) xs ∧ n = xs.length ∧ n ≤ vc ∧ n < 300) := by
        by_cases h : k < ls.length
        · obtain ⟨g, off, v, e, hx, hsn⟩ := HLS.out k h
          obtain ⟨vo, vc, rfl, hvc⟩ := hsn.2
          by_cases h3 : (ls.getD k []).length < 300
          · exact .inr (.inr ⟨g, off, vo, vc, _, _, h, e, hx, hsn.1, rfl, hvc, h3⟩)
          · exact .inr (.inl ⟨g, off, vo, vc, _, _, h, e, hx, hsn.1, rfl, hvc, by omega⟩)
        · exact .inl (by omega)
      have hsecond : (ks.length ≤ k) ∨ (∃ g off vo vc xs n, k < ks.length ∧ ko = some ⟨g, off, none⟩ ∧ w.cell? ⟨g, off + k, none⟩ = some (.slice vo n vc) ∧ SlC w (.slice vo n vc) xs ∧ n = xs.length ∧ n ≤ vc ∧ 300 ≤ n) ∨ (∃ g off vo vc xs n, k < ks.length ∧ ko = some ⟨g, off, none⟩ ∧ w.cell? ⟨g, off + k, none⟩ = some (.slice vo n vc) ∧ SlC w (.slice vo n vc) xs ∧ n = xs.length ∧ n ≤ vc ∧ n < 300) := by
        by_cases h : k < ks.length
        · obtain ⟨g, off, v, e, hx, hsn⟩ := HKS.out k h
          obtain ⟨vo, vc, rfl, hvc⟩ := hsn.2
          by_cases h3 : (ks.getD k []).length < 300
          · exact .inr (.inr ⟨g, off, vo, vc, _, _, h, e, hx, hsn.1, rfl, hvc, h3⟩)
          · exact .inr (.inl ⟨g, off, vo, vc, _, _, h, e, hx, hsn.1, rfl, hvc, by omega⟩)
        · exact .inl (by omega)
      have HSEC := Lib.hid hsecond
      clear hsecond
      rcases hfirst with h1 | ⟨g1, o1, vo, vc, xs, n, hlt1, rfl, dx, hsl, hn, hvc, h3⟩ | ⟨g1, o1, vo, vc, xs, n, hlt1, rfl, dx, hsl, hn, hvc, h3⟩
      case' inl =>
        have i1 : ¬ (k : Int) < (ls.length : Int) := by omega
        go_upto_region 16 with fail
        obtain ⟨na2, rfl⟩ : ∃ x, x = na := ⟨_, rfl⟩
        obtain ⟨D2, rfl⟩ : ∃ x, x = D := ⟨_, rfl⟩
        obtain ⟨A2, rfl⟩ : ∃ x, x = A := ⟨_, rfl⟩
        obtain ⟨nx2, rfl⟩ : ∃ x, x = nx := ⟨_, rfl⟩
        obtain ⟨xo2, rfl⟩ : ∃ x, x = xo := ⟨_, rfl⟩
        obtain ⟨xc2, rfl⟩ : ∃ x, x = xc := ⟨_, rfl⟩
        obtain ⟨va2, rfl⟩ : ∃ x, x = va := ⟨_, rfl⟩
        have HI2 : Hid (ApI D2 na2 nb A2 B (64 * k + 32) ∧ Reads w va2 A2 ∧ Reads w vb B ∧ nx2 = A2.length) := Lib.hid ⟨HI.out.1.more (by omega), HI.out.2.1, HI.out.2.2, HNX.out⟩
        have HP2 := HP
        have hnx2 : nx2 ≤ 32 := hnx32
        clear HI HP HNX hnx32 i1 h1
      case' inr.inl =>
        have i1 : (k : Int) < (ls.length : Int) := by omega
        have i3 : ¬ (n : Int) < 300 := by omega
        have dy := HP.out.only.cellq dx
        go_upto_region 16 with fail
        obtain ⟨na2, rfl⟩ : ∃ x, x = na := ⟨_, rfl⟩
        obtain ⟨D2, rfl⟩ : ∃ x, x = D := ⟨_, rfl⟩
        obtain ⟨A2, rfl⟩ : ∃ x, x = A := ⟨_, rfl⟩
        obtain ⟨nx2, rfl⟩ : ∃ x, x = nx := ⟨_, rfl⟩
        obtain ⟨xo2, rfl⟩ : ∃ x, x = xo := ⟨_, rfl⟩
        obtain ⟨xc2, rfl⟩ : ∃ x, x = xc := ⟨_, rfl⟩
        obtain ⟨va2, rfl⟩ : ∃ x, x = va := ⟨_, rfl⟩
        have HI2 : Hid (ApI D2 na2 nb A2 B (64 * k + 32) ∧ Reads w va2 A2 ∧ Reads w vb B ∧ nx2 = A2.length) := Lib.hid ⟨HI.out.1.more (by omega), HI.out.2.1, HI.out.2.2, HNX.out⟩
        have HP2 := HP
        have hnx2 : nx2 ≤ 32 := hnx32
        clear HI HP HNX hnx32 i1 i3 h3 dx dy hsl hn hvc hlt1
      case' inr.inr =>
        have i1 : (k : Int) < (ls.length : Int) := by omega
        have i3 : (n : Int) < 300 := by omega
        have dy := HP.out.only.cellq dx
        have HAP := Lib.hid (own_append_dec HP.out HI.out.1.a (by have := HLT.out; omega) (by decide) (by decide) vo n vc xs hn hvc (hv_arg hsl) (by omega))
        have HSL := Lib.hid hsl
        have HNN := Lib.hid hn
        have HDX := Lib.hid dx
        clear hsl hn hvc hlt1 HP
        go_wp2_with fail
        refine HAP.out.mono ?_
        clear dy HAP
        intro e w4 hres
        rcases hres with ⟨hfit, rfl, hL', h4⟩ | ⟨hful, rfl, h4⟩
      case' inl =>
        have hI2 := HI.out.1.appA (by rw [← HNN.out]; exact hfit) (by rw [← HNN.out]; exact hL')
        rw [← HNN.out] at hI2
        have HRS : Hid (Reads w (va ++ [.slice vo n vc]) (A ++ [xs])) := Lib.hid (HI.out.2.1.snoc HSL.out)
        obtain ⟨D2, hD2⟩ : ∃ x, x = D.app 0 32 1 na xs (cntN n) := ⟨_, rfl⟩
        obtain ⟨na2, hna2⟩ : ∃ x, x = na + cntN n := ⟨_, rfl⟩
        rw [← hD2, ← hna2] at hI2 h4
        have HI3 := Lib.hid hI2
        have HRB := Lib.hid HI.out.2.2
        have h4q : Own w w4 (Sep (RowV 48 1 (.slice xo nx xc) nx va) (Sep (WLogR qa p 0 32 1 1 na2) (Sep (DiskR p D2) (Sep (WLogR qb p 32 32 1 7 nb) (Sep (RowV 48 1 (.slice yo ny yc) ny vb) Emp))))) := h4.ac (by ac_rfl)
        have dz := h4q.only.cellq HDX.out
        obtain ⟨i0, hi0, hz0, hz1, hz2⟩ := info_parts Try.infoSlB
        have HRW := Lib.hid (h4q.owns.alloc (.cells #[.slice vo n vc] 48))
        have HA0 := Lib.hid ((h4q.alloc (.cells #[.slice vo n vc] 48)).snd)
        clear h4 h4q hL' hD2 hna2 hI2 HI hfit
        go_wp2_with (first | (at_builtin; refine wpList_append_lies _ rfl (.tmp 77) (.tmp 82) 62 rfl 0 48 i0 _ 1 24 Try.underlying62 hi0 hz0 hz1 hz2 rfl (by decide) (.slice xo nx xc) nx va rfl HRW.out ⟨w4.heap.size, 0, none⟩ 1 1 [.slice vo n vc] rfl rfl (World.news_of_block (heap_alloc_new w4 _)) (by intro u hu; rw [List.mem_singleton.1 hu]; rfl) Nat.zero_lt_one (by unfold maxLen; omega) (by omega) (Nat.zero_le _) (w4.heap.size + 1) (by simp) ?_))
        intro g5 xc2 w5 hown hgrow hat hlt5
        have h5 := HA0.out.appended hown hgrow (hat.imp (fun h => h) (fun h => by simp; omega))
        have HP2' : Hid (Own w w5 (ApR qa qb p na2 nb D2 (some ⟨g5, 0, none⟩) yo (nx + 1) xc2 ny yc (va ++ [.slice vo n vc]) vb)) := Lib.hid (h5.ac (by unfold ApR; ac_rfl))
        clear hown hgrow hat hlt5 h5 HA0 HRW hi0 hz0 hz1 hz2 dz
        go_upto_region 16 with fail
        obtain ⟨A2, hA2⟩ : ∃ x, x = A ++ [xs] := ⟨_, rfl⟩
        obtain ⟨va2, hva2⟩ : ∃ x, x = va ++ [Value.slice vo n vc] := ⟨_, rfl⟩
        obtain ⟨nx2, hnx2'⟩ : ∃ x, x = nx + 1 := ⟨_, rfl⟩
        obtain ⟨xo2, hxo2⟩ : ∃ x : Option Addr, x = some ⟨g5, 0, none⟩ := ⟨_, rfl⟩
        rw [← hA2] at HI3 HRS
        rw [← hva2] at HRS HP2'
        rw [← hnx2', ← hxo2] at HP2' ⊢
        have HI2 : Hid (ApI D2 na2 nb A2 B (64 * k + 32) ∧ Reads w va2 A2 ∧ Reads w vb B ∧ nx2 = A2.length) := Lib.hid ⟨HI3.out, HRS.out, HRB.out, by rw [hnx2', hA2, HNX.out]; simp⟩
        have HP2 := HP2'
        have hnx2 : nx2 ≤ 32 := by rw [HI2.out.2.2.2]; exact HI2.out.1.la
        clear HI3 HRS HRB HP2' hA2 hva2 hnx2' hxo2 HNX hnx32 HSL HNN HDX i1 i3 h3 dx
      case' inr =>
        have HP3 : Hid (Own w w4 (ApR qa qb p na nb D xo yo nx xc ny yc va vb)) := Lib.hid h4
        clear h4 hful
        go_upto_region 16 with fail
        obtain ⟨na2, rfl⟩ : ∃ x, x = na := ⟨_, rfl⟩
        obtain ⟨D2, rfl⟩ : ∃ x, x = D := ⟨_, rfl⟩
        obtain ⟨A2, rfl⟩ : ∃ x, x = A := ⟨_, rfl⟩
        obtain ⟨nx2, rfl⟩ : ∃ x, x = nx := ⟨_, rfl⟩
        obtain ⟨xo2, rfl⟩ : ∃ x, x = xo := ⟨_, rfl⟩
        obtain ⟨xc2, rfl⟩ : ∃ x, x = xc := ⟨_, rfl⟩
        obtain ⟨va2, rfl⟩ : ∃ x, x = va := ⟨_, rfl⟩
        have HI2 : Hid (ApI D2 na2 nb A2 B (64 * k + 32) ∧ Reads w va2 A2 ∧ Reads w vb B ∧ nx2 = A2.length) := Lib.hid ⟨HI.out.1.more (by omega), HI.out.2.1, HI.out.2.2, HNX.out⟩
        have HP2 := HP3
        have hnx2 : nx2 ≤ 32 := hnx32
        clear HI HP3 HNX hnx32 HSL HNN HDX i1 i3 h3 dx
      all_goals
        rcases HSEC.out with h1 | ⟨g6, o6, vo6, vc6, ys, m, hlt6, rfl, dx6, hsl6, hm6, hvc6, h36⟩ | ⟨g6, o6, vo6, vc6, ys, m, hlt6, rfl, dx6, hsl6, hm6, hvc6, h36⟩
        · have i1 : ¬ (k : Int) < (ks.length : Int) := by omega
          have HFN : Hid (ApI D2 na2 nb A2 B (64 * (k + 1)) ∧ Reads w va2 A2 ∧ Reads w vb B) := Lib.hid ⟨HI2.out.1.more (by omega), HI2.out.2.1, HI2.out.2.2.1⟩
          have HPF : Hid (Own w _ (ApR qa qb p na2 nb D2 xo2 yo A2.length xc2 B.length yc va2 vb)) := Lib.hid (by have := HP2.out; rw [HNY.out, HI2.out.2.2.2] at this; exact this)
          rw [HI2.out.2.2.2, HNY.out]
          clear HI2 HP2 HSEC h1 hnx2 hny32
          go_wp2_with fail
          go_roundw
          case rel => exact ⟨k + 1, na2, nb, D2, A2, B, xo2, yo, xc2, yc, va2, vb, HLT.out, by go_num, rfl, rfl, HFN, HPF⟩
          case measure => have := HLT.out; simp [intOf]; omega
        · have i1 : (k : Int) < (ks.length : Int) := by omega
          have i3 : ¬ (m : Int) < 300 := by omega
          have dy := HP2.out.only.cellq dx6
          have HFN : Hid (ApI D2 na2 nb A2 B (64 * (k + 1)) ∧ Reads w va2 A2 ∧ Reads w vb B) := Lib.hid ⟨HI2.out.1.more (by omega), HI2.out.2.1, HI2.out.2.2.1⟩
          have HPF : Hid (Own w _ (ApR qa qb p na2 nb D2 xo2 yo A2.length xc2 B.length yc va2 vb)) := Lib.hid (by have := HP2.out; rw [HNY.out, HI2.out.2.2.2] at this; exact this)
          rw [HI2.out.2.2.2, HNY.out]
          clear HI2 HP2 HSEC hnx2 hny32 hsl6 hm6 hvc6 h36 hlt6 dx6
          go_wp2_with fail
          go_roundw
          case rel => exact ⟨k + 1, na2, nb, D2, A2, B, xo2, yo, xc2, yc, va2, vb, HLT.out, by go_num, rfl, rfl, HFN, HPF⟩
          case measure => have := HLT.out; simp [intOf]; omega
        · have i1 : (k : Int) < (ks.length : Int) := by omega
          have i3 : (m : Int) < 300 := by omega
          have dy := HP2.out.only.cellq dx6
          have hq2 : Own w _ (Sep (WLogR qb p 32 32 1 7 nb) (Sep (DiskR p D2) (Sep (WLogR qa p 0 32 1 1 na2) (Sep (RowV 48 1 (.slice xo2 nx2 xc2) nx2 va2) (Sep (RowV 48 1 (.slice yo ny yc) ny vb) Emp))))) := HP2.out.ac (by unfold ApR; ac_rfl)
          have HAP := Lib.hid (own_append_dec hq2 HI2.out.1.b (by have := HLT.out; omega) (by decide) (by decide) vo6 m vc6 ys hm6 hvc6 (hv_arg hsl6) (by omega))
          have HSL := Lib.hid hsl6
          have HNN := Lib.hid hm6
          have HDX := Lib.hid dx6
          clear hsl6 hm6 hvc6 hlt6 HP2 hq2
          go_wp2_with fail
          refine HAP.out.mono ?_
          clear dy HAP
          intro e w6 hres
          rcases hres with ⟨hfit, rfl, hL', h4⟩ | ⟨hful, rfl, h4⟩
          · have hI2 := HI2.out.1.appB (by rw [← HNN.out]; exact hfit) (by rw [← HNN.out]; exact hL')
            rw [← HNN.out] at hI2
            have HRS : Hid (Reads w (vb ++ [.slice vo6 m vc6]) (B ++ [ys])) := Lib.hid (HI2.out.2.2.1.snoc HSL.out)
            obtain ⟨D3, hD3⟩ : ∃ x, x = D2.app 32 32 1 nb ys (cntN m) := ⟨_, rfl⟩
            obtain ⟨nb3, hnb3⟩ : ∃ x, x = nb + cntN m := ⟨_, rfl⟩
            rw [← hD3, ← hnb3] at hI2 h4
            have HI3 := Lib.hid hI2
            have HRA := Lib.hid HI2.out.2.1
            have HNX2 := Lib.hid HI2.out.2.2.2
            have h4q : Own w w6 (Sep (RowV 48 1 (.slice yo ny yc) ny vb) (Sep (WLogR qb p 32 32 1 7 nb3) (Sep (DiskR p D3) (Sep (WLogR qa p 0 32 1 1 na2) (Sep (RowV 48 1 (.slice xo2 nx2 xc2) nx2 va2) Emp))))) := h4.ac (by ac_rfl)
            have dz := h4q.only.cellq HDX.out
            obtain ⟨i0, hi0, hz0, hz1, hz2⟩ := info_parts Try.infoSlB
            have HRW := Lib.hid (h4q.owns.alloc (.cells #[.slice vo6 m vc6] 48))
            have HA0 := Lib.hid ((h4q.alloc (.cells #[.slice vo6 m vc6] 48)).snd)
            clear h4 h4q hL' hD3 hnb3 hI2 HI2 hfit
            go_wp2_with (first | (at_builtin; refine wpList_append_lies _ rfl (.tmp 107) (.tmp 112) 62 rfl 0 48 i0 _ 1 24 Try.underlying62 hi0 hz0 hz1 hz2 rfl (by decide) (.slice yo ny yc) ny vb rfl HRW.out ⟨w6.heap.size, 0, none⟩ 1 1 [.slice vo6 m vc6] rfl rfl (World.news_of_block (heap_alloc_new w6 _)) (by intro u hu; rw [List.mem_singleton.1 hu]; rfl) Nat.zero_lt_one (by unfold maxLen; omega) (by omega) (Nat.zero_le _) (w6.heap.size + 1) (by simp) ?_))
            intro g7 yc2 w7 hown hgrow hat hlt7
            have h5 := HA0.out.appended hown hgrow (hat.imp (fun h => h) (fun h => by simp; omega))
            have HPF : Hid (Own w w7 (ApR qa qb p na2 nb3 D3 xo2 (some ⟨g7, 0, none⟩) A2.length xc2 (B ++ [ys]).length yc2 va2 (vb ++ [.slice vo6 m vc6]))) := Lib.hid (by
              have h6 := h5.ac (J := ApR qa qb p na2 nb3 D3 xo2 (some ⟨g7, 0, none⟩) nx2 xc2 (ny + 1) yc2 va2 (vb ++ [.slice vo6 m vc6])) (by unfold ApR; ac_rfl)
              rw [HNX2.out, HNY.out] at h6
              rw [List.length_append]
              exact h6)
            have HFN : Hid (ApI D3 na2 nb3 A2 (B ++ [ys]) (64 * (k + 1)) ∧ Reads w va2 A2 ∧ Reads w (vb ++ [.slice vo6 m vc6]) (B ++ [ys])) := Lib.hid ⟨HI3.out.more (by omega), HRA.out, HRS.out⟩
            clear hown hgrow hat hlt7 h5 HA0 HRW hi0 hz0 hz1 hz2 dz HI3 HRA HRS HSL HNN HDX
            go_wp2_with fail
            go_roundw
            case rel => exact ⟨k + 1, na2, nb3, D3, A2, B ++ [ys], xo2, some ⟨g7, 0, none⟩, xc2, yc2, va2, vb ++ [.slice vo6 m vc6], HLT.out, by go_num, by rw [HNX2.out], by rw [List.length_append, HNY.out]; rfl, HFN, HPF⟩
            case measure => have := HLT.out; simp [intOf]; omega
          · have HPF : Hid (Own w w6 (ApR qa qb p na2 nb D2 xo2 yo A2.length xc2 B.length yc va2 vb)) := Lib.hid (by
              have h6 := h4.ac (J := ApR qa qb p na2 nb D2 xo2 yo nx2 xc2 ny yc va2 vb) (by unfold ApR; ac_rfl)
              rw [HI2.out.2.2.2, HNY.out] at h6
              exact h6)
            have HFN : Hid (ApI D2 na2 nb A2 B (64 * (k + 1)) ∧ Reads w va2 A2 ∧ Reads w vb B) := Lib.hid ⟨HI2.out.1.more (by omega), HI2.out.2.1, HI2.out.2.2.1⟩
            have HNX2 := Lib.hid HI2.out.2.2.2
            clear h4 hful HI2 HSL HNN HDX
            go_wp2_with fail
            go_roundw
            case rel => exact ⟨k + 1, na2, nb, D2, A2, B, xo2, yo, xc2, yc, va2, vb, HLT.out, by go_num, by rw [HNX2.out], by rw [HNY.out], HFN, HPF⟩
            case measure => have := HLT.out; simp [intOf]; omega
    · have hltI : ¬ (k : Int) < 20 := by omega
      obtain ⟨nx, hnx⟩ : ∃ nx, nx = A.length := ⟨_, rfl⟩
      obtain ⟨ny, hny⟩ : ∃ ny, ny = B.length := ⟨_, rfl⟩
      have hk20 : k = 20 := by omega
      rw [← hnx, ← hny] at HP ⊢
      obtain ⟨ra, hra⟩ : ∃ r, r = recsAt 1 (tagM 1 A) := ⟨_, rfl⟩
      obtain ⟨rb, hrb⟩ : ∃ r, r = recsAt 7 (tagM 1 B) := ⟨_, rfl⟩
      have hla : nx = ra.length := by rw [hra, recsAt_length, hnx]; simp [tagM]
      have hlb : ny = rb.length := by rw [hrb, recsAt_length, hny]; simp [tagM]
      have hfa : D.found 0 32 1 2 1 = ra := by rw [hra]; exact HI.out.1.a.found (by decide) (by decide)
      have hfb : D.found 32 32 1 2 7 = rb := by rw [hrb]; exact HI.out.1.b.found (by decide) (by decide)
      have HRA : Hid (∀ i, i < nx → (ra.getD i (0, 0, [])).2.2 = A.getD i []) := Lib.hid fun i hi => by rw [hra]; exact recsAt_data A 1 1 i (by omega)
      have HRB : Hid (∀ i, i < ny → (rb.getD i (0, 0, [])).2.2 = B.getD i []) := Lib.hid fun i hi => by rw [hrb]; exact recsAt_data B 7 1 i (by omega)
      have hnx32 : nx ≤ 32 := by rw [hnx]; exact HI.out.1.la
      have hny32 : ny ≤ 32 := by rw [hny]; exact HI.out.1.lb
      have HO1 := Lib.hid (own_open (HP.out.ac (J := Sep (DiskR p D) (Sep (WLogR qa p 0 32 1 1 na) (Sep (WLogR qb p 32 32 1 7 nb) (Sep (RowV 48 1 (.slice xo nx xc) nx va) (Sep (RowV 48 1 (.slice yo ny yc) ny vb) Emp))))) (by unfold ApR; ac_rfl)) 0 32 1 2 1 (by decide) (by decide) (by rw [HI.out.1.n]; decide) (by decide) (by decide) (by decide) (by decide))
      rw [hfa] at HO1
      have HFB := Lib.hid hfb
      have HLA := Lib.hid hla
      have HLB := Lib.hid hlb
      have HNX := Lib.hid hnx
      have HNY := Lib.hid hny
      have HDN := Lib.hid HI.out.1.n
      have HVA := Lib.hid HI.out.2.1
      have HVB := Lib.hid HI.out.2.2
      clear hnx hny hra hrb hla hlb hfa hfb HP HI hlt hk hk20
      go_wp2_with fail
      refine HO1.out.mono ?_
      rintro e w4 ⟨q3, v3, rfl, h4⟩
      obtain ⟨po, pc, hv3⟩ := RecsR.shape h4.snd
      rw [← HLA.out] at hv3
      subst hv3
      have HO2 := Lib.hid (own_open (h4.ac (J := Sep (DiskR p D) (Sep (RecsR 68 (.slice po nx pc) ra) (Sep (WLogR q3 p 0 32 2 1 (nextOf 1 ra)) (Sep (WLogR qa p 0 32 1 1 na) (Sep (WLogR qb p 32 32 1 7 nb) (Sep (RowV 48 1 (.slice xo nx xc) nx va) (Sep (RowV 48 1 (.slice yo ny yc) ny vb) Emp))))))) (by ac_rfl)) 32 32 1 2 7 (by decide) (by decide) (by rw [HDN.out]; decide) (by decide) (by decide) (by decide) (by decide))
      rw [HFB.out] at HO2
      clear h4 HO1
      go_wp2_with fail
      refine HO2.out.mono ?_
      rintro e w5 ⟨q4, v4, rfl, h5⟩
      obtain ⟨qo, qc, hv4⟩ := RecsR.shape h5.snd
      rw [← HLB.out] at hv4
      subst hv4
      have H5 : Hid (Own w w5 (Sep (RecsR 68 (.slice po nx pc) ra) (Sep (RecsR 68 (.slice qo ny qc) rb) (Sep (RowV 48 1 (.slice xo nx xc) nx va) (Sep (RowV 48 1 (.slice yo ny yc) ny vb) (Sep (DiskR p D) (Sep (WLogR q3 p 0 32 2 1 (nextOf 1 ra)) (Sep (WLogR q4 p 32 32 2 7 (nextOf 7 rb)) (Sep (WLogR qa p 0 32 1 1 na) (Sep (WLogR qb p 32 32 1 7 nb) Emp)))))))))) := Lib.hid (h5.ac (by ac_rfl))
      have m1 : ((nx : Int) != (nx : Int)) = false := by simp
      have m2 : ((ny : Int) != (ny : Int)) = false := by simp
      clear h5 HO2
      go_wp2_with fail
      clear m1 m2
      go_loopw [24] (fun i wr => ∃ j : Nat, j ≤ nx ∧ i = .int .i64 j ∧ Hid (Own w wr (Sep (RecsR 68 (.slice po nx pc) ra) (Sep (RecsR 68 (.slice qo ny qc) rb) (Sep (RowV 48 1 (.slice xo nx xc) nx va) (Sep (RowV 48 1 (.slice yo ny yc) ny vb) (Sep (DiskR p D) (Sep (WLogR q3 p 0 32 2 1 (nextOf 1 ra)) (Sep (WLogR q4 p 32 32 2 7 (nextOf 7 rb)) (Sep (WLogR qa p 0 32 1 1 na) (Sep (WLogR qb p 32 32 1 7 nb) Emp))))))))))) (fun i _ => nx - (intOf i).toNat)
      case atStart => exact ⟨0, Nat.zero_le _, rfl, H5⟩
      case round =>
        clear H5
        obtain ⟨j, hj, rfl, HQ⟩ := hrel
        by_cases hlt : j < nx
        · have hltI : (j : Int) < (nx : Int) := by omega
          have hj0 : (0 : Int) ≤ (j : Int) := by omega
          obtain ⟨g1, a1, hpo, _, _, d2, s1⟩ := rec_cells HLA.out HQ.out (k := j) (by have := HLA.out; omega)
          subst hpo
          have hvl : va.length = nx := by rw [HVA.out.len]; first | exact HNX.out.symm | exact HNY.out.symm
          obtain ⟨u, hu⟩ : ∃ u, va[j]? = some u := ⟨va[j]'(by omega), List.getElem?_eq_getElem _⟩
          obtain ⟨g2, hxo, x2, _⟩ := rowV_cell HQ.out.snd.snd.owns hu
          subst hxo
          have s2 : SlC wr u (A.getD j []) := by
            have := (HVA.out.sl j (by first | (rw [← HNX.out]; exact hlt) | (rw [← HNY.out]; exact hlt))).keep HQ.out.only
            rwa [List.getD_eq_getElem?_getD (l := va), hu] at this
          rw [HRA.out j hlt] at s1
          obtain ⟨S, hS⟩ : ∃ S : ByteArray, S = ⟨(A.getD j []).toArray⟩ := ⟨_, rfl⟩
          have cv1 : ∀ q, (convert 48 9 a1).run Try.prog (wr.drewN q) = .ok (.string S) (wr.drewN q) := fun q => by rw [hS]; exact run_strC (s1.keep ((Only.refl _ wr).drewN q))
          have cv2 : ∀ q, (convert 48 9 u).run Try.prog (wr.drewN q) = .ok (.string S) (wr.drewN q) := fun q => by rw [hS]; exact run_strC (s2.keep ((Only.refl _ wr).drewN q))
          have cv3 := cv1 0
          have cv4 := cv2 0
          obtain ⟨y1, z1, hsh1⟩ := s1.shape
          obtain ⟨y2, z2, hsh2⟩ := s2.shape
          have HLT := Lib.hid hlt
          have HQD := Lib.hid (fun nq => HQ.out.drewN nq)
          clear hu hS s1 s2 HQ hlt hj hsh1 hsh2 hvl
          go_wp2_with fail
          go_quiet (fail)
          have HQN := Lib.hid (HQD.out nq)
          clear d2 x2 cv1 cv2 cv3 cv4 HQD
          go_wp2_with fail
          go_roundw
          case rel => exact ⟨j + 1, HLT.out, by go_num, HQN⟩
          case measure => have := HLT.out; simp [intOf]; omega
        · have hltI : ¬ (j : Int) < (nx : Int) := by omega
          have H5 := HQ
          clear HQ hlt hj
          go_wp2_with fail
          go_loopw [25] (fun i wr => ∃ j : Nat, j ≤ ny ∧ i = .int .i64 j ∧ Hid (Own w wr (Sep (RecsR 68 (.slice po nx pc) ra) (Sep (RecsR 68 (.slice qo ny qc) rb) (Sep (RowV 48 1 (.slice xo nx xc) nx va) (Sep (RowV 48 1 (.slice yo ny yc) ny vb) (Sep (DiskR p D) (Sep (WLogR q3 p 0 32 2 1 (nextOf 1 ra)) (Sep (WLogR q4 p 32 32 2 7 (nextOf 7 rb)) (Sep (WLogR qa p 0 32 1 1 na) (Sep (WLogR qb p 32 32 1 7 nb) Emp))))))))))) (fun i _ => ny - (intOf i).toNat)
          case atStart => exact ⟨0, Nat.zero_le _, rfl, H5⟩
          case round =>
            clear H5
            obtain ⟨j, hj, rfl, HQ⟩ := hrel
            by_cases hlt : j < ny
            · have hltI : (j : Int) < (ny : Int) := by omega
              have hj0 : (0 : Int) ≤ (j : Int) := by omega
              obtain ⟨g1, a1, hpo, _, _, d2, s1⟩ := rec_cells HLB.out HQ.out.snd (k := j) (by have := HLB.out; omega)
              subst hpo
              have hvl : vb.length = ny := by rw [HVB.out.len]; first | exact HNX.out.symm | exact HNY.out.symm
              obtain ⟨u, hu⟩ : ∃ u, vb[j]? = some u := ⟨vb[j]'(by omega), List.getElem?_eq_getElem _⟩
              obtain ⟨g2, hxo, x2, _⟩ := rowV_cell HQ.out.snd.snd.snd.owns hu
              subst hxo
              have s2 : SlC wr u (B.getD j []) := by
                have := (HVB.out.sl j (by first | (rw [← HNX.out]; exact hlt) | (rw [← HNY.out]; exact hlt))).keep HQ.out.only
                rwa [List.getD_eq_getElem?_getD (l := vb), hu] at this
              rw [HRB.out j hlt] at s1
              obtain ⟨S, hS⟩ : ∃ S : ByteArray, S = ⟨(B.getD j []).toArray⟩ := ⟨_, rfl⟩
              have cv1 : ∀ q, (convert 48 9 a1).run Try.prog (wr.drewN q) = .ok (.string S) (wr.drewN q) := fun q => by rw [hS]; exact run_strC (s1.keep ((Only.refl _ wr).drewN q))
              have cv2 : ∀ q, (convert 48 9 u).run Try.prog (wr.drewN q) = .ok (.string S) (wr.drewN q) := fun q => by rw [hS]; exact run_strC (s2.keep ((Only.refl _ wr).drewN q))
              have cv3 := cv1 0
              have cv4 := cv2 0
              obtain ⟨y1, z1, hsh1⟩ := s1.shape
              obtain ⟨y2, z2, hsh2⟩ := s2.shape
              have HLT := Lib.hid hlt
              have HQD := Lib.hid (fun nq => HQ.out.drewN nq)
              clear hu hS s1 s2 HQ hlt hj hsh1 hsh2 hvl
              go_wp2_with fail
              go_quiet (fail)
              have HQN := Lib.hid (HQD.out nq)
              clear d2 x2 cv1 cv2 cv3 cv4 HQD
              go_wp2_with fail
              go_roundw
              case rel => exact ⟨j + 1, HLT.out, by go_num, HQN⟩
              case measure => have := HLT.out; simp [intOf]; omega
            · have hltI : ¬ (j : Int) < (ny : Int) := by omega
              have HF := Lib.hid HQ.out.only
              clear HQ hlt hj
              go_wp2_with fail
              go_ret
              exact ⟨rfl, HF.out⟩

end Go.Proofs.Ytoldkhdobdlmfaa
