/-
  The document's own answers for the log: Open.
-/
import Derived.Test.YtbimhiffcdhcaaaWal12
namespace Go.Proofs.Ytbimhiffcdhcaaa
open Go Go.RowKit Go.Lib
set_option linter.unusedVariables false
set_option linter.unusedSimpArgs false
set_option maxRecDepth 100000

theorem Try.infoRrec : (Try.prog.info? 88).map (fun i => (i.zero, i.size)) = some (some (.agg #[.int .u64 0, .int .u64 0, .slice none 0 0]), 3) := by kernel_rfl
theorem Try.infoRrec3 : (Try.prog.info? 88).map (fun i => (i.zero, i.size, i.bytes)) = some (some (.agg #[.int .u64 0, .int .u64 0, .slice none 0 0]), 3, 40) := by kernel_rfl

/-- Open's arguments are refused. -/
def OpenBad (n : Nat) (base size : Int) (least M head : Nat) : Prop := base < 0 ∨ size < 4 ∨ (n : Int) < size ∨ (n : Int) - size < base ∨ least = 0 ∨ M < least ∨ head = 0 ∨ 4611686018427387904 < head

/-- What the head of a sector says is right. -/
structure HeadOk (b : List UInt8) (last M : Nat) (bg : Bool) : Prop where
  n : wN b ≤ 50
  l : last ≤ (secPc b).m
  m : (secPc b).m ≤ M
  g : bg = true ∨ (secPc b).m = last
  f : wF b ≤ 3
  o : wF b % 2 = 1 ↔ bg = true
  u : 2 ≤ wF b ∨ wN b = 50
  z : wF b = 3 ∨ 0 < wN b
theorem secPc_dl {b : List UInt8} (hb : b.length = 64) (h : wN b ≤ 50) : (secPc b).d.length = wN b := by rw [secPc_d]; simp; omega
theorem rdP_back {s : Nat} {b : List UInt8} {x : Pc} (h : rdP s b = some x) : x = secPc b ∧ wN b = x.d.length ∧ wN b ≤ 50 ∧ b = pad (pcB s (secPc b)) := by
  unfold rdP at h
  by_cases hc : s < 18446744073709551616 ∧ (secPc b).d.length ≤ 50 ∧ b = pad (pcB s (secPc b))
  · rw [if_pos hc] at h
    simp at h
    obtain ⟨_, h2, h3⟩ := hc
    obtain ⟨p1, _⟩ := pad_parts s (secPc b) (secPc_ok h2)
    rw [← h3] at p1
    exact ⟨h.symm, by rw [← h]; exact p1, by omega, h3⟩
  · rw [if_neg hc] at h; cases h
theorem wAll_stop {N : List UInt8} {base size M fuel s last fr : Nat} {bg : Bool} {data b : List UInt8} (hb : b = sec N (ringS base size s)) (h : ¬ (HeadOk b last M bg ∧ b = pad (pcB s (secPc b)))) : wAll (lookP N base size) M (fuel + 1) s last bg fr data = [] := by
  rw [wAll_succ]
  have e : lookP N base size s = rdP s b := by rw [hb]; rfl
  rw [e]
  cases hr : rdP s b with
  | none => rfl
  | some x =>
    obtain ⟨h1, h2, h3, h4⟩ := rdP_back hr
    simp only
    cases hf : x.fits last M bg with
    | false => rfl
    | true =>
      exfalso
      obtain ⟨a1, a2, a3, a4, a5, a6, a7, a8⟩ := Pc.fits_iff.1 hf
      subst h1
      rw [← h2] at a6 a7 a8
      exact h ⟨⟨h3, a1, a2, a3, a4, a5, a6, a8⟩, h4⟩
theorem wAll_go {N : List UInt8} {base size M fuel s last fr : Nat} {bg : Bool} {data b : List UInt8} (hb : b = sec N (ringS base size s)) (hl : b.length = 64) (hs : s < 18446744073709551616) (h : HeadOk b last M bg) (he : b = pad (pcB s (secPc b))) :
    wAll (lookP N base size) M (fuel + 1) s last bg fr data = if 2 ≤ wF b then if (data ++ (b.drop 14).take (wN b)).length ≤ 32768 then (fr, s + 1, data ++ (b.drop 14).take (wN b)) :: wAll (lookP N base size) M fuel (s + 1) (secPc b).m true (s + 1) [] else [] else wAll (lookP N base size) M fuel (s + 1) (secPc b).m false fr (data ++ (b.drop 14).take (wN b)) := by
  rw [wAll_succ]
  have e : lookP N base size s = rdP s b := by rw [hb]; rfl
  have hd := secPc_dl hl h.n
  have hr : rdP s b = some (secPc b) := by unfold rdP; rw [if_pos ⟨hs, by rw [hd]; exact h.n, he⟩]
  have hf : (secPc b).fits last M bg = true := Pc.fits_iff.2 ⟨h.l, h.m, h.g, h.f, h.o, by rw [hd]; exact h.u, by rw [hd]; exact h.n, by rw [hd]; exact h.z⟩
  rw [e, hr]
  simp only [hf, if_true]
  rfl
theorem nextOf_snoc (h : Nat) (rs : List RecT) (a t : Nat) (xs : List UInt8) : nextOf h (rs ++ [(a, t, xs)]) = t := by
  unfold nextOf
  rw [if_neg (by simp)]
  simp [List.getD_eq_getElem?_getD]
theorem ropen_fin {w0 w : World} {q r base size M head fr n : Nat} {v dv : Value} {D : DS} {rs R : List RecT} {vs : List Value} {data : List UInt8} {J : Res} [Stab J] (hn : n = rs.length) (hf : fr = nextOf head rs) (hR : R = rs)
    (h : Own w0 w (Sep (RowV 88 3 v n (recCells rs vs)) (Sep (DatR vs rs) (Sep (OwnB dv data) (Sep (RLogR q r base size M head fr) (Sep (RefR r D) J)))))) :
    Own w0 w (Sep (RLogR q r base size M head (nextOf head R)) (Sep (RecsR 88 v R) (Sep (RefR r D) J))) := by
  subst hR hf
  have h1 : Own w0 w (Sep (OwnB dv data) (Sep (Sep (RowV 88 3 v n (recCells R vs)) (DatR vs R)) (Sep (RLogR q r base size M head (nextOf head R)) (Sep (RefR r D) J)))) := h.ac (by ac_rfl)
  exact (Own.recs hn h1.snd).ac (by ac_rfl)

set_option maxRecDepth 100000 in
set_option maxHeartbeats 4000000 in
theorem ropen_bad {w0 w : World} {r : Nat} {D : DS} {J : Res} [Stab J] (h : Own w0 w (Sep (RefR r D) J)) (base size : Int) (hsz : size ≤ 9223372036854775807) (least M head : Nat) (hb : OpenBad D.n base size least M head) (h4 : D.n ≤ 4096) :
    Calls Try.prog 15 #[.pointer (some ⟨r, 0, none⟩), .int .i64 base, .int .i64 size, .int .u32 least, .int .u32 M, .int .u64 head] w fun e w' => e = .returned (.tuple #[.pointer none, .slice none 0 0, .int .i64 1]) ∧ w = w' := by
  obtain ⟨gk, gs, ck, cs, vw, f, kb, sb, wb, hR⟩ := h.ref
  have r1 := hR.cell 1
  simp at r1
  obtain ⟨zn, hzn⟩ : ∃ zn : Int, zn = (D.n : Int) := ⟨_, rfl⟩
  obtain ⟨zl, hzl⟩ : ∃ zn : Int, zn = (least : Int) := ⟨_, rfl⟩
  obtain ⟨zm, hzm⟩ : ∃ zn : Int, zn = (M : Int) := ⟨_, rfl⟩
  obtain ⟨zh, hzh⟩ : ∃ zn : Int, zn = (head : Int) := ⟨_, rfl⟩
  obtain ⟨nn, hnn⟩ : ∃ n, n = D.n := ⟨_, rfl⟩
  rw [← hnn] at r1 hzn h4
  unfold OpenBad at hb
  rw [← hnn] at hb
  rw [← hzl, ← hzm, ← hzh]
  clear h hR
  by_cases c0 : base < 0
  · have b0 : decide (base < 0) = true := by simpa using c0
    clear hb
    clear hzl hzm hzh hnn
    subst hzn
    go_enter Try.func15, Try.ntmps15
    go_wp2_with fail
    refine bodyPost_ret (v := .tuple #[.pointer none, .slice none 0 0, .int .i64 1]) (by simp [results, Try.results15, go_sem]) rfl ?_
    exact ⟨rfl, rfl⟩
  have b0 : decide (base < 0) = false := by simpa using c0
  by_cases c1 : size < 4
  · have b1 : decide (size < 4) = true := by simpa using c1
    clear hb
    clear hzl hzm hzh hnn
    subst hzn
    go_enter Try.func15, Try.ntmps15
    go_wp2_with fail
    refine bodyPost_ret (v := .tuple #[.pointer none, .slice none 0 0, .int .i64 1]) (by simp [results, Try.results15, go_sem]) rfl ?_
    exact ⟨rfl, rfl⟩
  have b1 : decide (size < 4) = false := by simpa using c1
  by_cases c2 : zn < size
  · have b2 : decide (zn < size) = true := by simpa using c2
    clear hb
    clear hzl hzm hzh hnn
    subst hzn
    go_enter Try.func15, Try.ntmps15
    go_wp2_with fail
    refine bodyPost_ret (v := .tuple #[.pointer none, .slice none 0 0, .int .i64 1]) (by simp [results, Try.results15, go_sem]) rfl ?_
    exact ⟨rfl, rfl⟩
  have b2 : decide (zn < size) = false := by simpa using c2
  obtain ⟨zd, hzd⟩ : ∃ z : Int, z = zn - size := ⟨_, rfl⟩
  have e3 : IntKind.i64.wrap (zn - size) = zd := by rw [IntWalk.i64_in _ (by omega)]; exact hzd.symm
  by_cases c3 : zd < base
  · have b3 : decide (zd < base) = true := by simpa using c3
    clear hb
    clear hzl hzm hzh hnn
    subst hzn
    go_enter Try.func15, Try.ntmps15
    go_wp2_with fail
    refine bodyPost_ret (v := .tuple #[.pointer none, .slice none 0 0, .int .i64 1]) (by simp [results, Try.results15, go_sem]) rfl ?_
    exact ⟨rfl, rfl⟩
  have b3 : decide (zd < base) = false := by simpa using c3
  by_cases c4 : zl = 0
  · have b4 : (zl == 0) = true := by simpa using c4
    clear hb
    clear hzl hzm hzh hnn
    subst hzn
    go_enter Try.func15, Try.ntmps15
    go_wp2_with fail
    refine bodyPost_ret (v := .tuple #[.pointer none, .slice none 0 0, .int .i64 1]) (by simp [results, Try.results15, go_sem]) rfl ?_
    exact ⟨rfl, rfl⟩
  have b4 : (zl == 0) = false := by simpa using c4
  by_cases c5 : zm < zl
  · have b5 : decide (zm < zl) = true := by simpa using c5
    clear hb
    clear hzl hzm hzh hnn
    subst hzn
    go_enter Try.func15, Try.ntmps15
    go_wp2_with fail
    refine bodyPost_ret (v := .tuple #[.pointer none, .slice none 0 0, .int .i64 1]) (by simp [results, Try.results15, go_sem]) rfl ?_
    exact ⟨rfl, rfl⟩
  have b5 : decide (zm < zl) = false := by simpa using c5
  by_cases c6 : zh = 0
  · have b6 : (zh == 0) = true := by simpa using c6
    clear hb
    clear hzl hzm hzh hnn
    subst hzn
    go_enter Try.func15, Try.ntmps15
    go_wp2_with fail
    refine bodyPost_ret (v := .tuple #[.pointer none, .slice none 0 0, .int .i64 1]) (by simp [results, Try.results15, go_sem]) rfl ?_
    exact ⟨rfl, rfl⟩
  have b6 : (zh == 0) = false := by simpa using c6
  · have c7 : (4611686018427387904 : Int) < zh := by
      rcases hb with h | h | h | h | h | h | h | h <;> omega
    have b7 : decide ((4611686018427387904 : Int) < zh) = true := by simpa using c7
    clear hb
    clear hzl hzm hzh hnn
    subst hzn
    go_enter Try.func15, Try.ntmps15
    go_wp2_with fail
    refine bodyPost_ret (v := .tuple #[.pointer none, .slice none 0 0, .int .i64 1]) (by simp [results, Try.results15, go_sem]) rfl ?_
    exact ⟨rfl, rfl⟩

set_option maxRecDepth 100000 in
set_option maxHeartbeats 4000000 in
theorem wopen_bad {w0 w : World} {p : Nat} {D : DS} {J : Res} [Stab J] (h : Own w0 w (Sep (DiskR p D) J)) (base size : Int) (hsz : size ≤ 9223372036854775807) (least M head : Nat) (hb : OpenBad D.n base size least M head) :
    Calls Try.prog 14 #[.pointer (some ⟨p, 0, none⟩), .int .i64 base, .int .i64 size, .int .u32 least, .int .u32 M, .int .u64 head] w fun e w' => e = .returned (.tuple #[.pointer none, .slice none 0 0, .int .i64 1]) ∧ w = w' := by
  obtain ⟨gn, gk, vw, hD⟩ := h.disk
  have HSZ := Lib.hid (disk_size hD)
  have h4 := hD.ok.n
  obtain ⟨zn, hzn⟩ : ∃ zn : Int, zn = (D.n : Int) := ⟨_, rfl⟩
  obtain ⟨zl, hzl⟩ : ∃ zn : Int, zn = (least : Int) := ⟨_, rfl⟩
  obtain ⟨zm, hzm⟩ : ∃ zn : Int, zn = (M : Int) := ⟨_, rfl⟩
  obtain ⟨zh, hzh⟩ : ∃ zn : Int, zn = (head : Int) := ⟨_, rfl⟩
  rw [← hzn] at HSZ
  unfold OpenBad at hb
  rw [← hzl, ← hzm, ← hzh]
  clear h hD
  obtain ⟨zd, hzd⟩ : ∃ z : Int, z = zn - size := ⟨_, rfl⟩
  by_cases c0 : base < 0
  · have b0 : decide (base < 0) = true := by simpa using c0
    clear hb
    clear hzl hzm hzh
    go_enter Try.func14, Try.ntmps14
    go_wp2_with fail
    refine bodyPost_ret (v := .tuple #[.pointer none, .slice none 0 0, .int .i64 1]) (by simp [results, Try.results14, go_sem]) rfl ?_
    exact ⟨rfl, rfl⟩
  have b0 : decide (base < 0) = false := by simpa using c0
  by_cases c1 : size < 4
  · have b1 : decide (size < 4) = true := by simpa using c1
    clear hb
    clear hzl hzm hzh
    go_enter Try.func14, Try.ntmps14
    go_wp2_with fail
    refine bodyPost_ret (v := .tuple #[.pointer none, .slice none 0 0, .int .i64 1]) (by simp [results, Try.results14, go_sem]) rfl ?_
    exact ⟨rfl, rfl⟩
  have b1 : decide (size < 4) = false := by simpa using c1
  have e3 : IntKind.i64.wrap (zn - size) = zd := by rw [IntWalk.i64_in _ (by omega)]; exact hzd.symm
  by_cases c3 : zd < base
  · have b3 : decide (zd < base) = true := by simpa using c3
    clear hb
    clear hzl hzm hzh
    go_enter Try.func14, Try.ntmps14
    go_wp2_with fail
    refine HSZ.out.mono ?_
    rintro e w' ⟨rfl, rfl⟩
    go_wp2_with fail
    refine bodyPost_ret (v := .tuple #[.pointer none, .slice none 0 0, .int .i64 1]) (by simp [results, Try.results14, go_sem]) rfl ?_
    exact ⟨rfl, rfl⟩
  have b3 : decide (zd < base) = false := by simpa using c3
  by_cases c4 : zl = 0
  · have b4 : (zl == 0) = true := by simpa using c4
    clear hb
    clear hzl hzm hzh
    go_enter Try.func14, Try.ntmps14
    go_wp2_with fail
    refine HSZ.out.mono ?_
    rintro e w' ⟨rfl, rfl⟩
    go_wp2_with fail
    refine bodyPost_ret (v := .tuple #[.pointer none, .slice none 0 0, .int .i64 1]) (by simp [results, Try.results14, go_sem]) rfl ?_
    exact ⟨rfl, rfl⟩
  have b4 : (zl == 0) = false := by simpa using c4
  by_cases c5 : zm < zl
  · have b5 : decide (zm < zl) = true := by simpa using c5
    clear hb
    clear hzl hzm hzh
    go_enter Try.func14, Try.ntmps14
    go_wp2_with fail
    refine HSZ.out.mono ?_
    rintro e w' ⟨rfl, rfl⟩
    go_wp2_with fail
    refine bodyPost_ret (v := .tuple #[.pointer none, .slice none 0 0, .int .i64 1]) (by simp [results, Try.results14, go_sem]) rfl ?_
    exact ⟨rfl, rfl⟩
  have b5 : decide (zm < zl) = false := by simpa using c5
  by_cases c6 : zh = 0
  · have b6 : (zh == 0) = true := by simpa using c6
    clear hb
    clear hzl hzm hzh
    go_enter Try.func14, Try.ntmps14
    go_wp2_with fail
    refine HSZ.out.mono ?_
    rintro e w' ⟨rfl, rfl⟩
    go_wp2_with fail
    refine bodyPost_ret (v := .tuple #[.pointer none, .slice none 0 0, .int .i64 1]) (by simp [results, Try.results14, go_sem]) rfl ?_
    exact ⟨rfl, rfl⟩
  have b6 : (zh == 0) = false := by simpa using c6
  · have c7 : (4611686018427387904 : Int) < zh := by
      rcases hb with h | h | h | h | h | h | h | h <;> omega
    have b7 : decide ((4611686018427387904 : Int) < zh) = true := by simpa using c7
    clear hb
    clear hzl hzm hzh
    go_enter Try.func14, Try.ntmps14
    go_wp2_with fail
    refine HSZ.out.mono ?_
    rintro e w' ⟨rfl, rfl⟩
    go_wp2_with fail
    refine bodyPost_ret (v := .tuple #[.pointer none, .slice none 0 0, .int .i64 1]) (by simp [results, Try.results14, go_sem]) rfl ?_
    exact ⟨rfl, rfl⟩

end Go.Proofs.Ytbimhiffcdhcaaa
