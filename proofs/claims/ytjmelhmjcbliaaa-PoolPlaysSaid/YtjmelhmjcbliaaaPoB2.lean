/-
  The reference's back: Load.
-/
import Derived.Test.YtjmelhmjcbliaaaPoB1
namespace Go.Proofs.Ytjmelhmjcbliaaa
open Go Go.RowKit
set_option linter.unusedVariables false
set_option linter.unusedSimpArgs false
set_option maxRecDepth 100000

theorem wrapU (x : Int) : IntKind.u64.wrap x = wu x := rfl
theorem wu_r (x : Int) : 0 ≤ wu x ∧ wu x < 18446744073709551616 := by unfold wu; omega
theorem BkOk.ask {b : Bk} {h : Hb} {hs : List Hd} (k : BkOk b h hs) (q : Int) {qo : Option Addr} {qc : Nat} (hq : Shp qo (b.ask q).asked.length qc) : BkOk (b.ask q) { h with qo := qo, qc := qc } hs :=
  ⟨k.n, k.m, k.si, k.sb, hq, k.f0, k.f1⟩
theorem Own.blk4c {w0 w : World} {b : Nat} {a0 a1 a2 a3 : Value} {t : TypeId} {J : Res} (h : Own w0 w (Sep (Blk b (.cells #[a0, a1, a2, a3] t)) J)) :
    (w.cell? ⟨b, 0, none⟩ = some a0 ∧ w.cell? ⟨b, 1, none⟩ = some a1 ∧ w.cell? ⟨b, 2, none⟩ = some a2 ∧ w.cell? ⟨b, 3, none⟩ = some a3) ∧ w.frozen? ⟨b, 0, none⟩ = false ∧ w.frozen? ⟨b, 1, none⟩ = false ∧ w.frozen? ⟨b, 2, none⟩ = false ∧ w.frozen? ⟨b, 3, none⟩ = false := by
  have := h.blkT
  simp [World.cell?, World.frozen?, this]
theorem Own.rowSlg {α : Type} [Cel α] [Inhabited α] {w0 w : World} {e : TypeId} {ao : Option Addr} {n c : Nat} {l : List α} {J : Res} (h : Own w0 w (Sep (RowG e (.slice ao n c) l) J)) : SlG w ao l := by
  obtain ⟨ao', cap, e1, h2, _⟩ := rowg_slg h.owns
  simp only [Value.slice.injEq] at e1
  rw [e1.1]
  exact h2
/-- A call that reads what stays. -/
theorem Own.jcall {w0 w : World} {J : Res} {P : Program} {f : FuncId} {args : Array Value} {Q : World → Ending → World → Prop} (h : Own w0 w J) (c : ∀ W F, J W F → Only (fun _ => False) w0 W → Calls P f args W (Q W)) : Calls P f args w (Q w) := by
  obtain ⟨F, h1, _, h3⟩ := h
  exact c w F h1 h3
/-- What Load leaves. -/
def LoadPost (w0 w' : World) (bb : Nat) (b : Bk) (id : Int) (J : Res) (e : Ending) : Prop :=
  (∃ x ao c, (b.load id).2 = some x ∧ x.length ≤ 140737488351232 ∧ e = .returned (.tuple #[.slice ao x.length c, .int .i64 0]) ∧ Own w0 w' (Sep (Fix fun w => SlC w (.slice ao x.length c) x) (Sep (BkR bb (b.load id).1) J)))
  ∨ ((b.load id).2 = none ∧ e = .returned (.tuple #[.slice none 0 0, .int .i64 2]) ∧ Own w0 w' (Sep (BkR bb (b.load id).1) J))
set_option maxHeartbeats 4000000 in
theorem bload_any {w0 w : World} {bb : Nat} {b : Bk} {J : Res} [Stab J] (h : Own w0 w (Sep (BkR bb b) J)) (id : Int) (hq : b.asked.length ≤ 1000000000) (hb : b.ids.length ≤ 1000000000) :
    Calls Try.prog 31 #[ptr bb, .int .u64 id] w (fun e w' => LoadPost w0 w' bb b id J e) := by
  obtain ⟨hd, hs, hk, h1⟩ := h.openBk
  have HK := Lib.hid hk
  have HB := Lib.hid hb
  have HQ := Lib.hid hq
  obtain ⟨nq, hnq⟩ : ∃ n, b.asked.length = n := ⟨_, rfl⟩
  obtain ⟨ni, hni⟩ : ∃ n, b.ids.length = n := ⟨_, rfl⟩
  obtain ⟨nb, hnb⟩ : ∃ n, b.bs.length = n := ⟨_, rfl⟩
  obtain ⟨nh, hnh⟩ : ∃ n, hs.length = n := ⟨_, rfl⟩
  have HNB : Hid (nh = nb) := Lib.hid (by rw [← hnh, ← hnb]; exact hk.n)
  unfold bkc at h1
  rw [hni, hnb, hnq, hnh] at h1
  obtain ⟨⟨c0, c1, c2, c3⟩, f0, f1, f2, f3⟩ := h1.blk4c
  have HS := Lib.hid (h1.ac (by ac_rfl : _ = Sep (RowG 34 (.slice hd.qo nq hd.qc) b.asked) (Sep (Blk bb (.cells #[.slice hd.io ni hd.ic, .slice hd.ho nb hd.hc, .slice hd.qo nq hd.qc, .int .i64 b.full] 51)) (Sep (RowG 34 (.slice hd.io ni hd.ic) b.ids) (Sep (RowG 35 (.slice hd.ho nh hd.hc) hs) (Sep (Fix (HdsOk hs b.bs)) J))))))
  obtain ⟨q, hqe⟩ : ∃ q, IntKind.u64.wrap (2 * id) = q := ⟨_, rfl⟩
  have HQE := Lib.hid hqe
  have HNQ := Lib.hid hnq
  have HNI := Lib.hid hni
  have HNN := Lib.hid hnb
  have HNH := Lib.hid hnh
  clear h h1 hk hb hq hnq hni hnb hnh
  go_enter Try.func31, Try.ntmps31
  go_wp2_with (at_builtin; refine own_appendG elNu HS.out q 1 (by have := HQ.out; have := HNQ.out; omega) (by have := HQ.out; have := HNQ.out; omega) rfl _ _ rfl (by first | rfl | simp [Act.eval]) #[.int .u64 q] rfl (by first | rfl | simp [Act.eval]) ?_)
  intro g2 cap2 n2 w5 hn2 hown
  have HS1 := Lib.hid (hown.out.swap)
  obtain ⟨m, hm⟩ : ∃ m, nq + 1 = m := ⟨_, rfl⟩
  obtain rfl : n2 = m := by have h1 := hn2.out; have h2 := HNQ.out; (try simp only [List.length_append, List.length_singleton] at h1); omega
  have HM := Lib.hid hm
  clear hown hn2 c0 c1 c2 c3 f0 f1 f2 f3 HS hm
  obtain ⟨⟨c0, c1, c2, c3⟩, f0, f1, f2, f3⟩ := HS1.out.blk4c
  go_upto_region 2 with fail
  have HS2 := Lib.hid (HS1.out.store 2 (.slice (some ⟨g2, 0, none⟩) n2 cap2))
  generalize World.setCell w5 _ _ = w6 at *
  clear HS1 c0 c1 c2 c3 f0 f1 f2 f3
  have HS3 : Hid (Own w0 w6 (Sep (Blk bb (.cells #[.slice hd.io ni hd.ic, .slice hd.ho nb hd.hc, .slice (some ⟨g2, 0, none⟩) n2 cap2, .int .i64 b.full] 51)) (Sep (RowG 34 (.slice hd.io ni hd.ic) b.ids) (Sep (RowG 35 (.slice hd.ho nh hd.hc) hs) (Sep (RowG 34 (.slice (some ⟨g2, 0, none⟩) n2 cap2) (b.asked ++ [q])) (Sep (Fix (HdsOk hs b.bs)) J)))))) := Lib.hid (HS2.out.ac (by ac_rfl))
  clear HS2
  obtain ⟨⟨c0, c1, c2, c3⟩, f0, f1, f2, f3⟩ := HS3.out.blk4c
  have hfd := bfind_any w6 bb hd.io ni hd.ic b.ids HNI.out (by have := HB.out; have := HNI.out; omega) HS3.out.swap.rowSlg c0 id
  obtain ⟨iv, hiv⟩ : ∃ v, ixV (ixOf id b.ids) = v := ⟨_, rfl⟩
  rw [hiv] at hfd
  have hsh : Shp (some (⟨g2, 0, none⟩ : Addr)) n2 cap2 := by
    have h1 := (shp_own (HS3.out.ac (by ac_rfl : _ = Sep (RowG 34 (.slice (some ⟨g2, 0, none⟩) n2 cap2) (b.asked ++ [q])) (Sep (Blk bb (.cells #[.slice hd.io ni hd.ic, .slice hd.ho nb hd.hc, .slice (some ⟨g2, 0, none⟩) n2 cap2, .int .i64 b.full] 51)) (Sep (RowG 34 (.slice hd.io ni hd.ic) b.ids) (Sep (RowG 35 (.slice hd.ho nh hd.hc) hs) (Sep (Fix (HdsOk hs b.bs)) J))))))).1
    have h2 := HM.out
    have h3 := HNQ.out
    rw [List.length_append, List.length_singleton, h3, h2] at h1
    exact h1
  have HSH := Lib.hid hsh
  have HIV := Lib.hid hiv
  have HF := Lib.hid hfd
  clear hfd hiv hsh
  go_wp2_with fail
  refine HF.out.mono ?_
  rintro e w7 ⟨rfl, rfl⟩
  have hfin : Own w0 w6 (Sep (BkR bb (b.load id).1) J) := by
    refine Own.shutBk (b := b.ask (2 * id)) (hb := { hd with qo := some ⟨g2, 0, none⟩, qc := cap2 }) (hs := hs) (HK.out.ask _ ?_) ?_
    · have h2 := HM.out
      have h3 := HNQ.out
      show Shp _ (b.asked ++ [wu (2 * id)]).length _
      rw [List.length_append, List.length_singleton, h3, h2]
      exact HSH.out
    · show Own w0 w6 (Sep (Blk bb (.cells #[.slice hd.io b.ids.length hd.ic, .slice hd.ho b.bs.length hd.hc, .slice (some ⟨g2, 0, none⟩) (b.asked ++ [wu (2 * id)]).length cap2, .int .i64 b.full] 51)) (Sep (RowG 34 (.slice hd.io b.ids.length hd.ic) b.ids) (Sep (RowG 35 (.slice hd.ho hs.length hd.hc) hs) (Sep (RowG 34 (.slice (some ⟨g2, 0, none⟩) (b.asked ++ [wu (2 * id)]).length cap2) (b.asked ++ [wu (2 * id)])) (Sep (Fix (HdsOk hs b.bs)) J)))))
      rw [List.length_append, List.length_singleton, HNQ.out, HM.out, HNI.out, HNN.out, HNH.out, ← wrapU, HQE.out]
      exact HS3.out
  have HFIN := Lib.hid hfin
  clear hfin HF
  cases hat : ixOf id b.ids with
  | none =>
    have hneg : iv = -1 := by rw [← HIV.out, hat]; rfl
    subst hneg
    have HA := Lib.hid hat
    clear hat
    go_wp2_with fail
    go_ret2
    exact .inr ⟨by unfold Bk.load Bk.at; rw [HA.out]; rfl, rfl, HFIN.out⟩
  | some i =>
    have hpos : iv = (i : Int) := by rw [← HIV.out, hat]; rfl
    subst hpos
    have hi : i < nb := by have h1 := (ixOf_some hat).1; have h2 := HK.out.m; have h3 := HNN.out; omega
    have hin : ¬ (i : Int) < 0 := by omega
    have HA := Lib.hid hat
    obtain ⟨g, off, hao, hx⟩ := HS3.out.swap.swap.snd.snd.rowSlg.hd (j := i) (by have := HNH.out; have := HNB.out; omega)
    have hfx := (HS3.out.snd.snd.snd.snd.fixed) i (by have := HNN.out; omega)
    obtain ⟨x, hxe⟩ : ∃ x, b.bs.getD i [] = x := ⟨_, rfl⟩
    obtain ⟨y, hye⟩ : ∃ y, hs.getD i default = y := ⟨_, rfl⟩
    rw [hxe, hye] at hfx
    rw [hye] at hx
    obtain ⟨yo, yn, yc⟩ := y
    obtain ⟨rfl, hsl, hxl⟩ := hfx
    dsimp only at hsl hx
    obtain ⟨ho, hho⟩ : ∃ ho, hd.ho = ho := ⟨_, rfl⟩
    rw [hho] at hao c1
    subst hao
    have HSL := Lib.hid hsl
    have HXL := Lib.hid hxl
    have HXE := Lib.hid hxe
    have hcopy := raw_copy (.slice yo x.length yc) x w6 hsl (by omega)
    obtain ⟨xn, hxn⟩ : ∃ n, x.length = n := ⟨_, rfl⟩
    rw [hxn] at hx hcopy hxl
    have HC := Lib.hid hcopy
    have HXN := Lib.hid hxn
    have hi0 : (0 : Int) ≤ (i : Int) := by omega
    clear hcopy hsl hxl hxe hye hho hat hxn
    go_wp2_with fail
    refine HC.out.mono ?_
    rintro e w8 ⟨v', rfl, hown, ho⟩
    rw [← HXN.out] at hown
    obtain ⟨ao, c, rfl, hown2⟩ := HFIN.out.bytesFix ho hown
    have HO2 := Lib.hid hown2
    have HR := Lib.hid ho
    clear hown hown2 ho c0 c1 c2 c3 f0 f1 f2 f3 hx HC
    go_wp2_with fail
    go_ret2
    refine .inl ⟨x, ao, c, ?_, HXL.out, rfl, HO2.out⟩
    unfold Bk.load Bk.at
    rw [HA.out, ← HXE.out]
    rfl


end Go.Proofs.Ytjmelhmjcbliaaa
