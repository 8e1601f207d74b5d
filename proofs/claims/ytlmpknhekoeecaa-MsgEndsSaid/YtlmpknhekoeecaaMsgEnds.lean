/-
  MsgEnds: its walk.
-/
import Derived.Test.YtlmpknhekoeecaaMsgEndsP
namespace Go.Proofs.Ytlmpknhekoeecaa
open Go Go.RowKit
set_option linter.unusedVariables false
set_option linter.unusedSimpArgs false
set_option maxRecDepth 100000

/-- Where MsgEnds stands: the entry, the transaction's own, the plain one. -/
structure EnW (w W : World) (pe po pp : Nat) (e own plain : En) : Prop where
  e : HasE W pe e
  o : HasE W po own
  q : HasE W pp plain
  only : Only (fun _ => False) w W
  ge : w.heap.size ≤ pe
  go : w.heap.size ≤ po
  gq : w.heap.size ≤ pp
  n1 : pe ≠ po
  n2 : pe ≠ pp
  n3 : po ≠ pp
section
variable {w W W' : World} {pe po pp : Nat} {e own plain : En}
theorem EnW.keep (h : EnW w W pe po pp e own plain) (ho : Only (fun _ => False) W W') : EnW w W' pe po pp e own plain :=
  ⟨qkeep ho h.e, qkeep ho h.o, qkeep ho h.q, h.only.trans ho (fun _ _ h => h), h.ge, h.go, h.gq, h.n1, h.n2, h.n3⟩
theorem EnW.seto (h : EnW w W pe po pp e own plain) (u : En) : EnW w ((((((W.setCell ⟨po, 0, none⟩ (.string u.k)).setCell ⟨po, 1, none⟩ (.bool u.h)).setCell ⟨po, 2, none⟩ (.string u.v)).setCell ⟨po, 3, none⟩ (.int .u64 u.x)).setCell ⟨po, 4, none⟩ (.bool u.n)).setCell ⟨po, 5, none⟩ (.string u.nv)) pe po pp e u plain :=
  ⟨set6_keep h.n1 h.e, hasE_set h.o u, set6_keep h.n3.symm h.q, only_set6 h.only h.go _ _ _ _ _ _, h.ge, h.go, h.gq, h.n1, h.n2, h.n3⟩
theorem EnW.setq (h : EnW w W pe po pp e own plain) (u : En) : EnW w ((((((W.setCell ⟨pp, 0, none⟩ (.string u.k)).setCell ⟨pp, 1, none⟩ (.bool u.h)).setCell ⟨pp, 2, none⟩ (.string u.v)).setCell ⟨pp, 3, none⟩ (.int .u64 u.x)).setCell ⟨pp, 4, none⟩ (.bool u.n)).setCell ⟨pp, 5, none⟩ (.string u.nv)) pe po pp e own u :=
  ⟨set6_keep h.n2 h.e, set6_keep h.n3 h.o, hasE_set h.q u, only_set6 h.only h.gq _ _ _ _ _ _, h.ge, h.go, h.gq, h.n1, h.n2, h.n3⟩
theorem EnW.other (h : EnW w W pe po pp e own plain) {q : Nat} (hq : W.heap.size ≤ q ∨ (q ≠ pe ∧ q ≠ po ∧ q ≠ pp ∧ w.heap.size ≤ q)) (j : Nat) (u : Value) : EnW w (W.setCell ⟨q, j, none⟩ u) pe po pp e own plain := by
  have h1 := lt_of_some h.e; have h2 := lt_of_some h.o; have h3 := lt_of_some h.q; have h4 := h.only.size
  exact ⟨set_keep (by omega) h.e, set_keep (by omega) h.o, set_keep (by omega) h.q, only_set h.only (by omega) _ _, h.ge, h.go, h.gq, h.n1, h.n2, h.n3⟩
end
def EndsInv (w wr : World) (pe po pp : Nat) (e : En) (c : Mv) (x : Int) : Prop := ∃ (t : Bool) (p : Mv) (own plain : En), EndsAt ⟨#[107]⟩ c x own plain t p ∧ p.Ok ∧ p.b.size ≤ 140737488355328 ∧ EnW w wr pe po pp e own plain
theorem hasM_set {W : World} {p : Nat} {m : Ms} (h : HasM W p m) : HasM (W.setCell ⟨p, 2, none⟩ (.string ⟨#[107]⟩)) p ⟨m.sq, m.K, ⟨#[107]⟩, m.x, m.v, m.off, m.num⟩ := by
  have := heap_set h 2 (.string ⟨#[107]⟩)
  simpa using this
theorem hasM_setx {W : World} {p : Nat} {m : Ms} (h : HasM W p m) (x : Int) : HasM (W.setCell ⟨p, 3, none⟩ (.int .u64 x)) p ⟨m.sq, m.K, m.k, x, m.v, m.off, m.num⟩ := by
  have := heap_set h 3 (.int .u64 x)
  simpa using this
theorem blk7f {w : World} {k : Nat} {t : TypeId} {a0 a1 a2 a3 a4 a5 a6 : Value} (h : w.heap[k]? = some (.cells #[a0, a1, a2, a3, a4, a5, a6] t (0, 0))) : w.frozen? ⟨k, 2, none⟩ = false ∧ w.frozen? ⟨k, 3, none⟩ = false := by
  simp [World.frozen?, h]

set_option maxHeartbeats 16000000 in
theorem mends_walk (val : ByteArray) (has : Bool) (txn : Int) (ao : Option Addr) (cap : Nat) (l : List Ms) (w : World) (hv : val.size ≤ 140737488355328) (htx : 0 ≤ txn ∧ txn < 18446744073709551616) (hl : SlM w ao l) :
    Calls Try.prog 3 #[.string val, .bool has, .int .u64 txn, .slice ao l.length cap] w fun r w' => r = .returned (.bool true) ∧ Below w.heap.size w w' := by
  obtain ⟨n, hn⟩ : ∃ n, n = l.length := ⟨_, rfl⟩
  rw [← hn]
  have HN := Lib.hid hn
  have HL := Lib.hid hl
  obtain ⟨V, hV⟩ : ∃ V, (valOf has val).b = V := ⟨_, rfl⟩
  have hc : valOf has val = ⟨has, V⟩ := by
    cases has with
    | false => rw [← hV]; rfl
    | true => rw [← hV]; rfl
  have HC : Hid ((⟨has, V⟩ : Mv).Ok) := Lib.hid (by rw [← hc]; exact valOf_ok _ _)
  have HVS : Hid (V.size ≤ 140737488355328) := Lib.hid (by rw [← hV]; exact Nat.le_trans valOf_size hv)
  have HVT : Hid (has = true → val = V) := Lib.hid (fun h => by subst h; exact hV)
  have HVF : Hid (has = false → (⟨#[]⟩ : ByteArray) = V) := Lib.hid (fun h => by subst h; exact hV)
  have HTX := Lib.hid htx
  clear hn hl hV hc hv htx
  go_enter Try.func3, Try.ntmps3
  go_wp2_with fail
  refine (mawake_any _).mono ?_
  rintro r w1 ⟨rfl, hb⟩
  have H1 := Lib.hid (below_quiet hb)
  clear hb
  by_cases hx : txn = 0
  · subst hx
    go_wp2_with fail
    go_ret
    exact ⟨rfl, only_b H1.out⟩
  have hx0 : (txn == 0) = false := by simpa using hx
  have HX := Lib.hid hx
  clear hx
  by_cases h40 : (40 : Int) < (n : Int)
  · go_wp2_with fail
    go_ret
    exact ⟨rfl, only_b H1.out⟩
  have hn40 : (n : Int) ≤ 40 := by omega
  go_upto_if 33 with fail
  go_cut [0] (fun v wx => v = .string V ∧ Only (fun _ => False) w wx)
  case first =>
    cases has with
    | true =>
      have hq : Hid (Value.string val = .string V ∧ Only (fun _ => False) w w1) := Lib.hid ⟨by rw [HVT.out rfl], H1.out⟩
      go_wp2_with fail
      go_meet
      exact hq.out
    | false =>
      have hq : Hid (Value.string ⟨#[]⟩ = .string V ∧ Only (fun _ => False) w w1) := Lib.hid ⟨by rw [HVF.out rfl], H1.out⟩
      go_wp2_with fail
      go_meet
      exact hq.out
  case rest =>
    obtain ⟨rfl, hO⟩ := hcut
    have HO := Lib.hid hO
    clear hO H1 HVT HVF
    have HSV : Hid (EnOk ⟨⟨#[107]⟩, has, V, 0, false, ⟨#[]⟩⟩) := Lib.hid ⟨by show (1 : Nat) ≤ _; omega, HVS.out, Nat.zero_le _⟩
    go_upto_region 8 with fail
    have HO2 := Lib.hid (HO.out.alloc (.cells #[.string ⟨#[107]⟩, .bool has, .string V, .int .u64 0, .bool false, .string ⟨#[]⟩] 26))
    have HE2 := Lib.hid (hasE_new wc ⟨⟨#[107]⟩, has, V, 0, false, ⟨#[]⟩⟩)
    obtain ⟨pe, hq⟩ : ∃ q, wc.heap.size = q := ⟨_, rfl⟩
    have HSpe : Hid (w.heap.size ≤ pe) := Lib.hid (by rw [← hq]; exact HO.out.size)
    rw [hq] at HE2
    generalize wc.alloc (.cells #[.string ⟨#[107]⟩, .bool has, .string V, .int .u64 0, .bool false, .string ⟨#[]⟩] 26) = w2 at *
    rw [hq]
    clear hq HO
    obtain ⟨⟨z0, z1, z2, z3, z4, z5⟩, _⟩ := blk6 HE2.out
    go_upto_region 9 with fail
    clear z0 z1 z2 z3 z4 z5
    have HE3 := Lib.hid (alloc_keep (o := (.cells #[.string ⟨#[107]⟩, .bool has, .string V, .int .u64 0, .bool false, .string ⟨#[]⟩] 26)) HE2.out)
    have HN1 := Lib.hid (lt_of_some HE2.out)
    have HO3 := Lib.hid (HO2.out.alloc (.cells #[.string ⟨#[107]⟩, .bool has, .string V, .int .u64 0, .bool false, .string ⟨#[]⟩] 26))
    have HF3 := Lib.hid (hasE_new w2 ⟨⟨#[107]⟩, has, V, 0, false, ⟨#[]⟩⟩)
    obtain ⟨po, hq⟩ : ∃ q, w2.heap.size = q := ⟨_, rfl⟩
    have HSpo : Hid (w.heap.size ≤ po) := Lib.hid (by rw [← hq]; exact HO2.out.size)
    rw [hq] at HF3
    generalize w2.alloc (.cells #[.string ⟨#[107]⟩, .bool has, .string V, .int .u64 0, .bool false, .string ⟨#[]⟩] 26) = w3 at *
    rw [hq]
    rw [hq] at HN1
    clear hq HO2 HE2
    obtain ⟨⟨z0, z1, z2, z3, z4, z5⟩, _⟩ := blk6 HE3.out
    go_upto_region 10 with fail
    clear z0 z1 z2 z3 z4 z5
    have HE4 := Lib.hid (alloc_keep (o := (.cells #[.string ⟨#[107]⟩, .bool has, .string V, .int .u64 0, .bool false, .string ⟨#[]⟩] 26)) HE3.out)
    have HF4 := Lib.hid (alloc_keep (o := (.cells #[.string ⟨#[107]⟩, .bool has, .string V, .int .u64 0, .bool false, .string ⟨#[]⟩] 26)) HF3.out)
    have HN2 := Lib.hid (lt_of_some HE3.out)
    have HN3 := Lib.hid (lt_of_some HF3.out)
    have HO4 := Lib.hid (HO3.out.alloc (.cells #[.string ⟨#[107]⟩, .bool has, .string V, .int .u64 0, .bool false, .string ⟨#[]⟩] 26))
    have HG4 := Lib.hid (hasE_new w3 ⟨⟨#[107]⟩, has, V, 0, false, ⟨#[]⟩⟩)
    obtain ⟨pp, hq⟩ : ∃ q, w3.heap.size = q := ⟨_, rfl⟩
    have HSpp : Hid (w.heap.size ≤ pp) := Lib.hid (by rw [← hq]; exact HO3.out.size)
    rw [hq] at HG4
    generalize w3.alloc (.cells #[.string ⟨#[107]⟩, .bool has, .string V, .int .u64 0, .bool false, .string ⟨#[]⟩] 26) = w4 at *
    rw [hq]
    rw [hq] at HN2 HN3
    clear hq HO3 HE3 HF3
    have HI : Hid (EndsInv w w4 pe po pp ⟨⟨#[107]⟩, has, V, 0, false, ⟨#[]⟩⟩ ⟨has, V⟩ txn) := Lib.hid ⟨false, ⟨has, V⟩, ⟨⟨#[107]⟩, has, V, 0, false, ⟨#[]⟩⟩, ⟨⟨#[107]⟩, has, V, 0, false, ⟨#[]⟩⟩, ⟨rfl, rfl, fun _ => rfl⟩, HC.out, HVS.out, ⟨HE4.out, HF4.out, HG4.out, HO4.out, HSpe.out, HSpo.out, HSpp.out, by have := HN1.out; omega, by have := HN2.out; omega, by have := HN3.out; omega⟩⟩
    clear HE4 HF4 HG4 HO4 HSpe HSpo HSpp HN1 HN2 HN3
    have hn0 : (0 : Int) ≤ (n : Int) := by omega
    go_wp2_with fail
    go_loopw [12] (fun i wr => ∃ k : Nat, k ≤ n ∧ i = .int .i64 (k : Int) ∧ Hid (EndsInv w wr pe po pp ⟨⟨#[107]⟩, has, V, 0, false, ⟨#[]⟩⟩ ⟨has, V⟩ txn)) (fun i _ => n - (intOf i).toNat)
    case atStart => exact ⟨0, Nat.zero_le _, rfl, HI⟩
    case round =>
      clear HI
      obtain ⟨k, hk, rfl, HI⟩ := hrel
      obtain ⟨t, p, own, plain, hE, hp, hps, hW⟩ := HI.out
      have HE := Lib.hid hE
      have HP := Lib.hid hp
      have HPS := Lib.hid hps
      have HW := Lib.hid hW
      have HSZ := Lib.hid (ends_size hE (by show (1 : Nat) ≤ 100; omega) HVS.out hps)
      clear hE hp hps hW HI
      have hk0 : (0 : Int) ≤ (k : Int) := by omega
      by_cases hlt : k < n
      · have hltI : (k : Int) < (n : Int) := by omega
        obtain ⟨g, off, rfl, hm⟩ := (HL.out.keep HW.out.only) k (by rw [← HN.out]; exact hlt)
        generalize l.getD k default = m at *
        obtain ⟨sq, K, mk, mx, mv, mo, num⟩ := m
        obtain ⟨y0, y1, y2, y3, y4, y5, y6, hok⟩ := hm
        have HOK := Lib.hid hok
        clear hok
        go_upto_region 14 with fail
        have HW1 := Lib.hid (HW.out.keep ((Only.refl _ wr).alloc (.cells #[.int .u64 sq, .int .i64 K, .string mk, .int .u64 mx, .string mv, .int .i64 mo, .int .u64 num] 28)))
        have HM1 := Lib.hid (hasM_new wr ⟨sq, K, mk, mx, mv, mo, num⟩)
        have HPM := Lib.hid (And.intro (lt_of_some HW.out.e) (And.intro (lt_of_some HW.out.o) (And.intro (lt_of_some HW.out.q) HW.out.only.size)))
        obtain ⟨pm, hq⟩ : ∃ q, wr.heap.size = q := ⟨_, rfl⟩
        rw [hq] at HM1 HPM
        generalize wr.alloc (.cells #[.int .u64 sq, .int .i64 K, .string mk, .int .u64 mx, .string mv, .int .i64 mo, .int .u64 num] 28) = w5 at *
        rw [hq]
        clear hq HW y0 y1 y2 y3 y4 y5 y6
        have HPN : Hid (pm ≠ pe ∧ pm ≠ po ∧ pm ≠ pp ∧ w.heap.size ≤ pm) := Lib.hid (by have := HPM.out; omega)
        clear HPM
        obtain ⟨y0, y1, y2, y3, y4, y5, y6⟩ := blk7 HM1.out
        obtain ⟨f2, f3⟩ := blk7f HM1.out
        have HW2 := Lib.hid (HW1.out.other (.inr HPN.out) 2 (.string ⟨#[107]⟩))
        have HM2 := Lib.hid (hasM_set HM1.out)
        go_upto_region 15 with fail
        generalize World.setCell w5 _ _ = w6 at *
        clear y0 y1 y2 y3 y4 y5 y6 f2 f3 HW1 HM1
        obtain ⟨y0, y1, y2, y3, y4, y5, y6⟩ := blk7 HM2.out
        by_cases hgo : 1 ≤ K ∧ K ≤ 3 ∧ 0 ≤ mo
        · obtain ⟨k1, k3, k0⟩ := hgo
          have HST := Lib.hid (ends_step (m := ⟨sq, K, mk, mx, mv, mo, num⟩) HE.out HC.out HP.out HX.out k1 k3 k0 ⟨#[107]⟩)
          have hok1 : MsOk ⟨sq, K, ⟨#[107]⟩, txn, mv, mo, num⟩ := ⟨HOK.out.n0, HOK.out.n1, HOK.out.v⟩
          have hok2 : MsOk ⟨sq, K, ⟨#[107]⟩, 0, mv, mo, num⟩ := ⟨HOK.out.n0, HOK.out.n1, HOK.out.v⟩
          have CO := Lib.hid (fun W => apply_any own ⟨sq, K, ⟨#[107]⟩, txn, mv, mo, num⟩ W HSZ.out.1 hok1)
          have CQ := Lib.hid (fun W => apply_any plain ⟨sq, K, ⟨#[107]⟩, 0, mv, mo, num⟩ W HSZ.out.2 hok2)
          have HP1S : Hid ((chg p ⟨sq, K, mk, mx, mv, mo, num⟩).b.size ≤ 140737488355328) := Lib.hid (chg_size HPS.out HOK.out (fun _ => k0))
          obtain ⟨own1, ho1⟩ : ∃ u, applyE own ⟨sq, K, ⟨#[107]⟩, txn, mv, mo, num⟩ = u := ⟨_, rfl⟩
          obtain ⟨plain1, hq1⟩ : ∃ u, applyE plain ⟨sq, K, ⟨#[107]⟩, 0, mv, mo, num⟩ = u := ⟨_, rfl⟩
          obtain ⟨p1, hp1⟩ : ∃ u, chg p ⟨sq, K, mk, mx, mv, mo, num⟩ = u := ⟨_, rfl⟩
          have HE1 : Hid (EndsAt ⟨#[107]⟩ ⟨has, V⟩ txn own1 plain1 true p1 ∧ p1.Ok) := Lib.hid (by
            have h := HST.out
            rw [hp1] at h
            rw [← ho1, ← hq1]
            exact h)
          rw [ho1] at CO
          rw [hq1] at CQ
          rw [hp1] at HP1S
          have HVI := Lib.hid (ends_view HE1.out.1 HC.out HE1.out.2 HX.out)
          have HS1 := Lib.hid (ends_size HE1.out.1 (by show (1 : Nat) ≤ 100; omega) HVS.out HP1S.out)
          obtain ⟨y, hy⟩ : ∃ y, (txn + 1) % 18446744073709551616 = y := ⟨_, rfl⟩
          have hyx : y ≠ txn := by have := HTX.out; omega
          have hw1 : IntKind.u64.wrap (txn + 1) = y := by rw [IntKind.wrap_u64, hy]
          have HYW := Lib.hid (And.intro hw1 hy)
          have V1 := Lib.hid (fun W => view_any own1 txn W HS1.out.1)
          have V2 := Lib.hid (fun W => view_any plain1 0 W HS1.out.2)
          have V3 := Lib.hid (fun W => view_any own1 y W HS1.out.1)
          rw [HVI.out.1] at V1
          rw [HVI.out.2.1] at V2
          rw [HVI.out.2.2 y hyx] at V3
          clear HST hok1 hok2 ho1 hq1 hp1 HVI HS1 hy hyx hw1 HE HP HPS HSZ HOK
          obtain ⟨ko, ho, vo, xo, no, nvo⟩ := own
          obtain ⟨kq, hq, vq, xq, nq, nvq⟩ := plain
          obtain ⟨ko1, ho1, vo1, xo1, no1, nvo1⟩ := own1
          obtain ⟨kq1, hq1, vq1, xq1, nq1, nvq1⟩ := plain1
          obtain ⟨pt, pb⟩ := p1
          simp only at V1 V2 V3 CO CQ
          obtain ⟨f2, f3⟩ := blk7f HM2.out
          have HW3 := Lib.hid (HW2.out.other (.inr HPN.out) 3 (.int .u64 txn))
          have HM3 := Lib.hid (hasM_setx HM2.out txn)
          go_upto_region 17 with fail
          generalize World.setCell w6 _ _ = w7 at *
          clear y0 y1 y2 y3 y4 y5 y6 f2 f3 HW2 HM2
          obtain ⟨y0, y1, y2, y3, y4, y5, y6⟩ := blk7 HM3.out
          obtain ⟨⟨z0, z1, z2, z3, z4, z5⟩, f0, f1, f2, f3, f4, f5⟩ := blk6 HW3.out.o
          go_wp2_with fail
          refine (CO.out _).mono ?_
          rintro r w8 ⟨rfl, hb⟩
          have HW4 := Lib.hid (HW3.out.keep (below_quiet hb))
          have HM4 := Lib.hid (qkeep (below_quiet hb) HM3.out)
          have HW5 := Lib.hid (HW4.out.seto ⟨ko1, ho1, vo1, xo1, no1, nvo1⟩)
          have HM5 := Lib.hid (set6_keep (p := po) (u0 := .string ko1) (u1 := .bool ho1) (u2 := .string vo1) (u3 := .int .u64 xo1) (u4 := .bool no1) (u5 := .string nvo1) HPN.out.2.1 HM4.out)
          clear hb y0 y1 y2 y3 y4 y5 y6 z0 z1 z2 z3 z4 z5 f0 f1 f2 f3 f4 f5 HW3 HM3 CO
          obtain ⟨⟨z0, z1, z2, z3, z4, z5⟩, f0, f1, f2, f3, f4, f5⟩ := blk6 HW4.out.o
          go_upto_region 18 with fail
          generalize World.setCell (World.setCell (World.setCell (World.setCell (World.setCell (World.setCell w8 _ _) _ _) _ _) _ _) _ _) _ _ = w9 at *
          clear z0 z1 z2 z3 z4 z5 f0 f1 f2 f3 f4 f5 HW4 HM4
          obtain ⟨y0, y1, y2, y3, y4, y5, y6⟩ := blk7 HM5.out
          obtain ⟨f2, f3⟩ := blk7f HM5.out
          have HW6 := Lib.hid (HW5.out.other (.inr HPN.out) 3 (.int .u64 0))
          have HM6 := Lib.hid (hasM_setx (m := ⟨sq, K, ⟨#[107]⟩, txn, mv, mo, num⟩) HM5.out 0)
          go_upto_region 19 with fail
          generalize World.setCell w9 _ _ = w10 at *
          clear y0 y1 y2 y3 y4 y5 y6 f2 f3 HW5 HM5
          obtain ⟨y0, y1, y2, y3, y4, y5, y6⟩ := blk7 HM6.out
          obtain ⟨⟨z0, z1, z2, z3, z4, z5⟩, f0, f1, f2, f3, f4, f5⟩ := blk6 HW6.out.q
          go_wp2_with fail
          refine (CQ.out _).mono ?_
          rintro r w11 ⟨rfl, hb⟩
          have HW7 := Lib.hid (HW6.out.keep (below_quiet hb))
          have HW8 := Lib.hid (HW7.out.setq ⟨kq1, hq1, vq1, xq1, nq1, nvq1⟩)
          clear hb y0 y1 y2 y3 y4 y5 y6 z0 z1 z2 z3 z4 z5 f0 f1 f2 f3 f4 f5 HW6 HM6 CQ
          obtain ⟨⟨z0, z1, z2, z3, z4, z5⟩, f0, f1, f2, f3, f4, f5⟩ := blk6 HW7.out.q
          go_upto_region 20 with fail
          generalize World.setCell (World.setCell (World.setCell (World.setCell (World.setCell (World.setCell w11 _ _) _ _) _ _) _ _) _ _) _ _ = w12 at *
          clear z0 z1 z2 z3 z4 z5 f0 f1 f2 f3 f4 f5 HW7
          obtain ⟨⟨z0, z1, z2, z3, z4, z5⟩, _⟩ := blk6 HW8.out.o
          go_wp2_with fail
          refine (V1.out _).mono ?_
          rintro r w13 ⟨rfl, hb⟩
          have HW9 := Lib.hid (HW8.out.keep (below_quiet hb))
          clear hb HW8 z0 z1 z2 z3 z4 z5 V1
          obtain ⟨⟨z0, z1, z2, z3, z4, z5⟩, _⟩ := blk6 HW9.out.q
          go_wp2_with fail
          refine (V2.out _).mono ?_
          rintro r w14 ⟨rfl, hb⟩
          have HW10 := Lib.hid (HW9.out.keep (below_quiet hb))
          clear hb HW9 z0 z1 z2 z3 z4 z5 V2
          obtain ⟨⟨z0, z1, z2, z3, z4, z5⟩, _⟩ := blk6 HW10.out.o
          obtain ⟨hw1, hw2⟩ := HYW.out
          go_wp2_with fail
          refine (V3.out _).mono ?_
          rintro r w15 ⟨rfl, hb⟩
          have HW11 := Lib.hid (HW10.out.keep (below_quiet hb))
          clear hb HW10 z0 z1 z2 z3 z4 z5 V3 hw1 hw2
          have hb1 : (pb.toList != pb.toList) = false := by simp
          have hb2 : (V.toList != V.toList) = false := by simp
          have hb3 : (pt != pt) = false := by simp
          have hb4 : (has != has) = false := by simp
          have HIE : Hid (EndsInv w w15 pe po pp ⟨⟨#[107]⟩, has, V, 0, false, ⟨#[]⟩⟩ ⟨has, V⟩ txn) := Lib.hid ⟨true, ⟨pt, pb⟩, _, _, HE1.out.1, HE1.out.2, HP1S.out, HW11.out⟩
          go_wp2_with fail
          go_roundw
          case rel => exact ⟨k + 1, by omega, by go_num, HIE⟩
          case measure => simp [intOf]; omega
        · have hskip : K < 1 ∨ (¬ K < 1 ∧ 3 < K) ∨ (¬ K < 1 ∧ ¬ 3 < K ∧ mo < 0) := by omega
          clear hgo
          have HIE : Hid (EndsInv w w6 pe po pp ⟨⟨#[107]⟩, has, V, 0, false, ⟨#[]⟩⟩ ⟨has, V⟩ txn) := Lib.hid ⟨t, p, own, plain, HE.out, HP.out, HPS.out, HW2.out⟩
          rcases hskip with a | ⟨a, b⟩ | ⟨a, b, c⟩
          all_goals
            go_wp2_with fail
            go_roundw
            case rel => exact ⟨k + 1, by omega, by go_num, HIE⟩
            case measure => simp [intOf]; omega
      · obtain rfl : k = n := by omega
        have hltI : ¬ (k : Int) < (k : Int) := by omega
        have HEN := Lib.hid (ends_end HE.out HC.out HP.out HX.out ⟨#[107]⟩)
        obtain ⟨y, hy⟩ : ∃ y, (txn + 1) % 18446744073709551616 = y := ⟨_, rfl⟩
        have hyx : y ≠ txn := by have := HTX.out; omega
        have hw1 : IntKind.u64.wrap (txn + 1) = y := by rw [IntKind.wrap_u64, hy]
        have hmo : ∀ K x, MsOk ⟨0, K, ⟨#[107]⟩, x, ⟨#[]⟩, 0, 0⟩ := fun K x => ⟨by show (0 : Int) ≤ 0; omega, by show (0 : Int) < _; omega, by show (0 : Nat) ≤ _; omega⟩
        have C1 := Lib.hid (fun W => apply_any own ⟨0, 6, ⟨#[107]⟩, txn, ⟨#[]⟩, 0, 0⟩ W HSZ.out.1 (hmo _ _))
        have C2 := Lib.hid (fun W => apply_any own ⟨0, 5, ⟨#[107]⟩, txn, ⟨#[]⟩, 0, 0⟩ W HSZ.out.1 (hmo _ _))
        have C3 := Lib.hid (fun W => apply_any own ⟨0, 5, ⟨#[107]⟩, y, ⟨#[]⟩, 0, 0⟩ W HSZ.out.1 (hmo _ _))
        rw [HEN.out.1, show (St.mk ⟨has, V⟩ 0 Mv.no).en ⟨#[107]⟩ = ⟨⟨#[107]⟩, has, V, 0, false, ⟨#[]⟩⟩ from rfl] at C1
        rw [HEN.out.2.1] at C2
        rw [HEN.out.2.2 y hyx] at C3
        have HYW := Lib.hid (And.intro hw1 hy)
        clear HEN hy hyx hw1 hmo HE HP HPS HSZ
        obtain ⟨ko, ho, vo, xo, no, nvo⟩ := own
        obtain ⟨kq, hq, vq, xq, nq, nvq⟩ := plain
        obtain ⟨⟨z0, z1, z2, z3, z4, z5⟩, _⟩ := blk6 HW.out.o
        go_wp2_with fail
        refine (C1.out _).mono ?_
        rintro r w5 ⟨rfl, hb⟩
        have HW1 := Lib.hid (HW.out.keep (below_quiet hb))
        clear hb HW z0 z1 z2 z3 z4 z5 C1
        go_upto_region 26 with fail
        have HW2 := Lib.hid (HW1.out.keep ((Only.refl _ w5).alloc (.cells #[.string ⟨#[107]⟩, .bool has, .string V, .int .u64 0, .bool false, .string ⟨#[]⟩] 26)))
        have HA2 := Lib.hid (hasE_new w5 ⟨⟨#[107]⟩, has, V, 0, false, ⟨#[]⟩⟩)
        obtain ⟨pa, hpa⟩ : ∃ q, w5.heap.size = q := ⟨_, rfl⟩
        rw [hpa] at HA2
        generalize w5.alloc (.cells #[.string ⟨#[107]⟩, .bool has, .string V, .int .u64 0, .bool false, .string ⟨#[]⟩] 26) = w6 at *
        rw [hpa]
        clear hpa HW1
        obtain ⟨⟨z0, z1, z2, z3, z4, z5⟩, _⟩ := blk6 HW2.out.o
        go_wp2_with fail
        refine (C2.out _).mono ?_
        rintro r w7 ⟨rfl, hb⟩
        have HW3 := Lib.hid (HW2.out.keep (below_quiet hb))
        have HA3 := Lib.hid (qkeep (below_quiet hb) HA2.out)
        clear hb HW2 HA2 z0 z1 z2 z3 z4 z5 C2
        go_upto_region 27 with fail
        have HW4 := Lib.hid (HW3.out.keep ((Only.refl _ w7).alloc (.cells #[.string kq, .bool hq, .string vq, .int .u64 xq, .bool nq, .string nvq] 26)))
        have HA4 := Lib.hid (alloc_keep (o := (.cells #[.string kq, .bool hq, .string vq, .int .u64 xq, .bool nq, .string nvq] 26)) HA3.out)
        have HB4 := Lib.hid (hasE_new w7 ⟨kq, hq, vq, xq, nq, nvq⟩)
        obtain ⟨pc, hpc⟩ : ∃ q, w7.heap.size = q := ⟨_, rfl⟩
        rw [hpc] at HB4
        generalize w7.alloc (.cells #[.string kq, .bool hq, .string vq, .int .u64 xq, .bool nq, .string nvq] 26) = w8 at *
        rw [hpc]
        clear hpc HW3 HA3
        obtain ⟨⟨z0, z1, z2, z3, z4, z5⟩, _⟩ := blk6 HW4.out.o
        obtain ⟨hw1, hw2⟩ := HYW.out
        go_wp2_with fail
        refine (C3.out _).mono ?_
        rintro r w9 ⟨rfl, hb⟩
        have HW5 := Lib.hid (HW4.out.keep (below_quiet hb))
        have HA5 := Lib.hid (qkeep (below_quiet hb) HA4.out)
        have HB5 := Lib.hid (qkeep (below_quiet hb) HB4.out)
        clear hb HW4 HA4 HB4 z0 z1 z2 z3 z4 z5 C3
        go_upto_region 28 with fail
        have HW6 := Lib.hid (HW5.out.keep ((Only.refl _ w9).alloc (.cells #[.string ko, .bool ho, .string vo, .int .u64 xo, .bool no, .string nvo] 26)))
        have HA6 := Lib.hid (alloc_keep (o := (.cells #[.string ko, .bool ho, .string vo, .int .u64 xo, .bool no, .string nvo] 26)) HA5.out)
        have HB6 := Lib.hid (alloc_keep (o := (.cells #[.string ko, .bool ho, .string vo, .int .u64 xo, .bool no, .string nvo] 26)) HB5.out)
        have HC6 := Lib.hid (hasE_new w9 ⟨ko, ho, vo, xo, no, nvo⟩)
        obtain ⟨pb, hpb⟩ : ∃ q, w9.heap.size = q := ⟨_, rfl⟩
        rw [hpb] at HC6
        generalize w9.alloc (.cells #[.string ko, .bool ho, .string vo, .int .u64 xo, .bool no, .string nvo] 26) = w10 at *
        rw [hpb]
        clear hpb HW5 HA5 HB5
        obtain ⟨⟨a0, a1, a2, a3, a4, a5⟩, _⟩ := blk6 HA6.out
        obtain ⟨⟨b0, b1, b2, b3, b4, b5⟩, _⟩ := blk6 HB6.out
        obtain ⟨⟨c0, c1, c2, c3, c4, c5⟩, _⟩ := blk6 HC6.out
        obtain ⟨⟨o0, o1, o2, o3, o4, o5⟩, _⟩ := blk6 HW6.out.o
        obtain ⟨⟨q0, q1, q2, q3, q4, q5⟩, _⟩ := blk6 HW6.out.q
        obtain ⟨⟨e0, e1, e2, e3, e4, e5⟩, _⟩ := blk6 HW6.out.e
        by_cases hy0 : y = 0
        · have hyb : (y == 0) = true := by simpa using hy0
          clear hy0
          go_wp2_with fail
          go_ret
          exact ⟨rfl, only_b HW6.out.only⟩
        · have hyb : (y == 0) = false := by simpa using hy0
          clear hy0
          go_wp2_with fail
          go_ret
          exact ⟨rfl, only_b HW6.out.only⟩

end Go.Proofs.Ytlmpknhekoeecaa
