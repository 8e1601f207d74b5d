/-
  Package block's take: what stands in one sector.
-/
import Derived.Test.YtidkeglldmbfeaaBlk2
import Derived.StillTailTactics
import Derived.Deep.RegionHeld3
namespace Go.Proofs.Ytidkeglldmbfeaa
open Go Go.RowKit
set_option linter.unusedVariables false
set_option linter.unusedSimpArgs false
set_option maxRecDepth 100000

def pkS (s : List UInt8) : Nat := numB ((s.drop 12).take 2)
def partOf (s : List UInt8) : Part := ⟨numB (s.take 8), numB ((s.drop 8).take 2), numB ((s.drop 10).take 2), (s.drop 14).take (pkS s)⟩
def zerosB (l : List UInt8) : Bool := l.all (· == 0)
def okSec (s : List UInt8) : Bool := decide (pkS s ≤ 50) && zerosB (s.drop (14 + pkS s))
def Part.zero : Part := ⟨0, 0, 0, []⟩

/-- Take's memory: the In at p, a part's cells at q and at q4. -/
structure TkI (w wr : World) (p q q4 : Nat) (cs cs4 : Array Value) (ys : List UInt8) (bad : Bool) : Prop where
  inn : ∃ v, InV wr p v ys bad
  at9 : wr.heap[q]? = some (.cells cs 75 (0, 0))
  at4 : wr.heap[q4]? = some (.cells cs4 75 (0, 0))
  gp : w.heap.size ≤ p
  gq : w.heap.size ≤ q
  g4 : w.heap.size ≤ q4
  only : Only (fun _ => False) w wr
theorem TkI.step {w wr w' : World} {p q q4 : Nat} {cs cs4 : Array Value} {ys ys' : List UInt8} {bad bad' : Bool} (h : TkI w wr p q q4 cs cs4 ys bad) {v' : Value} (hI : InV w' p v' ys' bad') (ho : Only (fun k => k = p) wr w') :
    TkI w w' p q q4 cs cs4 ys' bad' := by
  obtain ⟨v, hv⟩ := h.inn
  have hne : ∀ (k : Nat) (cs : Array Value), wr.heap[k]? = some (.cells cs 75 (0, 0)) → ¬ k = p := fun k cs hk e => by
    subst e; have := hv.at'; rw [hk] at this; simp at this
  exact ⟨⟨v', hI⟩, ho.keep h.at9 (hne q cs h.at9), ho.keep h.at4 (hne q4 cs4 h.at4), h.gp, h.gq, h.g4, h.only.none ho (fun k e => e ▸ h.gp)⟩
theorem TkI.cell9 {w wr : World} {p q q4 : Nat} {cs cs4 : Array Value} {ys : List UInt8} {bad : Bool} (h : TkI w wr p q q4 cs cs4 ys bad) (j : Nat) : wr.cell? ⟨q, j, none⟩ = cs[j]? := by simp [World.cell?, h.at9]
theorem TkI.free9 {w wr : World} {p q q4 : Nat} {cs cs4 : Array Value} {ys : List UInt8} {bad : Bool} (h : TkI w wr p q q4 cs cs4 ys bad) (j : Nat) : wr.frozen? ⟨q, j, none⟩ = false := by simp [World.frozen?, h.at9]
theorem TkI.cell4 {w wr : World} {p q q4 : Nat} {cs cs4 : Array Value} {ys : List UInt8} {bad : Bool} (h : TkI w wr p q q4 cs cs4 ys bad) (j : Nat) : wr.cell? ⟨q4, j, none⟩ = cs4[j]? := by simp [World.cell?, h.at4]
theorem TkI.free4 {w wr : World} {p q q4 : Nat} {cs cs4 : Array Value} {ys : List UInt8} {bad : Bool} (h : TkI w wr p q q4 cs cs4 ys bad) (j : Nat) : wr.frozen? ⟨q4, j, none⟩ = false := by simp [World.frozen?, h.at4]

def TkPost (w : World) (s : List UInt8) (e : Ending) (w' : World) : Prop :=
  ∃ P : Part, e = .returned (.tuple #[P.val, .bool (okSec s)]) ∧ (okSec s = true → P = partOf s) ∧ Only (fun _ => False) w w'

set_option maxHeartbeats 1000000 in
theorem take_gone {w : World} {p gn gk : Nat} {vw : Value} {D : DS} (hD : DiskAt w p gn gk vw D) (i : Int) (hi : D.has i = false) :
    Calls Try.prog 44 #[.pointer (some ⟨p, 0, none⟩), .int .i64 i] w fun e w' => e = .returned (.tuple #[Part.zero.val, .bool false]) ∧ Only (fun _ => False) w w' := by
  have HD : Hid (DiskAt (w.alloc (.cells #[.int .u64 0, .int .i64 0, .int .i64 0, .string ByteArray.empty] 75)) p gn gk vw D) :=
    Lib.hid (hD.keep fun k hk => Below.heap_alloc _ _ _ (by
      rcases hk with rfl | rfl | rfl | hk
      · exact lt_of_some hD.at'
      · exact lt_of_some hD.now
      · exact lt_of_some hD.kept
      · exact own_lt hD.row hk))
  clear hD
  go_enter Try.func44, Try.ntmps44
  go_wp2_with fail
  refine (disk_read_arg HD.out i hi).mono ?_
  rintro e w' ⟨rfl, rfl⟩
  go_wp2
  exact bodyPost_ret (v := .tuple #[Part.zero.val, .bool false]) (by simp [results, Try.results44, go_sem, Part.val, Part.zero]) rfl ⟨rfl, (Only.refl (fun _ => False) w).alloc _⟩

theorem TkI.alloc {w wr : World} {p q q4 : Nat} {cs cs4 : Array Value} {ys : List UInt8} {bad : Bool} (h : TkI w wr p q q4 cs cs4 ys bad) (cs' : Array Value) : TkI w (wr.alloc (.cells cs' 75)) p wr.heap.size q4 cs' cs4 ys bad := by
  obtain ⟨v, hv⟩ := h.inn
  have ho := (Only.refl (fun _ => False) wr).alloc (.cells cs' 75)
  exact ⟨⟨v, hv.keep ho (fun h => h) (fun _ _ _ h => h)⟩, heap_alloc_new wr _, ho.keep h.at4 (fun h => h), h.gp, h.only.size, h.g4, h.only.trans ho (fun _ _ h => h)⟩
theorem TkI.set9 {w wr : World} {p q q4 : Nat} {cs cs4 : Array Value} {ys : List UInt8} {bad : Bool} (h : TkI w wr p q q4 cs cs4 ys bad) (hne : q4 ≠ q) (j : Nat) (u : Value) : TkI w (wr.setCell ⟨q, j, none⟩ u) p q q4 (cs.setIfInBounds j u) cs4 ys bad := by
  obtain ⟨v, hv⟩ := h.inn
  have ho := Only.cell wr q j u
  exact ⟨⟨v, hv.keep ho (fun e => by have := hv.at'; rw [e, h.at9] at this; simp at this) (fun k cur hk e => by rw [e, h.at9] at hk; simp at hk)⟩, heap_set h.at9 j u, ho.keep h.at4 hne, h.gp, h.gq, h.g4, h.only.none ho (fun k e => e ▸ h.gq)⟩
def lenOf : Option Value → Nat
  | some (.slice _ n _) => n
  | _ => 0
theorem InV.len {w : World} {p : Nat} {v : Value} {xs : List UInt8} {bad : Bool} (h : InV w p v xs bad) : lenOf (w.cell? ⟨p, 0, none⟩) = xs.length := by
  rw [h.cell0]
  obtain ⟨ao, cap, e, _⟩ := h.sl.shape
  rw [e]; rfl
/-- Behind some of the zeros. -/
def TkL (w wr : World) (p q q4 : Nat) (cs cs4 : Array Value) (s : List UInt8) (ok : Bool) (ys : List UInt8) : Prop :=
  TkI w wr p q q4 cs cs4 ys (!ok) ∧ (ok = true → zerosB ys = zerosB (s.drop (14 + pkS s)))
theorem numB2 (l : List UInt8) : numB (l.take 2) < 65536 := numB_le 2 _ (by simp; omega)

set_option maxHeartbeats 4000000 in
theorem take_any {w : World} {p gn gk : Nat} {vw : Value} {D : DS} (hD : DiskAt w p gn gk vw D) (i : Nat) (hi : i < D.n) :
    Calls Try.prog 44 #[.pointer (some ⟨p, 0, none⟩), .int .i64 i] w (TkPost w (sec D.N i)) := by
  have HD := Lib.hid (hD.alloc (.cells #[.int .u64 0, .int .i64 0, .int .i64 0, .string ByteArray.empty] 75))
  obtain ⟨s, hs⟩ : ∃ s, s = sec D.N i := ⟨_, rfl⟩
  have hsl : s.length = 64 := by rw [hs]; exact sec_length hD.ok.N hi
  rw [← hs]
  have HS := Lib.hid hs
  have HL := Lib.hid hsl
  clear hD hs hsl
  go_enter Try.func44, Try.ntmps44
  go_wp2_with fail
  refine (disk_read HD.out i hi).mono ?_
  rintro e w' ⟨rfl, rfl⟩
  rw [← HS.out]
  obtain ⟨w1, hw1⟩ : ∃ w1, w1 = (w.alloc (.cells #[.int .u64 0, .int .i64 0, .int .i64 0, .string ByteArray.empty] 75)).alloc (.cells (u8s s).toArray 69) := ⟨_, rfl⟩
  have h4 : w1.heap[w.heap.size]? = some (.cells #[.int .u64 0, .int .i64 0, .int .i64 0, .string ByteArray.empty] 75 (0, 0)) := by
    rw [hw1]
    exact ((Only.refl (fun _ => False) _).alloc _).keep (heap_alloc_new w _) (fun h => h)
  have ho1 : Only (fun _ => False) w w1 := by rw [hw1]; exact ((Only.refl (fun _ => False) w).alloc _).alloc _
  obtain ⟨g, hg⟩ : ∃ g, g = (w.alloc (.cells #[.int .u64 0, .int .i64 0, .int .i64 0, .string ByteArray.empty] 75)).heap.size := ⟨_, rfl⟩
  have hr : SlC w1 (.slice (some ⟨g, 0, none⟩) 64 64) s := by
    rw [hw1, hg]
    exact row_bytes' (heap_alloc_new _ _) HL.out.symm
  rw [← hw1, ← hg]
  have H4 := Lib.hid h4
  have HO1 := Lib.hid ho1
  have HR := Lib.hid hr
  clear h4 ho1 hr hw1 hg HD HS
  go_wp2_with fail
  refine (to_any _ s w1 HR.out (by have := HL.out; omega)).mono ?_
  rintro e w2 ⟨ip, v0, rfl, hI0, hip, ho2⟩
  have hk0 : TkI w w2 ip w.heap.size w.heap.size #[.int .u64 0, .int .i64 0, .int .i64 0, .string ByteArray.empty] #[.int .u64 0, .int .i64 0, .int .i64 0, .string ByteArray.empty] s false :=
    ⟨⟨v0, hI0⟩, ho2.keep H4.out (fun h => h), ho2.keep H4.out (fun h => h), Nat.le_trans HO1.out.size hip, Nat.le_refl _, Nat.le_refl _, HO1.out.trans ho2 (fun _ _ h => h)⟩
  have HK0 := Lib.hid hk0
  clear hI0 hip ho2 hk0 H4 HR HO1
  go_wp2_with fail
  obtain ⟨v, hv⟩ := HK0.out.inn
  have HV := Lib.hid hv; clear hv
  refine (inU64 ip v s false w2 HV.out).mono ?_
  rintro e w3 ⟨v3, rfl, hI3, ho3⟩
  obtain ⟨n1, n2, n3⟩ := next_ok_eq (n := 8) (xs := s) (by have := HL.out; omega)
  rw [n1]
  rw [n2, n3] at hI3
  have HK3 := Lib.hid (HK0.out.step hI3 ho3)
  obtain ⟨x1, hx1⟩ : ∃ x, x = numB (s.take 8) := ⟨_, rfl⟩
  rw [← hx1]
  have HX1 := Lib.hid hx1
  clear n1 n2 n3 hI3 ho3 HV HK0 hx1
  go_wp2_with fail
  obtain ⟨v, hv⟩ := HK3.out.inn
  have HV := Lib.hid hv; clear hv
  refine (inU16 ip v _ false w3 HV.out).mono ?_
  rintro e w4 ⟨v4, rfl, hI4, ho4⟩
  obtain ⟨n1, n2, n3⟩ := next_ok_eq (n := 2) (xs := s.drop 8) (by have := HL.out; simp; omega)
  rw [n1]
  rw [n2, n3] at hI4
  have HK4 := Lib.hid (HK3.out.step hI4 ho4)
  obtain ⟨x2, hx2⟩ : ∃ x, x = numB ((s.drop 8).take 2) := ⟨_, rfl⟩
  have hb2 : (x2 : Int) ≤ 65535 := by rw [hx2]; have := numB2 (s.drop 8); omega
  rw [← hx2]
  have HX2 := Lib.hid hx2
  clear n1 n2 n3 hI4 ho4 HV HK3 hx2
  go_wp2_with fail
  obtain ⟨v, hv⟩ := HK4.out.inn
  have HV := Lib.hid hv; clear hv
  refine (inU16 ip v _ false w4 HV.out).mono ?_
  rintro e w5 ⟨v5, rfl, hI5, ho5⟩
  obtain ⟨n1, n2, n3⟩ := next_ok_eq (n := 2) (xs := (s.drop 8).drop 2) (by have := HL.out; simp; omega)
  rw [n1]
  rw [n2, n3] at hI5
  have HK5 := Lib.hid (HK4.out.step hI5 ho5)
  obtain ⟨x3, hx3⟩ : ∃ x, x = numB ((s.drop 10).take 2) := ⟨_, rfl⟩
  have hb3 : (x3 : Int) ≤ 65535 := by rw [hx3]; have := numB2 (s.drop 10); omega
  rw [show ((s.drop 8).drop 2) = s.drop 10 by rw [List.drop_drop], ← hx3]
  have HX3 := Lib.hid hx3
  clear n1 n2 n3 hI5 ho5 HV HK4 hx3
  go_wp2_with fail
  have hk6 := HK5.out.alloc #[.int .u64 x1, .int .i64 x2, .int .i64 x3, .string ByteArray.empty]
  have hne : w.heap.size ≠ w5.heap.size := by
    have := lt_of_some HK5.out.at4
    omega
  have hd12 : ((s.drop 8).drop 2).drop 2 = s.drop 12 := by simp only [List.drop_drop]
  rw [hd12] at hk6
  have HK6 := Lib.hid hk6
  have HNE := Lib.hid hne
  clear hk6 HK5 hne hd12
  obtain ⟨v, hv⟩ := HK6.out.inn
  have HV := Lib.hid hv; clear hv
  refine (inText ip v _ false _ HV.out).mono ?_
  rintro e w6 ⟨v6, rfl, hI6, ho6⟩
  have hk7 := HK6.out.step hI6 ho6
  have c3 := hk7.cell9 3
  have f3 := hk7.free9 3
  simp at c3
  obtain ⟨q, hq⟩ : ∃ q, q = w5.heap.size := ⟨_, rfl⟩
  rw [← hq] at hk7 c3 f3 HNE ⊢
  have hok : txtOk (s.drop 12) false = decide (pkS s ≤ 50) := by
    have hl : 2 ≤ (s.drop 12).length ∧ ((s.drop 12).drop 2).length = 50 := by have := HL.out; simp; omega
    simp only [txtOk, can, txtN, pkS, hl.2, decide_eq_true hl.1]
    rfl
  obtain ⟨ok, hoke⟩ : ∃ ok, ok = decide (pkS s ≤ 50) := ⟨_, rfl⟩
  rw [hok, ← hoke] at hk7
  obtain ⟨dt, hdt⟩ : ∃ dt, dt = txtR (s.drop 12) false := ⟨_, rfl⟩
  rw [← hdt]
  obtain ⟨ys, hys⟩ : ∃ ys, ys = txtL (s.drop 12) false := ⟨_, rfl⟩
  rw [← hys] at hk7
  have hz : ok = true → zerosB ys = zerosB (s.drop (14 + pkS s)) := fun h => by
    rw [hys, txtL, hok, ← hoke, h, if_pos rfl, List.drop_drop, List.drop_drop]
    congr 2
    simp only [txtN, pkS]
    omega
  have hd : ok = true → dt = (s.drop 14).take (pkS s) := fun h => by
    rw [hdt, txtR, hok, ← hoke, h, if_pos rfl, List.drop_drop]
    rfl
  have HK7 : Hid (TkL w (w6.setCell ⟨q, 3, none⟩ (.string ⟨dt.toArray⟩)) ip q w.heap.size #[.int .u64 x1, .int .i64 x2, .int .i64 x3, .string ⟨dt.toArray⟩] #[.int .u64 0, .int .i64 0, .int .i64 0, .string ByteArray.empty] s ok ys) :=
    Lib.hid ⟨hk7.set9 HNE.out 3 _, hz⟩
  have HOK := Lib.hid hoke
  have HD := Lib.hid hd
  clear hk7 HK6 hI6 ho6 HV hq hok hoke hdt hys hz hd
  go_wp2_with fail
  go_loopw [5] (fun b wr => b = .bool false ∧ ∃ ys, Hid (TkL w wr ip q w.heap.size #[.int .u64 x1, .int .i64 x2, .int .i64 x3, .string ⟨dt.toArray⟩] #[.int .u64 0, .int .i64 0, .int .i64 0, .string ByteArray.empty] s ok ys)) (fun _ wr => lenOf (wr.cell? ⟨ip, 0, none⟩))
  case atStart => exact ⟨rfl, ys, HK7⟩
  case round =>
    clear HK7 c3 f3 ys
    obtain ⟨rfl, ys, HI⟩ := hrel
    obtain ⟨v, hv⟩ := HI.out.1.inn
    obtain ⟨ao, cap, rfl, _⟩ := hv.sl.shape
    have c1 := hv.cell1
    have c0 := hv.cell0
    have HV := Lib.hid hv
    clear hv
    have cc := HI.out.1.cell9
    have d0 := cc 0
    have d1 := cc 1
    have d2 := cc 2
    have d3 := cc 3
    have k0 := HI.out.1.cell4 0
    have k1 := HI.out.1.cell4 1
    have k2 := HI.out.1.cell4 2
    have k3 := HI.out.1.cell4 3
    have m0 := HI.out.1.free4 0
    have m1 := HI.out.1.free4 1
    have m2 := HI.out.1.free4 2
    have m3 := HI.out.1.free4 3
    simp at d0 d1 d2 d3 k0 k1 k2 k3
    clear cc
    have HO := Lib.hid HI.out.1.only
    have hsc : ∀ u0 u1 u2 u3, Only (fun _ => False) w ((((wr.setCell ⟨w.heap.size, 0, none⟩ u0).setCell ⟨w.heap.size, 1, none⟩ u1).setCell ⟨w.heap.size, 2, none⟩ u2).setCell ⟨w.heap.size, 3, none⟩ u3) := fun u0 u1 u2 u3 =>
      (((HO.out.setCell (fun h => absurd h (Nat.lt_irrefl _)) u0).setCell (fun h => absurd h (Nat.lt_irrefl _)) u1).setCell (fun h => absurd h (Nat.lt_irrefl _)) u2).setCell (fun h => absurd h (Nat.lt_irrefl _)) u3
    have HSC := Lib.hid hsc
    clear hsc
    cases ok with
    | false =>
      have hoks : okSec s = false := by simp [okSec, ← HOK.out]
      have HVd := Lib.hid (HV.out.keep ((Only.refl (fun _ => False) wr).drew) (fun h => h) (fun _ _ _ h => h))
      have HNZ := Lib.hid hoks
      clear HI hoks
      go_wp2_with fail
      refine (bad_any ip true wr c1).mono ?_
      rintro e w' ⟨rfl, rfl⟩
      go_upto_region 10 with fail
      go_still_tail 3, (by kernel_rfl)
      still_call ((inDone ip _ ys true _ HVd.out).mono (fun _ _ ⟨a, b⟩ => ⟨a, b.symm⟩))
      refine wpStill_nil ?_
      change wpList _ _ _ _ _ wr.drew
      go_wp2
      refine bodyPost_ret (v := .tuple #[.agg #[.int .u64 x1, .int .i64 x2, .int .i64 x3, .string ⟨dt.toArray⟩], .bool false]) (by simp [results, Try.results44, go_sem, k0, k1, k2, k3]) rfl ?_
      exact ⟨⟨x1, x2, x3, dt⟩, by rw [HNZ.out]; rfl, fun h => by rw [HNZ.out] at h; simp at h, (HSC.out _ _ _ _).drew⟩
    | true =>
      have hzb := HI.out.2 rfl
      have hoks : okSec s = zerosB ys := by simp [okSec, ← HOK.out, hzb]
      cases ys with
      | nil =>
        have HVd := Lib.hid (HV.out.keep ((Only.refl (fun _ => False) wr).drew) (fun h => h) (fun _ _ _ h => h))
        have HNZ : Hid (okSec s = true) := Lib.hid (by rw [hoks]; rfl)
        clear HI hoks hzb
        simp only [List.length_nil, Bool.not_true] at c0 c1
        go_wp2_with fail
        refine (bad_any ip false wr c1).mono ?_
        rintro e w' ⟨rfl, rfl⟩
        go_wp2_with fail
        refine (left_any ip ao 0 cap wr c0).mono ?_
        rintro e w' ⟨rfl, rfl⟩
        go_upto_region 10 with fail
        go_still_tail 3, (by kernel_rfl)
        still_call ((inDone ip _ [] false _ HVd.out).mono (fun _ _ ⟨a, b⟩ => ⟨a, b.symm⟩))
        refine wpStill_nil ?_
        change wpList _ _ _ _ _ wr.drew
        go_wp2
        refine bodyPost_ret (v := .tuple #[.agg #[.int .u64 x1, .int .i64 x2, .int .i64 x3, .string ⟨dt.toArray⟩], .bool true]) (by simp [results, Try.results44, go_sem, k0, k1, k2, k3]) rfl ?_
        exact ⟨⟨x1, x2, x3, dt⟩, by rw [HNZ.out]; rfl, fun _ => by rw [HX1.out, HX2.out, HX3.out, HD.out (by first | rfl | trivial)]; rfl, (HSC.out _ _ _ _).drew⟩
      | cons y t =>
        simp only [List.length_cons, Bool.not_true] at c0 c1
        obtain ⟨n1, n2, n3⟩ := next_ok_eq (n := 1) (xs := y :: t) (by simp)
        have hlc : (0 : Int) < ((t.length + 1 : Nat) : Int) := by omega
        have HZB := Lib.hid hzb
        have HNZ := Lib.hid hoks
        have HN1 := Lib.hid n1
        have HN2 := Lib.hid n2
        have HN3 := Lib.hid n3
        clear hzb hoks n1 n2 n3
        go_wp2_with fail
        refine (bad_any ip false wr c1).mono ?_
        rintro e w' ⟨rfl, rfl⟩
        go_wp2_with fail
        refine (left_any ip ao (t.length + 1) cap wr c0).mono ?_
        rintro e w' ⟨rfl, rfl⟩
        go_wp2_with fail
        refine (inU8 ip _ (y :: t) false wr HV.out).mono ?_
        rintro e w8 ⟨v8, rfl, hI8, ho8⟩
        rw [HN1.out]
        rw [HN2.out, HN3.out] at hI8
        have hk8 := HI.out.1.step hI8 ho8
        have hny : numB (List.take 1 (y :: t)) = y.toNat := by simp [numB]
        rw [hny]
        by_cases hy : y.toNat = 0
        · have hyI : (y.toNat : Int) = 0 := by omega
          rw [hyI]
          have hy0 : y = 0 := by rw [← UInt8.toNat_inj]; exact hy
          have hlen8 : lenOf (w8.cell? ⟨ip, 0, none⟩) = t.length := hI8.len
          have HK8 : Hid (TkL w w8 ip q w.heap.size #[.int .u64 x1, .int .i64 x2, .int .i64 x3, .string ⟨dt.toArray⟩] #[.int .u64 0, .int .i64 0, .int .i64 0, .string ByteArray.empty] s true t) :=
            Lib.hid ⟨hk8, fun _ => by rw [← HZB.out, hy0]; simp [zerosB]⟩
          have hlen : lenOf (wr.cell? ⟨ip, 0, none⟩) = t.length + 1 := HV.out.len
          have HLN := Lib.hid hlen
          have HLN8 := Lib.hid hlen8
          clear hI8 ho8 hk8 hy hyI hny hy0 HI HV hlen hlen8
          go_wp2
          go_roundw
          case rel => exact ⟨rfl, t, HK8⟩
          case measure => rw [HLN.out, HLN8.out]; omega
        · have hyI : ¬ (y.toNat : Int) = 0 := by omega
          have hyB : ((y.toNat : Int) == 0) = false := by simpa using hyI
          have hoks : okSec s = false := by
            rw [HNZ.out]
            have : (y == 0) = false := by
              cases hb : (y == 0)
              · rfl
              · have : y = 0 := by simpa using hb
                subst this
                exact absurd rfl hy
            simp [zerosB, this]
          have k0' := hk8.cell4 0
          have k1' := hk8.cell4 1
          have k2' := hk8.cell4 2
          have k3' := hk8.cell4 3
          have m0' := hk8.free4 0
          have m1' := hk8.free4 1
          have m2' := hk8.free4 2
          have m3' := hk8.free4 3
          simp at k0' k1' k2' k3'
          have HO8 := Lib.hid hk8.only
          have HNS := Lib.hid hoks
          clear hI8 ho8 hk8 hy hny HI HV hoks
          go_wp2
          refine bodyPost_ret (v := .tuple #[.agg #[.int .u64 0, .int .i64 0, .int .i64 0, .string ⟨#[]⟩], .bool false]) (by simp [results, Try.results44, go_sem, k0', k1', k2', k3']) rfl ?_
          refine ⟨⟨0, 0, 0, []⟩, by rw [HNS.out]; rfl, fun h => by rw [HNS.out] at h; simp at h, ?_⟩
          exact (((HO8.out.setCell (fun h => absurd h (Nat.lt_irrefl _)) _).setCell (fun h => absurd h (Nat.lt_irrefl _)) _).setCell (fun h => absurd h (Nat.lt_irrefl _)) _).setCell (fun h => absurd h (Nat.lt_irrefl _)) _

end Go.Proofs.Ytidkeglldmbfeaa
