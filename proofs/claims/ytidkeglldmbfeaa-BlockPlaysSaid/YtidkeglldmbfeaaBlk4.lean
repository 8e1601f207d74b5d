/-
  Package block's Read.
-/
import Derived.Test.YtidkeglldmbfeaaBlk3
namespace Go.Proofs.Ytidkeglldmbfeaa
open Go Go.RowKit Go.Lib
set_option linter.unusedVariables false
set_option linter.unusedSimpArgs false
set_option maxRecDepth 100000

/-- Sector i goes on with the block: it holds part k of c of block id, and all ahead of it are full. -/
def DS.goodAt (D : DS) (s id c k : Nat) (acc : List UInt8) : Bool :=
  decide (s + k < D.n) && okSec (sec D.N (s + k)) && decide ((partOf (sec D.N (s + k))).id = id) && decide ((partOf (sec D.N (s + k))).place = k) && decide ((partOf (sec D.N (s + k))).count = c) && decide (acc.length = k * 50)
def DS.rdAcc (D : DS) (s id c : Nat) : Nat → Option (List UInt8)
  | 0 => some []
  | k + 1 => match D.rdAcc s id c k with
    | none => none
    | some acc => if D.goodAt s id c k acc then some (acc ++ (partOf (sec D.N (s + k))).data) else none
def fstC (D : DS) (s : Nat) : Nat := (partOf (sec D.N s)).count
def DS.rd (D : DS) (s id : Nat) : Option (List UInt8) :=
  if okSec (sec D.N s) then match D.rdAcc s id (fstC D s) (fstC D s) with
    | none => none
    | some acc => if cnt acc.length = fstC D s then some acc else none
  else none
theorem rdAcc_none {D : DS} {s id c k : Nat} (h : D.rdAcc s id c k = none) (j : Nat) : D.rdAcc s id c (k + j) = none := by
  induction j with
  | zero => exact h
  | succ j ih => show (match D.rdAcc s id c (k + j) with | none => none | some acc => _) = none; rw [ih]
theorem rdAcc_len {D : DS} {s id c k : Nat} {acc : List UInt8} (h : D.rdAcc s id c k = some acc) (hc : okSec (sec D.N s) = true) : acc.length ≤ k * 50 ∧ (0 < k → s + k ≤ D.n) := by
  induction k generalizing acc with
  | zero => simp [DS.rdAcc] at h; subst h; simp
  | succ k ih =>
    unfold DS.rdAcc at h
    cases h2 : D.rdAcc s id c k with
    | none => rw [h2] at h; simp at h
    | some acc2 =>
      rw [h2] at h
      simp only at h
      split at h
      · rename_i hg
        simp at h
        subst h
        obtain ⟨h3, _⟩ := ih h2
        simp only [DS.goodAt, Bool.and_eq_true, decide_eq_true_eq] at hg
        obtain ⟨⟨⟨⟨⟨g1, g2⟩, _⟩, _⟩, _⟩, g6⟩ := hg
        have hp : pkS (sec D.N (s + k)) ≤ 50 := by simp [okSec] at g2; exact g2.1
        refine ⟨?_, fun _ => by omega⟩
        simp only [List.length_append, partOf, List.length_take]
        omega
      · simp at h

def RdPost (w : World) (r : Option (List UInt8)) (e : Ending) (w' : World) : Prop :=
  match r with
  | none => e = .returned (.tuple #[.slice none 0 0, .int .i64 2]) ∧ Only (fun _ => False) w w'
  | some xs => ∃ v, e = .returned (.tuple #[v, .int .i64 0]) ∧ w'.ownsRow w.heap.size 5 1 v xs.length (u8s xs) ∧ Only (fun _ => False) w w'
theorem RdPost.bad {w w' : World} {r : Option (List UInt8)} {e : Ending} (hr : r = none) (he : e = .returned (.tuple #[.slice none 0 0, .int .i64 2])) (ho : Only (fun _ => False) w w') : RdPost w r e w' := by
  subst hr; exact ⟨he, ho⟩

/-- take, its part in words. -/
def TkPost2 (w : World) (s : List UInt8) (e : Ending) (w' : World) : Prop :=
  ∃ (a b c : Nat) (d : List UInt8), e = .returned (.tuple #[.agg #[.int .u64 a, .int .i64 b, .int .i64 c, .string ⟨d.toArray⟩], .bool (okSec s)]) ∧ (okSec s = true → Part.mk a b c d = partOf s) ∧ Only (fun _ => False) w w'
theorem take_any2 {w : World} {p gn gk : Nat} {vw : Value} {D : DS} (hD : DiskAt w p gn gk vw D) (i : Nat) (hi : i < D.n) :
    Calls Try.prog 44 #[.pointer (some ⟨p, 0, none⟩), .int .i64 i] w (TkPost2 w (sec D.N i)) := by
  refine (take_any hD i hi).mono ?_
  rintro e w' ⟨⟨a, b, c, d⟩, rfl, h1, h2⟩
  exact ⟨a, b, c, d, rfl, h1, h2⟩

theorem wp_str {ops : Array Oper} {rest : List Oper} {o : Oper} {a : Act} {Q : Exit → Act → World → Prop} (w : World) (B : Nat) (hB : B ≤ w.heap.size) (v : Value) (xs : List UInt8) (s : ByteArray) (hV : w.ownsRow B 5 1 v xs.length (u8s xs)) (hlen : xs.length + s.size ≤ 140737488355328)
    (hgd : o.guard = none) (sl x : Operand) (ho : o.op = .call { callee := .builtin .append, args := #[sl, x], argTypes := #[31, 9] }) (hty : o.type = 31)
    (hs : a.eval sl = v) (hx : a.eval x = .string s)
    (h : ∀ ao cap w', Hid (w'.ownsRow B 5 1 (.slice ao (xs.length + s.size) cap) (xs ++ s.data.toList).length (u8s (xs ++ s.data.toList))) → Hid (w.grownBy w' v.ownBlock) → wpList Try.prog ops Q rest (a.put o.dst (.slice ao (xs.length + s.size) cap)) w') :
    wpList Try.prog ops Q (o :: rest) a w := by
  refine wpList_plain hgd fun K hK => ?_
  obtain ⟨i0, hi, hz0, hz1, hz2⟩ := info_parts Try.infoU8
  have h63 : xs.length + s.size ≤ maxLen := by unfold maxLen; omega
  obtain ⟨v', w', hr, h2, h3, h4⟩ := run_append_own_string (P := Try.prog) w B 31 9 31 5 i0 Try.underlying31 Try.underlying9 hi hz0 hz1 hz2 v xs.length (u8s xs) hV s h63 hlen hB
  obtain ⟨ao, cap, rfl⟩ := own_shape h2
  unfold Oper.wp execOp
  simp only [ho, hty, resolve, invoke, builtin, Sem.run_bind, Sem.run_pure, Result.andThen_ok, List.map_toArray, List.map_cons, List.map_nil, hs, hx, hr]
  refine hK _ _ (h _ _ _ (Lib.hid ?_) h3)
  rw [u8s_append, List.length_append, Array.length_toList]
  exact h2

theorem blk_read_nil (s : Int) (id : Nat) (w : World) :
    Calls Try.prog 35 #[.pointer none, .int .i64 s, .int .u64 id] w fun e w' => e = .returned (.tuple #[.slice none 0 0, .int .i64 11]) ∧ w = w' := by
  go_enter Try.func35, Try.ntmps35
  go_wp2
  go_ret2
  exact ⟨rfl, rfl⟩

set_option maxHeartbeats 1000000 in
theorem blk_read_arg {w : World} {p gn gk : Nat} {vw : Value} {D : DS} (hD : DiskAt w p gn gk vw D) (z : Int) (id : Nat) (hb : id = 0 ∨ D.has z = false) :
    Calls Try.prog 35 #[.pointer (some ⟨p, 0, none⟩), .int .i64 z, .int .u64 id] w fun e w' => e = .returned (.tuple #[.slice none 0 0, .int .i64 1]) ∧ w = w' := by
  have HSZ := Lib.hid (disk_size hD)
  clear hD
  by_cases h0 : id = 0
  · subst h0
    clear hb
    go_enter Try.func35, Try.ntmps35
    go_wp2
    go_ret2
    exact ⟨rfl, rfl⟩
  · have hb : D.has z = false := hb.resolve_left h0
    have hbI : ((id : Int) == 0) = false := by simpa using h0
    by_cases h1 : z < 0
    · clear hb
      go_enter Try.func35, Try.ntmps35
      go_wp2
      go_ret2
      exact ⟨rfl, rfl⟩
    · have h2 : (D.n : Int) ≤ z := by simp [DS.has] at hb; omega
      have h3 : decide (z < 0) = false := by simpa using h1
      have h4 : decide ((D.n : Int) ≤ z) = true := by simpa using h2
      clear hb
      go_enter Try.func35, Try.ntmps35
      go_wp2_with fail
      refine HSZ.out.mono ?_
      rintro e w' ⟨rfl, rfl⟩
      go_wp2
      go_ret2
      exact ⟨rfl, rfl⟩

/-- Behind k rounds of Read's loop. -/
structure RdI (w wr : World) (q8 : Nat) (cs : Array Value) (D : DS) (s id c k : Nat) (v : Value) (acc : List UInt8) : Prop where
  got : D.rdAcc s id c k = some acc
  row : wr.ownsRow w.heap.size 5 1 v acc.length (u8s acc)
  box : wr.heap[q8]? = some (.cells cs 75 (0, 0))
  gq : w.heap.size ≤ q8
  only : Only (fun _ => False) w wr

theorem DiskAt.quiet {w w' : World} {p gn gk : Nat} {vw : Value} {D : DS} (hD : DiskAt w p gn gk vw D) (ho : Only (fun _ => False) w w') : DiskAt w' p gn gk vw D :=
  hD.keep fun k hk => ho.block k (by
    rcases hk with rfl | rfl | rfl | hk
    · exact lt_of_some hD.at'
    · exact lt_of_some hD.now
    · exact lt_of_some hD.kept
    · exact own_lt hD.row hk) (fun h => h)

set_option maxHeartbeats 8000000 in
theorem blk_read_go {w : World} {p gn gk : Nat} {vw : Value} {D : DS} (hD : DiskAt w p gn gk vw D) (s id : Nat) (hs : s < D.n) (h0 : id ≠ 0) :
    Calls Try.prog 35 #[.pointer (some ⟨p, 0, none⟩), .int .i64 s, .int .u64 id] w (RdPost w (D.rd s id)) := by
  have HSZ := Lib.hid (disk_size hD)
  have hDn := hD.ok.n
  have hbI : ((id : Int) == 0) = false := by simpa using h0
  obtain ⟨z, hz⟩ : ∃ z : Int, z = (s : Int) := ⟨_, rfl⟩
  have h3 : decide (z < 0) = false := by simp; omega
  have h4 : decide ((D.n : Int) ≤ z) = false := by simp; omega
  have hz0 : 0 ≤ z := by omega
  have hz1 : z ≤ 4096 := by omega
  rw [← hz]
  have HZ := Lib.hid hz
  have HD := Lib.hid hD
  have HS := Lib.hid hs
  have HDN := Lib.hid hDn
  clear hD hs hz hDn
  go_enter Try.func35, Try.ntmps35
  go_wp2_with fail
  refine HSZ.out.mono ?_
  rintro e w' ⟨rfl, rfl⟩
  go_wp2_with fail
  rw [HZ.out]
  refine (take_any2 HD.out s HS.out).mono ?_
  rintro e w1 ⟨a, b, c, d, rfl, hP, ho1⟩
  rw [← HZ.out]
  have HP := Lib.hid hP; clear hP
  have HO1 := Lib.hid ho1; clear ho1
  cases hok : okSec (sec D.N s) with
  | false =>
    have hr : D.rd s id = none := by simp [DS.rd, hok]
    have HR := Lib.hid hr
    clear hok hr HP
    go_wp2
    refine bodyPost_ret (v := .tuple #[.slice none 0 0, .int .i64 2]) (by simp [results, Try.results35, go_sem]) rfl ?_
    exact RdPost.bad HR.out rfl (HO1.out.alloc _)
  | true =>
    have hPe := HP.out hok
    have hc : c = fstC D s := by unfold fstC; rw [← hPe]
    have hcl : c < 65536 := by rw [hc]; exact numB2 _
    have hclI : (c : Int) ≤ 65535 := by omega
    have HOK := Lib.hid hok
    have HC := Lib.hid hc
    clear HP hok hPe hc hcl
    obtain ⟨q8, hq8⟩ : ∃ q, q = w1.heap.size := ⟨_, rfl⟩
    have hI0 : RdI w (w1.alloc (.cells #[.int .u64 a, .int .i64 b, .int .i64 c, .string ⟨d.toArray⟩] 75)) q8 #[.int .u64 a, .int .i64 b, .int .i64 c, .string ⟨d.toArray⟩] D s id c 0 (.slice none 0 0) [] :=
      ⟨rfl, World.ownsRow_nil _ _ _ _, by rw [hq8]; exact heap_alloc_new w1 _, by rw [hq8]; exact HO1.out.size, HO1.out.alloc _⟩
    have HI0 := Lib.hid hI0
    have hc2 : (w1.alloc (.cells #[.int .u64 a, .int .i64 b, .int .i64 c, .string ⟨d.toArray⟩] 75)).cell? ⟨q8, 2, none⟩ = some (.int .i64 c) := by simp [World.cell?, hI0.box]
    clear hI0
    go_upto_region 9 with fail
    rw [← hq8]
    clear hq8
    go_wp2_with fail
    go_loopw [10, 38] (fun dv i wr => ∃ (k : Nat) (acc : List UInt8) (ao : Option Addr) (cp : Nat), k ≤ c ∧ i = .int .i64 k ∧ dv = .slice ao acc.length cp ∧ Hid (RdI w wr q8 #[.int .u64 a, .int .i64 b, .int .i64 c, .string ⟨d.toArray⟩] D s id c k (.slice ao acc.length cp) acc)) (fun _ i _ => c - (intOf i).toNat)
    case atStart => exact ⟨0, [], none, 0, Nat.zero_le _, rfl, rfl, HI0⟩
    case round =>
      clear HI0 hc2
      obtain ⟨k, acc, ao, cp, hk, rfl, rfl, HI⟩ := hrel
      by_cases hlt : k < c
      · have hltI : (k : Int) < (c : Int) := by omega
        have hk0 : (0 : Int) ≤ (k : Int) := by omega
        have HLT := Lib.hid hlt
        clear hlt hk
        have hkD : (k : Int) ≤ 4096 := by
          by_cases hk1 : 0 < k
          · have h1 := (rdAcc_len HI.out.got HOK.out).2 hk1
            have h2 := HDN.out
            omega
          · omega
        have hal : acc.length ≤ 204800 := by
          have h1 := (rdAcc_len HI.out.got HOK.out).1
          omega
        have HAL := Lib.hid hal
        have bad : ∀ {j : Nat}, D.rdAcc s id c (k + 1) = none → D.rd s id = none := fun {j} h => by
          have h1 := rdAcc_none h (c - (k + 1))
          rw [show k + 1 + (c - (k + 1)) = c by have := HLT.out; omega] at h1
          unfold DS.rd
          rw [HOK.out, if_pos rfl, ← HC.out, h1]
        have hstep : D.goodAt s id c k acc = false → D.rd s id = none := fun h => bad (j := 0) (by
          show (match D.rdAcc s id c k with | none => none | some acc => _) = none
          rw [HI.out.got]
          simp [h])
        have hgo : D.goodAt s id c k acc = true → D.rdAcc s id c (k + 1) = some (acc ++ (partOf (sec D.N (s + k))).data) := fun h => by
          show (match D.rdAcc s id c k with | none => none | some acc => _) = _
          rw [HI.out.got]
          simp [h]
        have HB := Lib.hid hstep
        have HG := Lib.hid hgo
        have HDr := Lib.hid (HD.out.quiet HI.out.only)
        clear bad hstep hgo hal
        by_cases hin : s + k < D.n
        · have HIN := Lib.hid hin
          have hzk : z + (k : Int) = ((s + k : Nat) : Int) := by rw [HZ.out]; omega
          have HZK := Lib.hid hzk
          clear hin hzk
          go_wp2_with fail
          rw [HZK.out]
          refine (take_any2 HDr.out (s + k) HIN.out).mono ?_
          rintro e w2 ⟨a2, b2, c2, d2, rfl, hP2, ho2⟩
          rw [← HZK.out]
          have HP2 := Lib.hid hP2; clear hP2
          have HI2 : Hid (RdI w w2 q8 #[.int .u64 a, .int .i64 b, .int .i64 c, .string ⟨d.toArray⟩] D s id c k (.slice ao acc.length cp) acc) :=
            Lib.hid ⟨HI.out.got, own_keep HI.out.row ho2, ho2.keep HI.out.box (fun h => h), HI.out.gq, HI.out.only.trans ho2 (fun _ _ h => h)⟩
          clear ho2 HI HDr
          cases hok : okSec (sec D.N (s + k)) with
          | false =>
            have hr : D.rd s id = none := HB.out (by simp [DS.goodAt, hok])
            have HR := Lib.hid hr
            clear hok hr HP2 HG HB
            go_wp2
            refine bodyPost_ret (v := .tuple #[.slice none 0 0, .int .i64 2]) (by simp [results, Try.results35, go_sem]) rfl ?_
            exact RdPost.bad HR.out rfl (HI2.out.only.alloc _)
          | true =>
            have hPe := HP2.out hok
            have HPE := Lib.hid hPe
            have HOK2 := Lib.hid hok
            have hgd : D.goodAt s id c k acc = (decide (a2 = id) && decide (b2 = k) && decide (c2 = c) && decide (acc.length = k * 50)) := by
              simp only [DS.goodAt, ← hPe, hok, HIN.out, decide_true, Bool.true_and, Bool.and_true]
            have HGD := Lib.hid hgd
            have hbox : (w2.alloc (.cells #[.int .u64 a2, .int .i64 b2, .int .i64 c2, .string ⟨d2.toArray⟩] 75)).cell? ⟨q8, 2, none⟩ = some (.int .i64 c) := by
              have := ((Only.refl (fun _ => False) w2).alloc (.cells #[.int .u64 a2, .int .i64 b2, .int .i64 c2, .string ⟨d2.toArray⟩] 75)).keep HI2.out.box (fun h => h)
              simp [World.cell?, this]
            clear HP2 hPe hok hgd
            by_cases e1 : a2 = id
            · by_cases e2 : b2 = k
              · by_cases e3 : c2 = c
                · have e1' := e1.symm
                  have e2' := e2.symm
                  have e3' := e3.symm
                  subst e1' e2' e3'
                  clear e1 e2 e3
                  by_cases e4 : acc.length = k * 50
                  · have hg := HG.out (by rw [HGD.out]; simp [e4])
                    rw [← HPE.out] at hg
                    simp only at hg
                    have hd2 : d2.length ≤ 50 := by
                      have h1 := HOK2.out
                      have h2 : d2 = (partOf (sec D.N (s + k))).data := by rw [← HPE.out]
                      simp [okSec] at h1
                      rw [h2]
                      simp only [partOf, List.length_take]
                      omega
                    have e4I : (acc.length : Int) = (k : Int) * 50 := by omega
                    have e4B : ((acc.length : Int) == (k : Int) * 50) = true := by simp [e4I]
                    have e4N : ((acc.length : Int) != (k : Int) * 50) = false := by simp [e4I]
                    have hal2 := ((Only.refl (fun _ => False) w2).alloc (.cells #[.int .u64 id, .int .i64 k, .int .i64 c, .string ⟨d2.toArray⟩] 75))
                    have HROW := Lib.hid (own_keep HI2.out.row hal2)
                    have HBX := Lib.hid (hal2.keep HI2.out.box (fun h => h))
                    have HON := Lib.hid (HI2.out.only.trans hal2 (fun _ _ h => h))
                    have HGQ := Lib.hid HI2.out.gq
                    have HGN := Lib.hid hg
                    have HD2 := Lib.hid hd2
                    have H4 := Lib.hid e4
                    clear HG HB HGD HPE hg hd2 hal2 e4 HI2 e4I
                    go_upto_region 17 with fail
                    go_wp2_with (with_reducible refine wp_str _ w.heap.size HON.out.size _ acc ⟨d2.toArray⟩ HROW.out (by have := HAL.out; have := HD2.out; simp [ByteArray.size]; omega) rfl (.tmp 75) (.tmp 77) rfl rfl rfl rfl ?_; intro ao4 cp4 w4 hr4 hg4)
                    have hne8 : (Value.slice ao acc.length cp).ownBlock ≠ some q8 := own_type HROW.out HBX.out (by decide)
                    have HI4 : Hid (RdI w w4 q8 #[.int .u64 a, .int .i64 b, .int .i64 c, .string ⟨d.toArray⟩] D s id c (k + 1) (.slice ao4 (acc ++ d2).length cp4) (acc ++ d2)) := by
                      have hr5 := hr4.out
                      simp only [ByteArray.size] at hr5
                      rw [show acc.length + d2.toArray.size = (acc ++ d2).length by simp] at hr5
                      refine Lib.hid ⟨HGN.out, hr5, (hg4.out.block q8 (lt_of_some HBX.out) (fun e => hne8 e.symm)).trans HBX.out, HGQ.out, HON.out.grown hg4.out (fun q hq e => ?_)⟩
                      have := (HROW.out.lt q e).1
                      omega
                    clear hr4 hg4 hne8
                    constructor
                    · exact ⟨k + 1, acc ++ d2, ao4, cp4, HLT.out, by go_num, by rw [List.length_append], HI4⟩
                    · have := HLT.out; simp [intOf]; omega
                  · have HR := Lib.hid (HB.out (by rw [HGD.out]; simp [e4]))
                    have e4I : ¬ (acc.length : Int) = (k : Int) * 50 := by omega
                    have e4B : ((acc.length : Int) == (k : Int) * 50) = false := by simpa using e4I
                    have e4N : ((acc.length : Int) != (k : Int) * 50) = true := by simpa using e4I
                    clear HG HB HGD HPE e4
                    go_wp2
                    refine bodyPost_ret (v := .tuple #[.slice none 0 0, .int .i64 2]) (by simp [results, Try.results35, go_sem]) rfl ?_
                    exact RdPost.bad HR.out rfl (HI2.out.only.alloc _)
                · have HR := Lib.hid (HB.out (by rw [HGD.out]; simp [e3]))
                  subst e1 e2
                  have e3I : ((c2 : Int) == (c : Int)) = false := by simp; omega
                  have e3N : ((c2 : Int) != (c : Int)) = true := by simp; omega
                  have e3' : ¬ (c2 : Int) = (c : Int) := by omega
                  clear HG HB HGD HPE
                  go_wp2
                  refine bodyPost_ret (v := .tuple #[.slice none 0 0, .int .i64 2]) (by simp [results, Try.results35, go_sem]) rfl ?_
                  exact RdPost.bad HR.out rfl (HI2.out.only.alloc _)
              · have HR := Lib.hid (HB.out (by rw [HGD.out]; simp [e2]))
                subst e1
                have e2I : ((b2 : Int) == (k : Int)) = false := by simp; omega
                have e2N : ((b2 : Int) != (k : Int)) = true := by simp; omega
                have e2' : ¬ (b2 : Int) = (k : Int) := by omega
                clear HG HB HGD HPE
                go_wp2
                refine bodyPost_ret (v := .tuple #[.slice none 0 0, .int .i64 2]) (by simp [results, Try.results35, go_sem]) rfl ?_
                exact RdPost.bad HR.out rfl (HI2.out.only.alloc _)
            · have HR := Lib.hid (HB.out (by rw [HGD.out]; simp [e1]))
              have e1I : ((a2 : Int) == (id : Int)) = false := by simp; omega
              have e1N : ((a2 : Int) != (id : Int)) = true := by simp; omega
              have e1' : ¬ (a2 : Int) = (id : Int) := by omega
              clear HG HB HGD HPE
              go_wp2
              refine bodyPost_ret (v := .tuple #[.slice none 0 0, .int .i64 2]) (by simp [results, Try.results35, go_sem]) rfl ?_
              exact RdPost.bad HR.out rfl (HI2.out.only.alloc _)
        · have hh : D.has (z + (k : Int)) = false := by
            rw [HZ.out]; simp [DS.has]; omega
          have hr : D.rd s id = none := HB.out (by simp [DS.goodAt, hin])
          have HH := Lib.hid hh
          have HR := Lib.hid hr
          clear hin hh hr HB HG
          go_wp2_with fail
          refine (take_gone HDr.out _ HH.out).mono ?_
          rintro e w2 ⟨rfl, ho2⟩
          simp only [Part.val, Part.zero]
          have HO2 := Lib.hid ho2; clear ho2
          go_wp2
          refine bodyPost_ret (v := .tuple #[.slice none 0 0, .int .i64 2]) (by simp [results, Try.results35, go_sem]) rfl ?_
          exact RdPost.bad HR.out rfl ((HI.out.only.trans HO2.out (fun _ _ h => h)).alloc _)
      · have hkc : k = c := by omega
        subst hkc
        have hltI : ¬ (k : Int) < (k : Int) := by omega
        have hbox : wr.cell? ⟨q8, 2, none⟩ = some (.int .i64 k) := by simp [World.cell?, HI.out.box]
        have hal : acc.length ≤ 4611686018427387904 := by
          have h1 := (rdAcc_len HI.out.got HOK.out).1
          omega
        have hrd : D.rd s id = if cnt acc.length = k then some acc else none := by
          unfold DS.rd
          rw [HOK.out, if_pos rfl, ← HC.out, HI.out.got]
        have HRD := Lib.hid hrd
        have HAL := Lib.hid hal
        clear hrd hal hk hlt
        go_upto_region 19 with fail
        refine wp_region_still_lit (by kernel_rfl) (by kernel_rfl) ?_
        repeat still_step
        still_call ((count_any (acc.length : Int) (by have := HAL.out; omega) _).mono (fun _ _ ⟨a, b⟩ => ⟨a, b.symm⟩))
        repeat still_step
        refine wpStill_nil ?_
        change Exit.then _ _ _ _ wr.drew
        by_cases hcn : cnt (acc.length : Int) = k
        · have e1 : (cnt (acc.length : Int) : Int) = (k : Int) := by omega
          have e2 : ((cnt (acc.length : Int) : Int) == (k : Int)) = true := by simp [hcn]
          have e3 : ((cnt (acc.length : Int) : Int) != (k : Int)) = false := by simp [hcn]
          have HR : Hid (D.rd s id = some acc) := by have := HRD.out; rw [if_pos hcn] at this; exact this
          clear hcn HRD
          go_wp2
          refine bodyPost_ret (v := .tuple #[.slice ao acc.length cp, .int .i64 0]) (by simp [results, Try.results35, go_sem]) rfl ?_
          rw [HR.out]
          exact ⟨_, rfl, own_keep HI.out.row ((Only.refl _ wr).drew), HI.out.only.drew⟩
        · have e1 : ¬ (cnt (acc.length : Int) : Int) = (k : Int) := by omega
          have e2 : ((cnt (acc.length : Int) : Int) == (k : Int)) = false := by simpa using e1
          have e3 : ((cnt (acc.length : Int) : Int) != (k : Int)) = true := by simpa using e1
          have HR : Hid (D.rd s id = none) := by have := HRD.out; rw [if_neg hcn] at this; exact this
          clear hcn HRD
          go_wp2
          refine bodyPost_ret (v := .tuple #[.slice none 0 0, .int .i64 2]) (by simp [results, Try.results35, go_sem]) rfl ?_
          exact RdPost.bad HR.out rfl HI.out.only.drew

end Go.Proofs.Ytidkeglldmbfeaa
