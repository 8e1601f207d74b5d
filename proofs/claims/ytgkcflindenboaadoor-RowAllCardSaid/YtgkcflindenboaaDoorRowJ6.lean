/-
  Joined: Row7 RowG ValArg ValTabs KeyArg RowArg KeyShp Bulk ValR0 ValR1 ValR2 PackROut PackROut2.
-/
import Derived.Test.YtgkcflindenboaaDoorRowJ5
import Derived.ProofKit
import Derived.OpenShut
import Derived.Lib.SmallJoins
import Derived.Deep.Fields
import Derived.Test.YtgkcflindenboaaDoorRows
import Derived.Stop.LaidErr
import Derived.Lib.LaidU8T
import Derived.PinnedBridge
import Derived.MakeChecks
import Derived.Deep.Slices
import Derived.SizedLaws

namespace Go.Proofs.YtgkcflindenboaaDoor
open Go Go.RowKit
set_option linter.unusedVariables false
set_option linter.unusedSimpArgs false
set_option maxRecDepth 100000
set_option linter.unusedSimpArgs false
set_option maxRecDepth 100000

theorem rdec_all {cs : List Cv} {s : List UInt8} {l : List Vl} (h : (l, (0 : Int)) = rdec cs s) :
    colsB cs = true ∧ l.length = cs.length ∧ fitsL cs l = 0 ∧ ∃ k, readR cs s = some k ∧ s = rowS k ∧ 1 ≤ k.length ∧ k.length ≤ cs.length ∧ l = k ++ (cs.drop k.length).map (fun c => c.d.vl) := by
  have hc := rdec_cols h
  obtain ⟨b1, b2, b3⟩ := colsB_iff.1 hc
  unfold rdec at h
  rw [if_neg (by rw [hc]; decide)] at h
  cases hr : readR cs s with
  | none => rw [hr] at h; simp at h
  | some k =>
    rw [hr] at h
    simp only [Prod.mk.injEq, and_true] at h
    obtain ⟨e1, e2, e3, e4, e5, e6⟩ := row_readR b3 b2 hr
    refine ⟨hc, by rw [h]; simp; omega, ?_, k, rfl, e1, e2, e3, h⟩
    have := fitsL_append (cs := cs.take k.length) (ds := cs.drop k.length) (l := k) (k := (cs.drop k.length).map (fun c => c.d.vl)) (by simp; omega) e4 (fitsL_defs fun c hm => b3 c (List.mem_of_mem_drop hm))
    rw [List.take_append_drop] at this
    rw [h]
    exact this
def numK (K : Int) : Bool := decide (K = 1) || decide (K = 2)
set_option maxHeartbeats 1000000 in
theorem isnum_any (K N : Int) (S : ByteArray) (w : World) : Calls Tryd.prog 39 #[vlv K N S] w fun e w' => e = .returned (.bool (numK K)) ∧ Only (fun _ => False) w w' := by
  have HA := Lib.hid ((Only.refl (fun _ => False) w).alloc (.cells #[.int .i64 K, .int .u64 N, .string S] 42))
  by_cases h1 : K = 1
  · subst h1
    go_enter Tryd.func39, Tryd.ntmps39
    go_wp2_with fail
    go_ret
    exact ⟨rfl, HA.out⟩
  · by_cases h2 : K = 2
    · subst h2
      go_enter Tryd.func39, Tryd.ntmps39
      go_wp2_with fail
      go_ret
      exact ⟨rfl, HA.out⟩
    · have e1 : (K == 1) = false := by simpa using h1
      have e2 : (K == 2) = false := by simpa using h2
      have hr : numK K = false := by simp [numK, h1, h2]
      rw [hr]
      clear h1 h2 hr
      go_enter Tryd.func39, Tryd.ntmps39
      go_wp2_with fail
      go_ret
      exact ⟨rfl, HA.out⟩

def RPlacePost (cs : List Cv) (s : List UInt8) (z : Int) (w : World) (e : Ending) (w' : World) : Prop :=
  ∃ a er : Int, e = .returned (.tuple #[.int .i64 a, .int .i64 er]) ∧ (a, er) = rplace cs s z ∧ Only (fun _ => False) w w'

set_option maxHeartbeats 4000000 in
theorem rplace_any (co : Option Addr) (n cc : Nat) (cs : List Cv) (s : ByteArray) (z : Int) (w : World) (hT : UTab w) (hc : SlCs w co cs) (hn : n = cs.length) (hsh : Shp co n cc) :
    Calls Tryd.prog 16 #[.slice co n cc, .string s, .int .i64 z] w fun e w' => RPlacePost cs s.toList z w e w' := by
  have HN := Lib.hid hn
  have HDE := Lib.hid (rdecode_any co n cc cs s w hT hc hn hsh)
  clear hT hc hn hsh
  go_enter Tryd.func16, Tryd.ntmps16
  go_wp2_with fail
  refine HDE.out.mono ?_
  rintro e w1 ⟨lv, us, er, rfl, hd, hu, hown⟩
  have HD := Lib.hid hd
  have HU := Lib.hid hu
  obtain ⟨ao, c5, hlv, hsp⟩ := own_rowShape (J := Emp) hown
  obtain ⟨ao', c5', hlv', hsl⟩ := rowV_slV hown hu
  rw [hlv] at hlv'
  simp only [Value.slice.injEq, true_and] at hlv'
  obtain ⟨rfl, rfl⟩ := hlv'
  subst hlv
  have HSP := Lib.hid hsp
  have HSL := Lib.hid hsl
  have H1 := Lib.hid hown.only
  clear hd hu hown hsp hsl HDE
  by_cases h0 : er = 0
  case neg =>
    have hne : (er != 0) = true := by simpa using h0
    have HE : Hid ((0, er) = rplace cs s.toList z) := Lib.hid (by unfold rplace; rw [← HD.out, if_pos h0])
    clear h0
    go_wp2_with fail
    go_ret2
    exact ⟨0, er, rfl, HE.out, H1.out⟩
  subst h0
  have HAL := Lib.hid (rdec_all HD.out)
  have HL : Hid (us.length = n) := Lib.hid (by have := HAL.out.2.1; rw [List.length_map] at this; rw [this, HN.out])
  have hn24 : (n : Int) ≤ 24 := by have := (colsB_iff.1 HAL.out.1).2.1; have := HN.out; omega
  rw [HL.out]
  rw [HL.out] at HSP
  by_cases hz : z < 0
  · have HE : Hid ((0, 1) = rplace cs s.toList z) := Lib.hid (by unfold rplace; rw [← HD.out, if_neg (by simp), if_pos (.inl hz)])
    go_wp2_with fail
    go_ret2
    exact ⟨0, 1, rfl, HE.out, H1.out⟩
  by_cases hzn : (n : Int) ≤ z
  · have HE : Hid ((0, 1) = rplace cs s.toList z) := Lib.hid (by unfold rplace; rw [← HD.out, if_neg (by simp), if_pos (.inr (by rw [← HN.out]; exact hzn))])
    go_wp2_with fail
    go_ret2
    exact ⟨0, 1, rfl, HE.out, H1.out⟩
  obtain ⟨k, rfl⟩ : ∃ k : Nat, z = (k : Int) := ⟨z.toNat, by omega⟩
  have hkn : k < n := by omega
  have hltI : (k : Int) < (n : Int) := by omega
  obtain ⟨g, off, rfl, hva⟩ := HSL.out k (by rw [HL.out]; exact hkn)
  obtain ⟨u, hue⟩ : ∃ u, us.getD k default = u := ⟨_, rfl⟩
  rw [hue] at hva
  have HGE : Hid ((us.map Vv.vl).getD k ⟨0, 0, []⟩ = u.vl) := Lib.hid (by
    rw [← hue]
    have : k < us.length := by rw [HL.out]; exact hkn
    simp [this])
  obtain ⟨y0, y1, y2, _⟩ := hva
  have HIS := Lib.hid (fun W => isnum_any u.K u.N u.S W)
  obtain ⟨s0, hs0, hs0e⟩ : ∃ b : UInt8, s.toList.getD 0 0 = b ∧ 0 < s.size := ⟨_, rfl, by
    obtain ⟨k2, _, e, _⟩ := HAL.out.2.2.2
    rw [← ba_size, e]
    simp [rowS]⟩
  have hsb : s[0] = s0 := by rw [← ba_first s hs0e]; exact hs0
  have HS0 := Lib.hid hs0
  have hw : IntKind.i64.wrap (s0.toNat : Int) = (s0.toNat : Int) := IntWalk.i64_in _ (by have := s0.toNat_lt; omega)
  have hs0I : (0 : Int) < (s.size : Int) := by omega
  have hs1I : 1 ≤ s.size := by omega
  obtain ⟨B, hB⟩ : ∃ B, numK u.K = B := ⟨_, rfl⟩
  rw [hB] at HIS
  have HBN := Lib.hid hB
  have HZ : Hid (¬ ((k : Int) < 0 ∨ (cs.length : Int) ≤ (k : Int))) := Lib.hid (by rw [← HN.out]; omega)
  clear hue hs0 hB hz hzn
  cases B with
  | false =>
    have HE : Hid ((0, 8) = rplace cs s.toList (k : Int)) := Lib.hid (by
      unfold rplace
      rw [← HD.out, if_neg (by simp), if_neg HZ.out]
      simp only [Int.toNat_natCast]
      rw [HGE.out, if_pos (.inl (by have := HBN.out; simpa [numK] using this))])
    go_wp2_with fail
    refine (HIS.out _).mono ?_
    rintro e w2 ⟨rfl, h2⟩
    have H2 := Lib.hid (H1.out.trans h2 (fun _ _ h => h))
    clear h2 HIS
    go_wp2_with fail
    go_ret2
    exact ⟨0, 8, rfl, HE.out, H2.out⟩
  | true =>
    by_cases hk0 : s0.toNat ≤ k
    · have hk0I : (s0.toNat : Int) ≤ (k : Int) := by omega
      have HE : Hid ((0, 8) = rplace cs s.toList (k : Int)) := Lib.hid (by
        unfold rplace
        rw [← HD.out, if_neg (by simp), if_neg HZ.out, HS0.out]
        rw [if_pos (.inr hk0I)])
      go_wp2_with fail
      refine (HIS.out _).mono ?_
      rintro e w2 ⟨rfl, h2⟩
      have H2 := Lib.hid (H1.out.trans h2 (fun _ _ h => h))
      clear h2 HIS
      go_wp2_with fail
      go_ret2
      exact ⟨0, 8, rfl, HE.out, H2.out⟩
    · have hk0I : ¬ (s0.toNat : Int) ≤ (k : Int) := by omega
      have HE : Hid (((((rowS ((us.map Vv.vl).take k)).length + 1 : Nat) : Int), (0 : Int)) = rplace cs s.toList (k : Int)) := Lib.hid (by
        unfold rplace
        rw [← HD.out, if_neg (by simp), if_neg HZ.out, HS0.out]
        simp only [Int.toNat_natCast]
        rw [HGE.out, if_neg]
        rintro (h | h)
        · have := HBN.out
          simp [numK] at this
          exact h this
        · exact hk0I h)
      have HTK : Hid (SlV w1 (some ⟨g, off, none⟩) (us.take k) ∧ k = (us.take k).length ∧ ∀ v ∈ us.take k, v.vl.okB = true) := Lib.hid ⟨HSL.out.take k, by rw [List.length_take, HL.out]; omega, fun v hv =>
        fitsL_ok HAL.out.2.1 HAL.out.2.2.1 _ (List.mem_map.2 ⟨v, List.mem_of_mem_take hv, rfl⟩)⟩
      have hfr := fun W => front_vals (some ⟨g, off, none⟩) n c5 k HSP.out (Nat.le_of_lt hkn) W
      go_wp2_with fail
      refine (HIS.out _).mono ?_
      rintro e w2 ⟨rfl, h2⟩
      have H2 := Lib.hid (H1.out.trans h2 (fun _ _ h => h))
      have HLY := Lib.hid (lay_any (some ⟨g, off, none⟩) k c5 (us.take k) w2 (HTK.out.1.keep h2) HTK.out.2.1 (by omega) HTK.out.2.2)
      obtain ⟨S, hS⟩ : ∃ S : ByteArray, (⟨(rowS ((us.take k).map Vv.vl)).toArray⟩ : ByteArray) = S := ⟨_, rfl⟩
      rw [hS] at HLY
      have HSZ : Hid (S.size = (rowS ((us.map Vv.vl).take k)).length) := Lib.hid (by rw [← ba_size, ← hS, ba_mk1, List.map_take])
      have HS9 : Hid (S.size ≤ 2000) := Lib.hid (by
        have h1 := rowL_len (l := (us.map Vv.vl).take k) (fun u hu => fitsL_ok HAL.out.2.1 HAL.out.2.2.1 u (List.mem_of_mem_take hu))
        have h2 : ((us.map Vv.vl).take k).length ≤ k := List.length_take_le _ _
        rw [HSZ.out, rowS, List.length_cons]
        omega)
      have hS9 : (S.size : Int) ≤ 2000 := by have := HS9.out; omega
      clear h2 HIS hS
      go_wp2_with fail
      refine HLY.out.mono ?_
      rintro e w3 ⟨rfl, h3⟩
      have H3 := Lib.hid (H2.out.trans h3 (fun _ _ h => h))
      have hw3 : wrap64 ((S.size : Int) + 1) = (S.size : Int) + 1 := by unfold wrap64; omega
      clear h3 HLY hfr
      go_wp2_with fail
      go_ret2
      refine ⟨_, 0, rfl, ?_, H3.out⟩
      rw [← HE.out, ← HSZ.out]
      first | rfl | (congr 1; omega)

end Go.Proofs.YtgkcflindenboaaDoor

namespace Go.Proofs.YtgkcflindenboaaDoor
open Go Go.RowKit
set_option linter.unusedVariables false
set_option linter.unusedSimpArgs false
set_option maxRecDepth 100000
set_option linter.unusedSimpArgs false
set_option maxRecDepth 100000

/-- A message in one value. -/
abbrev msgv (K off : Int) (v : ByteArray) : Value := .agg #[.int .u64 0, .int .i64 K, .string ⟨#[]⟩, .int .u64 0, .string v, .int .i64 off, .int .u64 0]
def growR (z : Int) (c : Cv) : (Int × Int) × (List UInt8 × Int) := if z < 1 ∨ 23 < z then ((0, 0), ([], 1)) else if c.E ≠ 0 then ((0, 0), ([], c.E)) else ((4, z), (rb c.d.vl, 0))
def GrownPost (z : Int) (c : Cv) (w : World) (e : Ending) (w' : World) : Prop :=
  ∃ (K off er : Int) (l : List UInt8), e = .returned (.tuple #[msgv K off ⟨l.toArray⟩, .int .i64 er]) ∧ ((K, off), (l, er)) = growR z c ∧ Only (fun _ => False) w w'
theorem blk_cells7 {w : World} {k : Nat} {t : TypeId} {a0 a1 a2 a3 a4 a5 a6 : Value} (h : w.heap[k]? = some (.cells #[a0, a1, a2, a3, a4, a5, a6] t (0, 0))) :
    (w.cell? ⟨k, 0, none⟩ = some a0 ∧ w.cell? ⟨k, 1, none⟩ = some a1 ∧ w.cell? ⟨k, 2, none⟩ = some a2 ∧ w.cell? ⟨k, 3, none⟩ = some a3 ∧ w.cell? ⟨k, 4, none⟩ = some a4 ∧ w.cell? ⟨k, 5, none⟩ = some a5 ∧ w.cell? ⟨k, 6, none⟩ = some a6) ∧
    (w.frozen? ⟨k, 0, none⟩ = false ∧ w.frozen? ⟨k, 1, none⟩ = false ∧ w.frozen? ⟨k, 2, none⟩ = false ∧ w.frozen? ⟨k, 3, none⟩ = false ∧ w.frozen? ⟨k, 4, none⟩ = false ∧ w.frozen? ⟨k, 5, none⟩ = false ∧ w.frozen? ⟨k, 6, none⟩ = false) := by
  simp [World.cell?, World.frozen?, h]
theorem Own.seven {w0 w : World} {k : Nat} {t : TypeId} {a0 a1 a2 a3 a4 a5 a6 : Value} {J : Res} [Stab J] (h : Own w0 w (Sep (Blk k (.cells #[a0, a1, a2, a3, a4, a5, a6] t (0, 0))) J)) (u0 u1 u2 u3 u4 u5 u6 : Value) :
    Only (fun _ => False) w0 (((((((w.setCell ⟨k, 0, none⟩ u0).setCell ⟨k, 1, none⟩ u1).setCell ⟨k, 2, none⟩ u2).setCell ⟨k, 3, none⟩ u3).setCell ⟨k, 4, none⟩ u4).setCell ⟨k, 5, none⟩ u5).setCell ⟨k, 6, none⟩ u6) :=
  (((((((h.store 0 u0).store 1 u1).store 2 u2).store 3 u3).store 4 u4).store 5 u5).store 6 u6).only


end Go.Proofs.YtgkcflindenboaaDoor

namespace Go.Proofs.YtgkcflindenboaaDoor
open Go Go.RowKit Go.Joins Go.ChangeShapes Go.WideShapes Go.Deep
set_option linter.unusedVariables false
set_option linter.unusedSimpArgs false
set_option maxRecDepth 100000
set_option maxRecDepth 100000

theorem laid0 : laidOutB Tryd.prog = true := by kernel_rfl
theorem own0 : ownKnob Tryd.prog.godebug = none := by kernel_rfl
theorem wf_u64 {n : Int} (h : (Lit.int .u64 n).wf = true) : U64 n := by
  have : 0 ≤ n ∧ n ≤ 18446744073709551615 := by simpa [Lit.wf, IntKind.min, IntKind.max, IntKind.signed, IntKind.bits] using h
  exact ⟨this.1, by omega⟩
theorem one_val {c v : Value} (h : [c] = [v]) : c = v := by injection h
theorem arr3 {α : Type} {l : Array α} (h : l.size = 3) : ∃ a b c, l = #[a, b, c] := array3 h
theorem arr7 {α : Type} {l : Array α} (h : l.size = 7) : ∃ a b c d e f g, l = #[a, b, c, d, e, f, g] := by
  obtain ⟨l⟩ := l
  match l, h with
  | [a, b, c, d, e, f, g], _ => exact ⟨a, b, c, d, e, f, g, rfl⟩
section
variable {H : Type} {enc : TypeId × Value → H} {W : World} {base b0 : Nat} {sp : Nat → Bool} {held : Bool} {r : Reach}
theorem val_cs {fuel : Nat} {a b c : Value} {x : DataW H × List MemPlace} (h : DataW.trod enc Tryd.prog W base sp held fuel 42 [a, b, c] = some x) : ∃ (K N : Int) (s : ByteArray), a = .int .i64 K ∧ b = .int .u64 N ∧ c = .string s ∧ U64 N ∧ s.size ≤ maxLen := by
  obtain ⟨xs, n, _, _, _, hlen, hf⟩ := DataW.trod_struct Tryd.underlying42 h
  match xs, hlen with
  | [y0, y1, y2], _ =>
    have c3 : Tryd.prog.cellsOf 3 = 1 := by kernel_rfl
    have c22 : Tryd.prog.cellsOf 40 = 1 := by kernel_rfl
    have c9 : Tryd.prog.cellsOf 9 = 1 := by kernel_rfl
    have h0 : DataW.trod enc Tryd.prog W base sp held n 3 (List.take (Tryd.prog.cellsOf 3) (List.drop 0 [a, b, c])) = some y0 := hf 0 _ rfl
    have h1 : DataW.trod enc Tryd.prog W base sp held n 40 (List.take (Tryd.prog.cellsOf 40) (List.drop 1 [a, b, c])) = some y1 := hf 1 _ rfl
    have h2 : DataW.trod enc Tryd.prog W base sp held n 9 (List.take (Tryd.prog.cellsOf 9) (List.drop 2 [a, b, c])) = some y2 := hf 2 _ rfl
    simp only [c3, c22, c9, List.drop_zero, List.drop_succ_cons, List.take_succ_cons, List.take_zero] at h0 h1 h2
    obtain ⟨K, e0, _, _⟩ := DataW.trod_int Tryd.underlying3 h0
    obtain ⟨N, e1, _, w1⟩ := DataW.trod_int Tryd.underlying40 h1
    obtain ⟨s, e2, _, w2⟩ := DataW.trod_string Tryd.underlying9 h2
    exact ⟨K, N, s, one_val e0, one_val e1, one_val e2, wf_u64 w1, w2⟩
theorem open_val {v : Value} {d : DataW H} {p : List MemPlace} (hv : Value.okWide Tryd.prog W r b0 42 v) (h : DataW.Trod enc Tryd.prog W base sp held 42 v d p) : ∃ (K N : Int) (s : ByteArray), v = vlv K N s ∧ U64 N ∧ s.size ≤ maxLen := by
  obtain ⟨cs, rfl, hsz⟩ := okWide_struct Tryd.underlying42 hv
  obtain ⟨a, b, c, rfl⟩ := arr3 (hsz.trans (by kernel_rfl))
  obtain ⟨fuel, hf⟩ := h
  obtain ⟨K, N, s, rfl, rfl, rfl, hN, hs⟩ := val_cs (show DataW.trod enc Tryd.prog W base sp held fuel 42 [a, b, c] = some (d, p) from hf)
  exact ⟨K, N, s, rfl, hN, hs⟩
theorem open_col {v : Value} {d : DataW H} {p : List MemPlace} (hv : Value.okWide Tryd.prog W r b0 67 v) (h : DataW.Trod enc Tryd.prog W base sp held 67 v d p) :
    ∃ (nm : ByteArray) (cK cM : Int) (nu : Bool) (dK dN : Int) (dS : ByteArray), v = colv nm cK cM nu dK dN dS ∧ U64 dN ∧ nm.size ≤ maxLen ∧ dS.size ≤ maxLen := by
  obtain ⟨cs, rfl, hsz⟩ := okWide_struct Tryd.underlying67 hv
  obtain ⟨a, b, c, e, f, g, i, rfl⟩ := arr7 (hsz.trans (by kernel_rfl))
  obtain ⟨fuel, hf⟩ := h
  obtain ⟨xs, n, _, _, _, hlen, hf⟩ := DataW.trod_struct Tryd.underlying67 (show DataW.trod enc Tryd.prog W base sp held fuel 67 [a, b, c, e, f, g, i] = some (d, p) from hf)
  match xs, hlen with
  | [y0, y1, y2, y3, y4], _ =>
    have c3 : Tryd.prog.cellsOf 3 = 1 := by kernel_rfl
    have c4 : Tryd.prog.cellsOf 4 = 1 := by kernel_rfl
    have c9 : Tryd.prog.cellsOf 9 = 1 := by kernel_rfl
    have cv : Tryd.prog.cellsOf 42 = 3 := by kernel_rfl
    have h0 : DataW.trod enc Tryd.prog W base sp held n 9 (List.take (Tryd.prog.cellsOf 9) (List.drop 0 [a, b, c, e, f, g, i])) = some y0 := hf 0 _ rfl
    have h1 : DataW.trod enc Tryd.prog W base sp held n 3 (List.take (Tryd.prog.cellsOf 3) (List.drop 1 [a, b, c, e, f, g, i])) = some y1 := hf 1 _ rfl
    have h2 : DataW.trod enc Tryd.prog W base sp held n 3 (List.take (Tryd.prog.cellsOf 3) (List.drop 2 [a, b, c, e, f, g, i])) = some y2 := hf 2 _ rfl
    have h3 : DataW.trod enc Tryd.prog W base sp held n 4 (List.take (Tryd.prog.cellsOf 4) (List.drop 3 [a, b, c, e, f, g, i])) = some y3 := hf 3 _ rfl
    have h4 : DataW.trod enc Tryd.prog W base sp held n 42 (List.take (Tryd.prog.cellsOf 42) (List.drop 4 [a, b, c, e, f, g, i])) = some y4 := hf 4 _ rfl
    simp only [c3, c4, c9, cv, List.drop_zero, List.drop_succ_cons, List.take_succ_cons, List.take_zero] at h0 h1 h2 h3 h4
    obtain ⟨nm, e0, _, w0⟩ := DataW.trod_string Tryd.underlying9 h0
    obtain ⟨cK, e1, _, _⟩ := DataW.trod_int Tryd.underlying3 h1
    obtain ⟨cM, e2, _, _⟩ := DataW.trod_int Tryd.underlying3 h2
    obtain ⟨nu, e3, _⟩ := DataW.trod_bool Tryd.underlying4 h3
    obtain ⟨dK, dN, dS, e4, e5, e6, w4, w5⟩ := val_cs h4
    rw [one_val e0, one_val e1, one_val e2, one_val e3, e4, e5, e6]
    exact ⟨nm, cK, cM, nu, dK, dN, dS, rfl, w4, w0, w5⟩
end

end Go.Proofs.YtgkcflindenboaaDoor

namespace Go.Proofs.YtgkcflindenboaaDoor
open Go Go.RowKit Go.Lib
set_option linter.unusedVariables false
set_option linter.unusedSimpArgs false
set_option maxRecDepth 100000
set_option maxRecDepth 100000


theorem u8x : U8Extra Tryd.prog Tryd.laysValid_ren := ⟨by kernel_rfl, by kernel_rfl, by kernel_rfl, by kernel_rfl, by kernel_rfl, by kernel_rfl, by kernel_rfl⟩
theorem star : "*" ++ "errors.errorString" = "*errors.errorString" := by decide

theorem accept_eq : (Rows.laid_unicode_utf8_acceptRanges : DataW Unit) = acceptData := by kernel_rfl


end Go.Proofs.YtgkcflindenboaaDoor

namespace Go.Proofs.YtgkcflindenboaaDoor
open Go Go.RowKit Go.Joins Go.ChangeShapes Go.WideShapes Go.Deep Go.Lib
set_option linter.unusedVariables false
set_option linter.unusedSimpArgs false
set_option maxRecDepth 100000
set_option maxRecDepth 100000

/-- What each row of keys lists. -/
def laidK : List (String × DataW Unit) := [("unicode/utf8.acceptRanges", Rows.laid_unicode_utf8_acceptRanges), ("unicode/utf8.first", Rows.laid_unicode_utf8_first)]
theorem utab_of {W : World} (hL : laidMet Tryd.prog laidK W) : UTab W := by
  refine ⟨utf8Tabs_of_readsT (U8Types.of196 Tryd.laysValid) u8x ?_ ?_⟩
  · have h := laidMet.reads hL (n := "unicode/utf8.first") (d := Rows.laid_unicode_utf8_first) (by simp [laidK])
    rw [show (Rows.laid_unicode_utf8_first : DataW Unit) = firstData from Pinned.utf8First_eq] at h
    exact h
  · have h := laidMet.reads hL (n := "unicode/utf8.acceptRanges") (d := Rows.laid_unicode_utf8_acceptRanges) (by simp [laidK])
    rw [accept_eq] at h
    exact h

theorem addr_at0 {w : World} {a : Addr} {v : Value} (h : w.cell? (a.add 0) = some v) : ∃ g off, a = ⟨g, off, none⟩ := by
  obtain ⟨b, off, spot⟩ := a
  have hspot : spot = none := by simpa [Addr.add] using World.cell?_spot h
  subst hspot
  exact ⟨b, off, rfl⟩
theorem Tryd.cellsVal : Tryd.prog.cellsOf 42 = 3 := by kernel_rfl
theorem Tryd.cellsBool : Tryd.prog.cellsOf 4 = 1 := by kernel_rfl
theorem Tryd.bytesVal : Tryd.prog.bytesOf 42 = 32 := by kernel_rfl
theorem Tryd.bytesBool1 : Tryd.prog.bytesOf 4 = 1 := by kernel_rfl
theorem Tryd.bytesInt8 : Tryd.prog.bytesOf 3 = 8 := by kernel_rfl
section
variable {H : Type} {enc : TypeId × Value → H} {W : World} {base : Nat} {v : Value} {d : DataW H} {pl : List MemPlace}
theorem open_vals (hok : Value.okWide Tryd.prog W .any base 22 v) (h : DataW.Trod enc Tryd.prog W 0 (fun _ => true) true 22 v d pl) :
    ∃ (vs : List Vv) (ao : Option Addr) (c : Nat), v = .slice ao vs.length c ∧ SlV W ao vs ∧ (vs = [] ∨ ∃ elems spare, d = .slice elems spare ∧ vs.length ≤ elems.length + spare.length) := by
  obtain ⟨a0, len, cap, rfl⟩ := okWide_slice Tryd.underlying22 hok
  obtain ⟨fuel, hf⟩ := h
  rcases Go.Deep.open_slice Tryd.underlying22 hf with ⟨hcs, hx⟩ | ⟨a, len', cap', m, n, D, Pl, hcs, _, hl, hm, hmm, hx, hel⟩
  · simp [Value.cells] at hcs
    obtain ⟨rfl, rfl, rfl⟩ := hcs
    exact ⟨[], none, 0, rfl, fun j hj => by simp at hj, .inl rfl⟩
  · simp [Value.cells] at hcs
    obtain ⟨rfl, rfl, rfl⟩ := hcs
    simp only [if_true] at hmm
    simp only [Prod.mk.injEq] at hx
    have each : ∀ i, i < len → ∃ x : Vv, ∃ g off, a = ⟨g, off, none⟩ ∧ VvAt W g (off + i * 3) x := by
      intro i hi
      obtain ⟨cs', hc, ht⟩ := hel i (by omega)
      obtain ⟨cs0, hc0, _⟩ := hel 0 (by omega)
      rw [Tryd.cellsVal] at hc hc0
      obtain ⟨_, hcl, hat⟩ := World.cells?_some hc
      obtain ⟨_, hcl0, hat0⟩ := World.cells?_some hc0
      have z0 := (hat0 0 (by omega)).trans (List.getElem?_eq_getElem (by omega))
      obtain ⟨g, off, rfl⟩ := addr_at0 (by simpa using z0)
      have c0 := hat 0 (by omega)
      have c1 := hat 1 (by omega)
      have c2 := hat 2 (by omega)
      rw [Go.Deep.add_add] at c0 c1 c2
      match cs', hcl, ht, c0, c1, c2 with
      | [u0, u1, u2], _, ht, c0, c1, c2 =>
        obtain ⟨K, N, s, rfl, rfl, rfl, hN, _⟩ := val_cs ht
        simp only [add_lit] at c0 c1 c2
        exact ⟨⟨K, N, s⟩, g, off, rfl, by simpa using c0, by rw [Nat.add_assoc]; simpa using c1, by rw [Nat.add_assoc]; simpa using c2, hN⟩
    obtain ⟨F, hF⟩ := Go.Deep.choose_lt each
    refine ⟨(List.range len).map F, some a, cap, by simp, fun j hj => ?_, .inr ⟨_, _, hx.1, by simp⟩⟩
    simp only [List.length_map, List.length_range] at hj
    have e : ((List.range len).map F).getD j default = F j := by simp [List.getD_eq_getElem?_getD, hj]
    rw [e]
    obtain ⟨g, off, rfl, h⟩ := hF j hj
    exact ⟨g, off, rfl, h⟩
theorem open_bools (hok : Value.okWide Tryd.prog W .any base 23 v) (h : DataW.Trod enc Tryd.prog W 0 (fun _ => true) true 23 v d pl) :
    ∃ (ds : List Bool) (ao : Option Addr) (c : Nat), v = .slice ao ds.length c ∧ SlBo W ao ds ∧ (ds = [] ∨ ∃ elems spare, d = .slice elems spare ∧ ds.length ≤ elems.length + spare.length) := by
  obtain ⟨a0, len, cap, rfl⟩ := okWide_slice Tryd.underlying23 hok
  obtain ⟨fuel, hf⟩ := h
  rcases Go.Deep.open_slice1 Tryd.underlying23 Tryd.cellsBool hf with ⟨hcs, hx⟩ | ⟨a, len', cap', m, n, V, D, Pl, hcs, _, hl, hm, hmm, hx, hel⟩
  · simp [Value.cells] at hcs
    obtain ⟨rfl, rfl, rfl⟩ := hcs
    exact ⟨[], none, 0, rfl, fun j hj => by simp at hj, .inl rfl⟩
  · simp [Value.cells] at hcs
    obtain ⟨rfl, rfl, rfl⟩ := hcs
    simp only [if_true] at hmm
    simp only [Prod.mk.injEq] at hx
    have each : ∀ i, i < len → ∃ x : Bool, ∃ g off, a = ⟨g, off, none⟩ ∧ W.cell? ⟨g, off + i, none⟩ = some (.bool x) := by
      intro i hi
      obtain ⟨hc, ht⟩ := hel i (by omega)
      obtain ⟨hc0, _⟩ := hel 0 (by omega)
      obtain ⟨g, off, rfl⟩ := addr_at0 hc0
      obtain ⟨b, e, _⟩ := DataW.trod_bool Tryd.underlying4 ht
      rw [one_val e] at hc
      rw [add_lit] at hc
      exact ⟨b, g, off, rfl, hc⟩
    obtain ⟨F, hF⟩ := Go.Deep.choose_lt each
    refine ⟨(List.range len).map F, some a, cap, by simp, fun j hj => ?_, .inr ⟨_, _, hx.1, by simp⟩⟩
    simp only [List.length_map, List.length_range] at hj
    have e : ((List.range len).map F).getD j false = F j := by simp [List.getD_eq_getElem?_getD, hj]
    rw [e]
    obtain ⟨g, off, rfl, h⟩ := hF j hj
    exact ⟨g, off, rfl, h⟩
theorem open_span {b0 : Nat} {sp : Nat → Bool} {held : Bool} {r : Reach} (hv : Value.okWide Tryd.prog W r b0 47 v) (h : DataW.Trod enc Tryd.prog W base sp held 47 v d pl) :
    ∃ (lo hi : ByteArray) (op : Bool), v = spv lo hi op := by
  obtain ⟨cs, rfl, hsz⟩ := okWide_struct Tryd.underlying47 hv
  obtain ⟨a, b, c, rfl⟩ := arr3 (hsz.trans (by kernel_rfl))
  obtain ⟨fuel, hf⟩ := h
  obtain ⟨xs, n, _, _, _, hlen, hf⟩ := DataW.trod_struct Tryd.underlying47 (show DataW.trod enc Tryd.prog W base sp held fuel 47 [a, b, c] = some (d, pl) from hf)
  match xs, hlen with
  | [y0, y1, y2], _ =>
    have c4 : Tryd.prog.cellsOf 4 = 1 := by kernel_rfl
    have c9 : Tryd.prog.cellsOf 9 = 1 := by kernel_rfl
    have h0 : DataW.trod enc Tryd.prog W base sp held n 9 (List.take (Tryd.prog.cellsOf 9) (List.drop 0 [a, b, c])) = some y0 := hf 0 _ rfl
    have h1 : DataW.trod enc Tryd.prog W base sp held n 9 (List.take (Tryd.prog.cellsOf 9) (List.drop 1 [a, b, c])) = some y1 := hf 1 _ rfl
    have h2 : DataW.trod enc Tryd.prog W base sp held n 4 (List.take (Tryd.prog.cellsOf 4) (List.drop 2 [a, b, c])) = some y2 := hf 2 _ rfl
    simp only [c4, c9, List.drop_zero, List.drop_succ_cons, List.take_succ_cons, List.take_zero] at h0 h1 h2
    obtain ⟨lo, e0, _, _⟩ := DataW.trod_string Tryd.underlying9 h0
    obtain ⟨hi, e1, _, _⟩ := DataW.trod_string Tryd.underlying9 h1
    obtain ⟨op, e2, _⟩ := DataW.trod_bool Tryd.underlying4 h2
    rw [one_val e0, one_val e1, one_val e2]
    exact ⟨lo, hi, op, rfl⟩
end

end Go.Proofs.YtgkcflindenboaaDoor

namespace Go.Proofs.YtgkcflindenboaaDoor
open Go Go.RowKit Go.Joins Go.ChangeShapes Go.WideShapes Go.Deep Go.Lib
set_option linter.unusedVariables false
set_option linter.unusedSimpArgs false
set_option maxRecDepth 100000
set_option maxRecDepth 100000

theorem Tryd.cellsCol : Tryd.prog.cellsOf 67 = 7 := by kernel_rfl
theorem Tryd.bytesCol : Tryd.prog.bytesOf 67 = 72 := by kernel_rfl
section
variable {H : Type} {enc : TypeId × Value → H} {W : World} {base : Nat} {v : Value} {d : DataW H} {pl : List MemPlace}
theorem col_cs {sp : Nat → Bool} {held : Bool} {fuel : Nat} {a b c e f g i : Value} {x : DataW H × List MemPlace} (h : DataW.trod enc Tryd.prog W base sp held fuel 67 [a, b, c, e, f, g, i] = some x) :
    ∃ z : Cv, a = .string z.nm ∧ b = .int .i64 z.K ∧ c = .int .i64 z.M ∧ e = .bool z.nu ∧ f = .int .i64 z.dK ∧ g = .int .u64 z.dN ∧ i = .string z.dS ∧ U64 z.dN := by
  obtain ⟨xs, n, _, _, _, hlen, hf⟩ := DataW.trod_struct Tryd.underlying67 h
  match xs, hlen with
  | [y0, y1, y2, y3, y4], _ =>
    have c3 : Tryd.prog.cellsOf 3 = 1 := by kernel_rfl
    have c4 : Tryd.prog.cellsOf 4 = 1 := by kernel_rfl
    have c9 : Tryd.prog.cellsOf 9 = 1 := by kernel_rfl
    have cv : Tryd.prog.cellsOf 42 = 3 := by kernel_rfl
    have h0 : DataW.trod enc Tryd.prog W base sp held n 9 (List.take (Tryd.prog.cellsOf 9) (List.drop 0 [a, b, c, e, f, g, i])) = some y0 := hf 0 _ rfl
    have h1 : DataW.trod enc Tryd.prog W base sp held n 3 (List.take (Tryd.prog.cellsOf 3) (List.drop 1 [a, b, c, e, f, g, i])) = some y1 := hf 1 _ rfl
    have h2 : DataW.trod enc Tryd.prog W base sp held n 3 (List.take (Tryd.prog.cellsOf 3) (List.drop 2 [a, b, c, e, f, g, i])) = some y2 := hf 2 _ rfl
    have h3 : DataW.trod enc Tryd.prog W base sp held n 4 (List.take (Tryd.prog.cellsOf 4) (List.drop 3 [a, b, c, e, f, g, i])) = some y3 := hf 3 _ rfl
    have h4 : DataW.trod enc Tryd.prog W base sp held n 42 (List.take (Tryd.prog.cellsOf 42) (List.drop 4 [a, b, c, e, f, g, i])) = some y4 := hf 4 _ rfl
    simp only [c3, c4, c9, cv, List.drop_zero, List.drop_succ_cons, List.take_succ_cons, List.take_zero] at h0 h1 h2 h3 h4
    obtain ⟨nm, e0, _, w0⟩ := DataW.trod_string Tryd.underlying9 h0
    obtain ⟨cK, e1, _, _⟩ := DataW.trod_int Tryd.underlying3 h1
    obtain ⟨cM, e2, _, _⟩ := DataW.trod_int Tryd.underlying3 h2
    obtain ⟨nu, e3, _⟩ := DataW.trod_bool Tryd.underlying4 h3
    obtain ⟨dK, dN, dS, e4, e5, e6, w4, w5⟩ := val_cs h4
    exact ⟨⟨nm, cK, cM, nu, dK, dN, dS⟩, one_val e0, one_val e1, one_val e2, one_val e3, e4, e5, e6, w4⟩
theorem open_cols (hok : Value.okWide Tryd.prog W .any base 33 v) (h : DataW.Trod enc Tryd.prog W 0 (fun _ => true) true 33 v d pl) :
    ∃ (cs : List Cv) (ao : Option Addr) (c : Nat), v = .slice ao cs.length c ∧ SlCs W ao cs ∧ (cs = [] ∨ ∃ elems spare, d = .slice elems spare ∧ cs.length ≤ elems.length + spare.length) := by
  obtain ⟨a0, len, cap, rfl⟩ := okWide_slice Tryd.underlying33 hok
  obtain ⟨fuel, hf⟩ := h
  rcases Go.Deep.open_slice Tryd.underlying33 hf with ⟨hcs, hx⟩ | ⟨a, len', cap', m, n, D, Pl, hcs, _, hl, hm, hmm, hx, hel⟩
  · simp [Value.cells] at hcs
    obtain ⟨rfl, rfl, rfl⟩ := hcs
    exact ⟨[], none, 0, rfl, fun j hj => by simp at hj, .inl rfl⟩
  · simp [Value.cells] at hcs
    obtain ⟨rfl, rfl, rfl⟩ := hcs
    simp only [if_true] at hmm
    simp only [Prod.mk.injEq] at hx
    have each : ∀ i, i < len → ∃ x : Cv, ∃ g off, a = ⟨g, off, none⟩ ∧ CvAt W g (off + i * 7) x := by
      intro i hi
      obtain ⟨cs', hc, ht⟩ := hel i (by omega)
      obtain ⟨cs0, hc0, _⟩ := hel 0 (by omega)
      rw [Tryd.cellsCol] at hc hc0
      obtain ⟨_, hcl, hat⟩ := World.cells?_some hc
      obtain ⟨_, hcl0, hat0⟩ := World.cells?_some hc0
      have z0 := (hat0 0 (by omega)).trans (List.getElem?_eq_getElem (by omega))
      obtain ⟨g, off, rfl⟩ := addr_at0 (by simpa using z0)
      have c0 := hat 0 (by omega)
      have c1 := hat 1 (by omega)
      have c2 := hat 2 (by omega)
      have c3 := hat 3 (by omega)
      have c4 := hat 4 (by omega)
      have c5 := hat 5 (by omega)
      have c6 := hat 6 (by omega)
      rw [Go.Deep.add_add] at c0 c1 c2 c3 c4 c5 c6
      match cs', hcl, ht, c0, c1, c2, c3, c4, c5, c6 with
      | [u0, u1, u2, u3, u4, u5, u6], _, ht, c0, c1, c2, c3, c4, c5, c6 =>
        obtain ⟨z, rfl, rfl, rfl, rfl, rfl, rfl, rfl, hN⟩ := col_cs ht
        simp only [add_lit] at c0 c1 c2 c3 c4 c5 c6
        exact ⟨z, g, off, rfl, ⟨by simpa using c0, by rw [Nat.add_assoc]; simpa using c1, by rw [Nat.add_assoc]; simpa using c2, by rw [Nat.add_assoc]; simpa using c3, by rw [Nat.add_assoc]; simpa using c4, by rw [Nat.add_assoc]; simpa using c5, by rw [Nat.add_assoc]; simpa using c6, hN⟩⟩
    obtain ⟨F, hF⟩ := Go.Deep.choose_lt each
    refine ⟨(List.range len).map F, some a, cap, by simp, fun j hj => ?_, .inr ⟨_, _, hx.1, by simp⟩⟩
    simp only [List.length_map, List.length_range] at hj
    have e : ((List.range len).map F).getD j default = F j := by simp [List.getD_eq_getElem?_getD, hj]
    rw [e]
    obtain ⟨g, off, rfl, h⟩ := hF j hj
    exact ⟨g, off, rfl, h⟩
end

end Go.Proofs.YtgkcflindenboaaDoor

namespace Go.Proofs.YtgkcflindenboaaDoor
open Go Go.RowKit Go.Joins Go.ChangeShapes Go.WideShapes Go.Deep Go.Lib
set_option linter.unusedVariables false
set_option linter.unusedSimpArgs false
set_option maxRecDepth 100000
set_option maxRecDepth 100000

theorem shape_of {H : Type} {enc : TypeId × Value → H} {W : World} {d : DataW H} {pl : List MemPlace} {t e : TypeId} {ao : Option Addr} {n c : Nat} (ht : Tryd.prog.underlying t = some (.slice e))
    (h : DataW.Trod enc Tryd.prog W 0 (fun _ => true) true t (.slice ao n c) d pl) : Shp ao n c := by
  obtain ⟨fuel, hf⟩ := h
  rcases Go.Deep.open_slice ht hf with ⟨hcs, hx⟩ | ⟨a, len', cap', m, n', D, Pl, hcs, _, hl, hm, hmm, hx, hel⟩
  · simp [Value.cells] at hcs
    exact .inl hcs
  · simp [Value.cells] at hcs
    obtain ⟨rfl, rfl, rfl⟩ := hcs
    exact .inr ⟨a, rfl, hl⟩

end Go.Proofs.YtgkcflindenboaaDoor

namespace Go.Proofs.YtgkcflindenboaaDoor
open Go
set_option linter.unusedVariables false
set_option linter.unusedSimpArgs false
set_option maxRecDepth 100000

theorem bulk_pos {H : Type} (d : DataW H) : 1 ≤ Rows.uptoBulk d := by
  cases d <;> try (simp [Rows.uptoBulk]; done)
  rename_i l
  cases l <;> simp [Rows.uptoBulk]
theorem bulk_count {H : Type} : ∀ l : List (DataW H), l.length ≤ Rows.uptoBulkAll l
  | [] => Nat.zero_le _
  | d :: l => by
    have := bulk_count l
    have := bulk_pos d
    simp only [Rows.uptoBulkAll, List.length_cons]
    omega
theorem bulk_in {H : Type} {d : DataW H} : ∀ {l : List (DataW H)}, d ∈ l → Rows.uptoBulk d ≤ Rows.uptoBulkAll l
  | x :: l, h => by
    simp only [Rows.uptoBulkAll]
    rcases List.mem_cons.1 h with rfl | h
    · omega
    · have := bulk_in h
      omega
theorem bulk_most {H : Type} {l : List (DataW H)} (hk : Rows.uptoSmall H l = true) : Rows.uptoBulkAll l ≤ 1048576 := of_decide_eq_true hk
theorem bulk_slice {H : Type} {a b l : List (DataW H)} (h : DataW.slice a b ∈ l) (hk : Rows.uptoSmall H l = true) : a.length + b.length ≤ 1048576 := by
  have h1 := bulk_in h
  have h2 := bulk_most hk
  have h3 := bulk_count a
  have h4 := bulk_count b
  simp only [Rows.uptoBulk] at h1
  omega
theorem bulk_text {H : Type} {s : List UInt8} {l : List (DataW H)} (h : DataW.lit (.string s) ∈ l) (hk : Rows.uptoSmall H l = true) : s.length ≤ 1048576 := by
  have h1 := bulk_in h
  have h2 := bulk_most hk
  simp only [Rows.uptoBulk] at h1
  omega

end Go.Proofs.YtgkcflindenboaaDoor

namespace Go.Proofs.YtgkcflindenboaaDoor
open Go Go.RowKit
set_option linter.unusedVariables false
set_option linter.unusedSimpArgs false
set_option maxRecDepth 100000
set_option linter.unusedSimpArgs false
set_option maxRecDepth 100000


theorem letZ_iff (z : Int) : letZ z = (!(decide (z < 97) || decide (122 < z))) := by
  unfold letZ
  rw [Bool.eq_iff_iff]; simp
set_option maxHeartbeats 2000000 in
theorem rname_any (s : ByteArray) (w : World) : Calls Tryd.prog 86 #[.string s] w fun e w' => e = .returned (.bool (nameB s.toList)) ∧ w = w' := by
  obtain ⟨B, hB⟩ : ∃ B, nameB s.toList = B := ⟨_, rfl⟩
  rw [hB]
  have hsz := ba_size s
  unfold nameB at hB
  rw [hsz] at hB
  by_cases h0 : s.size = 0
  · rw [decide_eq_false (show ¬ 1 ≤ s.size by omega), Bool.false_and] at hB
    subst hB
    have h1 : (s.size : Int) < 1 := by omega
    clear hsz h0
    go_enter Tryd.func86, Tryd.ntmps86
    go_wp2
    go_ret
    exact ⟨rfl, rfl⟩
  have hp0 : 0 < s.size := by omega
  have hpos : ¬ (s.size : Int) < 1 := by omega
  rw [decide_eq_true (show 1 ≤ s.size by omega), Bool.true_and] at hB
  by_cases h16 : s.size ≤ 16
  case neg =>
    rw [decide_eq_false h16, Bool.false_and] at hB
    subst hB
    have hgt : (16 : Int) < s.size := by omega
    clear hsz h0 h16
    go_enter Tryd.func86, Tryd.ntmps86
    go_wp2
    go_ret
    exact ⟨rfl, rfl⟩
  rw [decide_eq_true h16, Bool.true_and, ba_first s hp0] at hB
  have hle : ¬ (16 : Int) < s.size := by omega
  obtain ⟨z, hz⟩ : ∃ z : Int, ((s[0]'hp0).toNat : Int) = z := ⟨_, rfl⟩
  rw [hz] at hB
  by_cases hl : letZ z = true
  case neg =>
    have hl : letZ z = false := by simpa using hl
    rw [hl, Bool.false_and] at hB
    subst hB
    have hl2 : z < 97 ∨ (¬ z < 97 ∧ 122 < z) := by
      unfold letZ at hl; simp at hl; omega
    clear hsz h0 h16 hl
    rcases hl2 with h1 | ⟨h1, h2⟩
    · go_enter Tryd.func86, Tryd.ntmps86
      go_wp2
      go_ret
      exact ⟨rfl, rfl⟩
    · go_enter Tryd.func86, Tryd.ntmps86
      go_wp2
      go_ret
      exact ⟨rfl, rfl⟩
  rw [hl, Bool.true_and] at hB
  have hl1 : ¬ z < 97 := by unfold letZ at hl; simp at hl; omega
  have hl2 : ¬ 122 < z := by unfold letZ at hl; simp at hl; omega
  have HBE := Lib.hid hB
  have H16 := Lib.hid h16
  have HFI : Hid ((s.toList.take 1).all nmc = true) := Lib.hid (by
    have h2 := all_step s 0 hp0 nmc
    rw [h2, nmc, hz, hl]; rfl)
  clear hsz h0 hl hB
  go_enter Tryd.func86, Tryd.ntmps86
  go_wp2_with fail
  go_loop [3] (fun i => ∃ k : Nat, 1 ≤ k ∧ k ≤ s.size ∧ i = .int .i64 k ∧ Hid ((s.toList.take k).all nmc = true)) (fun i => s.size - (intOf i).toNat)
  case atStart => exact ⟨1, Nat.le_refl _, by omega, rfl, HFI⟩
  case round =>
    obtain ⟨k, hk1, hk, rfl, HA⟩ := hrel
    clear hz hl1 hl2
    by_cases hlt : k < s.size
    · obtain ⟨y, hy⟩ : ∃ y : Int, (s[k].toNat : Int) = y := ⟨_, rfl⟩
      have HN : nmc s[k] = (letZ y || (digZ y || decide (y = 95))) := by rw [nmc, hy]
      have HST := Lib.hid (all_step s k hlt nmc)
      by_cases hok : nmc s[k] = true
      · have HOK := Lib.hid hok
        rw [hok] at HN
        have hc : (97 ≤ y ∧ y ≤ 122) ∨ (48 ≤ y ∧ y ≤ 57) ∨ y = 95 := by
          unfold letZ digZ at HN; simp at HN; omega
        clear HN hok
        rcases hc with ⟨q1, q2⟩ | ⟨q1, q2⟩ | hu
        · go_wp2_with fail
          go_round
          case rel => exact ⟨k + 1, by omega, by omega, by go_num, Lib.hid (by rw [HST.out, HA.out, HOK.out]; rfl)⟩
          case measure => simp [intOf]; omega
        · have q3 : y < 97 := by omega
          go_wp2_with fail
          go_round
          case rel => exact ⟨k + 1, by omega, by omega, by go_num, Lib.hid (by rw [HST.out, HA.out, HOK.out]; rfl)⟩
          case measure => simp [intOf]; omega
        · have q3 : y < 97 := by omega
          have q4 : ¬ y < 48 := by omega
          have q5 : 57 < y := by omega
          have q6 : (y != 95) = false := by simpa using hu
          clear hu
          go_wp2_with fail
          go_round
          case rel => exact ⟨k + 1, by omega, by omega, by go_num, Lib.hid (by rw [HST.out, HA.out, HOK.out]; rfl)⟩
          case measure => simp [intOf]; omega
      · have hok : nmc s[k] = false := by simpa using hok
        have HNO : Hid (B = false) := Lib.hid (by rw [← HBE.out]; exact all_no s k hlt nmc hok)
        rw [hok] at HN
        have hu : (y != 95) = true := by
          have : ¬ y = 95 := by rintro rfl; revert HN; decide
          simpa using this
        have hc : (y < 97 ∨ (¬ y < 97 ∧ 122 < y)) ∧ (y < 48 ∨ (¬ y < 48 ∧ 57 < y)) := by
          unfold letZ digZ at HN
          have h1 : ¬ (97 ≤ y ∧ y ≤ 122) := by rintro ⟨a, b⟩; rw [decide_eq_true a, decide_eq_true b] at HN; simp at HN
          have h2 : ¬ (48 ≤ y ∧ y ≤ 57) := by
            rintro ⟨a, b⟩
            rw [decide_eq_true a, decide_eq_true b] at HN; simp at HN
          omega
        clear HN hok
        obtain ⟨q1 | ⟨q1, q2⟩, q3 | ⟨q3, q4⟩⟩ := hc
        all_goals
          go_wp2_with fail
          go_ret
          exact ⟨ret_b HNO.out.symm, rfl⟩
    · have HY : Hid (B = true) := Lib.hid (by rw [← HBE.out, ← HA.out, List.take_of_length_le (by rw [ba_size]; omega)])
      go_wp2_with fail
      go_ret
      exact ⟨ret_b HY.out.symm, rfl⟩

end Go.Proofs.YtgkcflindenboaaDoor

namespace Go.Proofs.YtgkcflindenboaaDoor
open Go Go.RowKit
set_option linter.unusedVariables false
set_option linter.unusedSimpArgs false
set_option maxRecDepth 100000
set_option linter.unusedSimpArgs false
set_option maxRecDepth 100000

theorem rwrap64 {n : Int} (h : -9223372036854775808 ≤ n ∧ n ≤ 9223372036854775807) : wrap64 n = n := by unfold wrap64; omega
theorem utf8_fuel (f : Nat) (l : List UInt8) (h : l.length ≤ f) : utf8F f l = utf8B l := (valid_utf8F f l h).symm.trans (utf8_valid l)
theorem utf8_cons (c : UInt8) (r : List UInt8) : utf8B (c :: r) = if u8len (c :: r) = 0 then false else utf8B ((c :: r).drop (u8len (c :: r))) := by
  rw [show utf8B (c :: r) = (if u8len (c :: r) = 0 then false else utf8F r.length ((c :: r).drop (u8len (c :: r)))) from rfl]
  by_cases h : u8len (c :: r) = 0
  · rw [if_pos h, if_pos h]
  · rw [if_neg h, if_neg h]
    refine utf8_fuel _ _ ?_
    rw [List.length_drop]
    simp only [List.length_cons]
    omega
/-- What the inner loop has of n bytes in front of place j. -/
structure U8At (r : List UInt8) (x0 : Nat) (j : Nat) (x : Int) : Prop where
  all : ((r.take (j - 1)).all fun d => decide (128 ≤ d.toNat) && decide (d.toNat < 192)) = true
  num : x = (((r.take (j - 1)).foldl (fun x d => x * 64 + d.toNat - 128) x0 : Nat) : Int)
theorem U8At.step {r : List UInt8} {x0 j : Nat} {x : Int} {d : UInt8} (h : U8At r x0 j x) (hj : 1 ≤ j) (hd : r[j - 1]? = some d) (h1 : 128 ≤ d.toNat) (h2 : d.toNat < 192) : U8At r x0 (j + 1) (x * 64 + d.toNat - 128) := by
  have e : r.take (j + 1 - 1) = r.take (j - 1) ++ [d] := by
    rw [show j + 1 - 1 = (j - 1) + 1 by omega, List.take_add_one, hd]; rfl
  refine ⟨?_, ?_⟩
  · rw [e, List.all_append, h.all]; simp [h1, h2]
  · rw [e, List.foldl_append]
    simp only [List.foldl_cons, List.foldl_nil]
    rw [h.num]; omega
theorem u8tail_bad {r : List UInt8} {n low x0 j : Nat} {d : UInt8} (hj : 1 ≤ j) (hjn : j < n) (hd : r[j - 1]? = some d) (h : ¬ (128 ≤ d.toNat ∧ d.toNat < 192)) : u8tail r n low x0 = 0 := by
  unfold u8tail
  by_cases hl : r.length + 1 < n
  · rw [if_pos hl]
  rw [if_neg hl, if_neg]
  intro ha
  rw [List.all_eq_true] at ha
  have hm : d ∈ r.take (n - 1) := by
    have : (r.take (n - 1))[j - 1]? = some d := by rw [List.getElem?_take_of_lt (by omega), hd]
    exact List.mem_of_getElem? this
  have := ha d hm
  simp at this
  exact h this
theorem u8tail_end {r : List UInt8} {n low x0 : Nat} {x : Int} (h : U8At r x0 n x) (hl : ¬ r.length + 1 < n) : u8tail r n low x0 = if x < low ∨ 1114111 < x ∨ (55296 ≤ x ∧ x < 57344) then 0 else n := by
  unfold u8tail
  rw [if_neg hl, if_pos h.all]
  have := h.num
  generalize (r.take (n - 1)).foldl (fun x d => x * 64 + d.toNat - 128) x0 = y at *
  by_cases hc : y < low ∨ 1114111 < y ∨ (55296 ≤ y ∧ y < 57344)
  · rw [if_pos hc, if_pos (by omega)]
  · rw [if_neg hc, if_neg (by omega)]
theorem u8tail_short {r : List UInt8} {n low x0 : Nat} (hl : r.length + 1 < n) : u8tail r n low x0 = 0 := by unfold u8tail; rw [if_pos hl]
theorem rdrop_cons (s : ByteArray) (k : Nat) (h : k < s.size) : s.toList.drop k = s[k] :: s.toList.drop (k + 1) := by
  have h2 := ba_get s k h
  rw [List.drop_eq_getElem_cons (by rw [ba_size]; exact h)]
  congr 1
  rw [List.getElem?_eq_getElem (by rw [ba_size]; exact h)] at h2
  exact Option.some.inj h2
theorem rdrop_get (s : ByteArray) (k j : Nat) (hj : 1 ≤ j) (h : k + j < s.size) : (s.toList.drop (k + 1))[j - 1]? = some s[k + j] := by
  rw [List.getElem?_drop, show k + 1 + (j - 1) = k + j by omega]
  exact ba_get s (k + j) h

/-- What the switch may lay. -/
def Sw (n low : Nat) (x0 : Nat) : Prop := n = 1 ∧ low = 0 ∧ x0 < 128 ∨ n = 2 ∧ low = 128 ∧ x0 < 32 ∨ n = 3 ∧ low = 2048 ∧ x0 < 16 ∨ n = 4 ∧ low = 65536 ∧ x0 < 8
def XB (n j : Nat) (x : Int) : Prop := 0 ≤ x ∧ (j = 1 ∧ x < 128 ∧ (1 < n → x < 32) ∨ j = 2 ∧ x < 2048 ∨ j = 3 ∧ x < 131072 ∨ j = 4 ∧ x < 8388608)
def SwAt (c : UInt8) (r : List UInt8) (w : World) (a b d : Value) (wx : World) : Prop := ∃ n low x0 : Nat, a = .int .i64 n ∧ b = .int .i64 low ∧ d = .int .i64 x0 ∧ Sw n low x0 ∧ u8len (c :: r) = u8tail r n low x0 ∧ wx = w
theorem u8len1t (c : UInt8) (r : List UInt8) (h : c.toNat < 128) : u8len (c :: r) = u8tail r 1 0 c.toNat := by
  rw [u8len1 c r h]
  unfold u8tail
  rw [if_neg (by omega)]
  simp
  omega

set_option maxHeartbeats 8000000 in
theorem rutf_any (s : ByteArray) (w : World) (hs : s.size ≤ 4611686018427387904) :
    Calls Tryd.prog 45 #[.string s] w fun e w' => e = .returned (.bool (utf8B s.toList)) ∧ w = w' := by
  obtain ⟨B, hB⟩ : ∃ B, utf8B s.toList = B := ⟨_, rfl⟩
  rw [hB]
  have HBE := Lib.hid hB
  clear hB
  go_enter Tryd.func45, Tryd.ntmps45
  go_wp2_with fail
  go_loop [3] (fun i => ∃ k : Nat, k ≤ s.size ∧ i = .int .i64 k ∧ Hid (utf8B (s.toList.drop k) = B)) (fun i => s.size - (intOf i).toNat)
  case atStart => exact ⟨0, Nat.zero_le _, rfl, HBE⟩
  case round =>
    obtain ⟨k, hk, rfl, HA⟩ := hrel
    clear HBE
    by_cases hlt : k < s.size
    · obtain ⟨z, hz⟩ : ∃ z : Int, (s[k].toNat : Int) = z := ⟨_, rfl⟩
      obtain ⟨r, hr⟩ : ∃ r, s.toList.drop (k + 1) = r := ⟨_, rfl⟩
      have hD : utf8B (s[k] :: r) = B := by rw [← hr, ← rdrop_cons s k hlt]; exact HA.out
      rw [utf8_cons] at hD
      have HD := Lib.hid hD
      have HR := Lib.hid hr
      have HRL : Hid (r.length + 1 + k = s.size) := Lib.hid (by rw [← hr, List.length_drop, ba_size]; omega)
      have HZ0 : z < 256 ∧ 0 ≤ z := by have := s[k].toNat_lt; omega
      clear hD hr
      go_upto_block 2 with fail
      go_cut [5, 6, 7] (fun a b c wx => SwAt s[k] r w a b c wx)
      case first =>
        have hw : w = w := rfl
        by_cases c1 : z < 128
        · have HP : Hid (SwAt s[k] r w (.int .i64 1) (.int .i64 0) (.int .i64 z) w) :=
            Lib.hid ⟨1, 0, s[k].toNat, rfl, rfl, by rw [hz], .inl ⟨rfl, rfl, by omega⟩, u8len1t _ _ (by omega), rfl⟩
          go_wp2_with fail
          go_meet
          exact HP.out
        by_cases c2 : z < 194
        · have HNO : Hid (B = false) := Lib.hid (by have := HD.out; rw [u8len0 _ _ (by omega) (by omega), if_pos rfl] at this; exact this.symm)
          have d1 : ¬ 194 ≤ z := by omega
          have d2 : ¬ 224 ≤ z := by omega
          have d3 : ¬ 240 ≤ z := by omega
          go_wp2_with fail
          go_ret
          exact ⟨ret_b HNO.out.symm, rfl⟩
        have d1 : 194 ≤ z := by omega
        by_cases c3 : z < 224
        · have HP : Hid (SwAt s[k] r w (.int .i64 2) (.int .i64 128) (.int .i64 (z - 192)) w) :=
            Lib.hid ⟨2, 128, s[k].toNat - 192, rfl, rfl, by congr 1; omega, .inr (.inl ⟨rfl, rfl, by omega⟩), u8len2 _ _ (by omega) (by omega), rfl⟩
          go_wp2_with fail
          go_meet
          exact HP.out
        have d2 : 224 ≤ z := by omega
        by_cases c4 : z < 240
        · have HP : Hid (SwAt s[k] r w (.int .i64 3) (.int .i64 2048) (.int .i64 (z - 224)) w) :=
            Lib.hid ⟨3, 2048, s[k].toNat - 224, rfl, rfl, by congr 1; omega, .inr (.inr (.inl ⟨rfl, rfl, by omega⟩)), u8len3 _ _ (by omega) (by omega), rfl⟩
          go_wp2_with fail
          go_meet
          exact HP.out
        have d3 : 240 ≤ z := by omega
        by_cases c5 : z < 245
        · have HP : Hid (SwAt s[k] r w (.int .i64 4) (.int .i64 65536) (.int .i64 (z - 240)) w) :=
            Lib.hid ⟨4, 65536, s[k].toNat - 240, rfl, rfl, by congr 1; omega, .inr (.inr (.inr ⟨rfl, rfl, by omega⟩)), u8len4 _ _ (by omega) (by omega), rfl⟩
          go_wp2_with fail
          go_meet
          exact HP.out
        · have HNO : Hid (B = false) := Lib.hid (by have := HD.out; rw [u8len0 _ _ (by omega) (by omega), if_pos rfl] at this; exact this.symm)
          go_wp2_with fail
          go_ret
          exact ⟨ret_b HNO.out.symm, rfl⟩
      case rest =>
        obtain ⟨n, low, x0, rfl, rfl, rfl, hsw, hu, rfl⟩ := hcut
        have HSW := Lib.hid hsw
        have hn14 : 1 ≤ n ∧ n ≤ 4 := by unfold Sw at hsw; omega
        have hD := HD.out
        rw [hu] at hD
        have HD2 := Lib.hid hD
        clear hD HD hu hsw hz HZ0
        by_cases hn : k + n ≤ s.size
        case neg =>
          have hgt : (s.size : Int) < wrap64 ((k : Int) + (n : Int)) := by rw [rwrap64 (by omega)]; omega
          have HNO : Hid (B = false) := Lib.hid (by have h := HD2.out; have := HRL.out; rw [u8tail_short (by omega), if_pos rfl] at h; exact h.symm)
          go_wp2_with fail
          go_ret
          exact ⟨ret_b HNO.out.symm, rfl⟩
        have hkw : wrap64 ((k : Int) + (n : Int)) = ((k + n : Nat) : Int) := by rw [rwrap64 (by omega)]; omega
        have hng : ¬ (s.size : Int) < ((k + n : Nat) : Int) := by omega
        go_wp2_with fail
        have hn63 : ¬ wrap64 ((k : Int) + (n : Int)) > (s.size : Int) := by rw [hkw]; omega
        have HKW := Lib.hid hkw
        have HN := Lib.hid hn
        have HX0 : Hid (XB n 1 ((x0 : Nat) : Int)) := Lib.hid (by have := HSW.out; unfold Sw at this; unfold XB; omega)
        have HU0 : Hid (U8At r x0 1 ((x0 : Nat) : Int)) := Lib.hid ⟨rfl, rfl⟩
        go_loop [7, 8] (fun vx vj => ∃ (j : Nat) (x : Int), 1 ≤ j ∧ j ≤ n ∧ vj = .int .i64 j ∧ vx = .int .i64 x ∧ Hid (U8At r x0 j x) ∧ Hid (XB n j x)) (fun _ vj => n - (intOf vj).toNat)
        case atStart => exact ⟨1, x0, Nat.le_refl _, hn14.1, rfl, rfl, HU0, HX0⟩
        case round =>
          obtain ⟨j, x, hj1, hjn, rfl, rfl, HUA, HXB⟩ := hrel
          clear HX0 HU0
          by_cases hlj : j < n
          · have hkj : k + j < s.size := by omega
            obtain ⟨y, hy⟩ : ∃ y : Int, ((s[k + j]'hkj).toNat : Int) = y := ⟨_, rfl⟩
            have hget : r[j - 1]? = some (s[k + j]'hkj) := by rw [← HR.out]; exact rdrop_get s k j hj1 hkj
            have HGET := Lib.hid hget
            have hin : 0 ≤ (k : Int) + (j : Int) ∧ (k : Int) + (j : Int) < (s.size : Int) := by omega
            have hy256 : 0 ≤ y ∧ y < 256 := by have := (s[k + j]'hkj).toNat_lt; omega
            by_cases hok : 128 ≤ y ∧ y < 192
            · obtain ⟨q1, q2⟩ := hok
              have hxb : 0 ≤ x ∧ x < 8388608 := by have := HXB.out; unfold XB at this; omega
              have HUS : Hid (U8At r x0 (j + 1) (x * 64 + y - 128)) := Lib.hid (by
                have := HUA.out.step hj1 HGET.out (by omega) (by omega)
                rw [hy] at this; exact this)
              have HXS : Hid (XB n (j + 1) (x * 64 + y - 128)) := Lib.hid (by have := HXB.out; unfold XB at *; omega)
              have HMS : Hid (n - (j + 1) < n - j) := Lib.hid (by omega)
              have HLE : Hid (j + 1 ≤ n) := Lib.hid hlj
              have HLE1 : Hid (1 ≤ j + 1) := Lib.hid (by omega)
              have hj1' : ((j + 1 : Nat) : Int) = (j : Int) + 1 := by omega
              have HMI : Hid (n - ((j : Int) + 1).toNat < n - ((j : Int)).toNat) := Lib.hid (by rw [← hj1', Int.toNat_natCast, Int.toNat_natCast]; exact HMS.out)
              have HJ1 := Lib.hid hj1'
              clear hget hj1'
              go_wp2_with fail
              go_round
              case rel => exact ⟨j + 1, x * 64 + y - 128, HLE1.out, HLE.out, by rw [HJ1.out], rfl, HUS, HXS⟩
              case measure => exact HMI.out
            · have HNO : Hid (B = false) := Lib.hid (by
                have h := HD2.out
                rw [u8tail_bad hj1 hlj HGET.out (by omega), if_pos rfl] at h
                exact h.symm)
              have hok2 : y < 128 ∨ (¬ y < 128 ∧ 192 ≤ y) := by omega
              clear hget hok
              rcases hok2 with q1 | ⟨q1, q2⟩
              all_goals
                go_wp2_with fail
                go_ret
                exact ⟨ret_b HNO.out.symm, rfl⟩
          · have hjj : j = n := by omega
            subst hjj
            have hxb : 0 ≤ x ∧ x < 8388608 := by have := HXB.out; unfold XB at this; omega
            have hend : u8tail r j low x0 = if x < low ∨ 1114111 < x ∨ (55296 ≤ x ∧ x < 57344) then 0 else j := u8tail_end HUA.out (by have := HRL.out; have := HN.out; omega)
            have hd := HD2.out
            rw [hend] at hd
            by_cases hbad : x < low ∨ 1114111 < x ∨ (55296 ≤ x ∧ x < 57344)
            · rw [if_pos hbad, if_pos rfl] at hd
              have HNO : Hid (B = false) := Lib.hid hd.symm
              have hb2 : x < low ∨ (¬ x < low ∧ 1114111 < x) ∨ (¬ x < low ∧ ¬ 1114111 < x ∧ 55296 ≤ x ∧ x < 57344) := by omega
              clear hd hend hbad
              rcases hb2 with q1 | ⟨q1, q2⟩ | ⟨q1, q2, q3, q4⟩
              all_goals
                go_wp2_with fail
                go_ret
                exact ⟨ret_b HNO.out.symm, rfl⟩
            · rw [if_neg hbad, if_neg (by omega)] at hd
              have HNX : Hid (utf8B (s.toList.drop (k + j)) = B) := Lib.hid (by
                rw [← hd, ← HR.out, ← rdrop_cons s k hlt, List.drop_drop])
              have HMS : Hid (s.size - (k + j) < s.size - k) := Lib.hid (by omega)
              have HLE := HN
              have hb2 : ¬ x < low ∧ ¬ 1114111 < x ∧ (x < 55296 ∨ (55296 ≤ x ∧ ¬ x < 57344)) := by omega
              clear hd hend hbad
              obtain ⟨q1, q2, q3 | ⟨q3, q4⟩⟩ := hb2
              all_goals
                go_wp2_with fail
                go_round
                case rel => exact ⟨k + j, HLE.out, by first | rw [hkw] | go_num, HNX⟩
                case measure => first | (rw [hkw]; exact HMS.out) | (simp [intOf]; omega)
    · have HY : Hid (B = true) := Lib.hid (by rw [← HA.out, List.drop_of_length_le (by rw [ba_size]; omega)]; rfl)
      go_wp2_with fail
      go_ret
      exact ⟨ret_b HY.out.symm, rfl⟩

end Go.Proofs.YtgkcflindenboaaDoor

namespace Go.Proofs.YtgkcflindenboaaDoor
open Go Go.RowKit
set_option linter.unusedVariables false
set_option linter.unusedSimpArgs false
set_option maxRecDepth 100000
set_option linter.unusedSimpArgs false
set_option maxRecDepth 100000

theorem rutf_below (s : ByteArray) (w : World) (hs : s.size ≤ 4611686018427387904) :
    Calls Tryd.prog 45 #[.string s] w fun e w' => e = .returned (.bool (utf8B s.toList)) ∧ Below w.heap.size w w' := by
  refine (rutf_any s w hs).mono ?_
  rintro e w' ⟨rfl, rfl⟩
  exact ⟨rfl, Below.refl _ _⟩
theorem rvalid_any {K N : Int} {s : ByteArray} (hN : U64 N) (w : World) :
    Calls Tryd.prog 25 #[vlv K N s] w fun e w' => e = .returned (.bool (vl K N s).okB) ∧ Below w.heap.size w w' := by
  have h0 := hN.lo
  have HB := Lib.hid (fun o => (Below.refl w.heap.size w).alloc (Nat.le_refl _) o)
  have hsz := ba_size s
  by_cases k0 : K = 0
  · subst k0
    have hok : (vl 0 N s).okB = (decide (N.toNat = 0) && s.toList.isEmpty) := rfl
    by_cases hn : N = 0
    · subst hn
      have hr : (vl 0 0 s).okB = s.toList.isEmpty := rfl
      rw [hr]
      clear hok hr hsz
      go_enter Tryd.func25, Tryd.ntmps25
      go_wp2
      all_goals go_ret
      all_goals exact ⟨ret_b (by simp_all), HB.out _⟩
    · have hb : (N == 0) = false := by simpa using hn
      have hr : (vl 0 N s).okB = false := by rw [hok, decide_eq_false (show ¬ N.toNat = 0 by omega)]; rfl
      rw [hr]
      clear hok hr hsz hn
      go_enter Tryd.func25, Tryd.ntmps25
      go_wp2
      go_ret
      exact ⟨rfl, HB.out _⟩
  by_cases k1 : K = 1
  · subst k1
    have hr : (vl 1 N s).okB = s.toList.isEmpty := rfl
    rw [hr]
    clear hr hsz
    · skip
      go_enter Tryd.func25, Tryd.ntmps25
      go_wp2
      all_goals go_ret
      all_goals exact ⟨ret_b (by simp_all), HB.out _⟩
  by_cases k2 : K = 2
  · subst k2
    have hr : (vl 2 N s).okB = s.toList.isEmpty := rfl
    rw [hr]
    clear hr hsz
    · skip
      go_enter Tryd.func25, Tryd.ntmps25
      go_wp2
      all_goals go_ret
      all_goals exact ⟨ret_b (by simp_all), HB.out _⟩
  by_cases k3 : K = 3
  · subst k3
    have hok : (vl 3 N s).okB = (decide (N.toNat < 2) && s.toList.isEmpty) := rfl
    by_cases hn : N ≤ 1
    · have hr : (vl 3 N s).okB = s.toList.isEmpty := by rw [hok, decide_eq_true (show N.toNat < 2 by omega)]; rfl
      have hn2 : N < 2 := by omega
      rw [hr]
      clear hok hr hsz
      go_enter Tryd.func25, Tryd.ntmps25
      go_wp2
      all_goals go_ret
      all_goals exact ⟨ret_b (by simp_all), HB.out _⟩
    · have hr : (vl 3 N s).okB = false := by rw [hok, decide_eq_false (show ¬ N.toNat < 2 by omega)]; rfl
      have hn1 : 1 < N := by omega
      have hn2 : ¬ N < 2 := by omega
      rw [hr]
      clear hok hr hsz
      go_enter Tryd.func25, Tryd.ntmps25
      go_wp2
      go_ret
      exact ⟨rfl, HB.out _⟩
  by_cases k4 : K = 4
  · subst k4
    have hok : (vl 4 N s).okB = (decide (N.toNat = 0) && decide (s.toList.length ≤ 64)) := rfl
    by_cases hn : N = 0
    · subst hn
      by_cases hl : (s.size : Int) ≤ 64
      · have hr : (vl 4 0 s).okB = true := by rw [hok, decide_eq_true (show s.toList.length ≤ 64 by omega)]; rfl
        rw [hr]
        clear hok hr hsz
        go_enter Tryd.func25, Tryd.ntmps25
        go_wp2
        go_ret
        exact ⟨rfl, HB.out _⟩
      · have hr : (vl 4 0 s).okB = false := by rw [hok, decide_eq_false (show ¬ s.toList.length ≤ 64 by omega)]; rfl
        have hl2 : (64 : Int) < s.size := by omega
        rw [hr]
        clear hok hr hsz
        go_enter Tryd.func25, Tryd.ntmps25
        go_wp2
        go_ret
        exact ⟨rfl, HB.out _⟩
    · have hb : (N == 0) = false := by simpa using hn
      have hr : (vl 4 N s).okB = false := by rw [hok, decide_eq_false (show ¬ N.toNat = 0 by omega)]; rfl
      rw [hr]
      clear hok hr hsz hn
      go_enter Tryd.func25, Tryd.ntmps25
      go_wp2
      go_ret
      exact ⟨rfl, HB.out _⟩
  by_cases k5 : K = 5
  · subst k5
    have hok : (vl 5 N s).okB = (decide (N.toNat = 0) && (decide (s.toList.length ≤ 64) && utf8B s.toList)) := rfl
    by_cases hn : N = 0
    · subst hn
      by_cases hl : (s.size : Int) ≤ 64
      · have hr : (vl 5 0 s).okB = utf8B s.toList := by rw [hok, decide_eq_true (show s.toList.length ≤ 64 by omega)]; rfl
        obtain ⟨B, hB⟩ : ∃ B, utf8B s.toList = B := ⟨_, rfl⟩
        have HS : Hid (s.size ≤ 64) := Lib.hid (by omega)
        have HU := Lib.hid hB
        rw [hr, hB]
        clear hok hr hsz hB
        go_enter Tryd.func25, Tryd.ntmps25
        go_wp2_with fail
        refine (rutf_below s _ (by have := HS.out; omega)).mono ?_
        rintro e w1 ⟨rfl, hb1⟩
        rw [HU.out]
        have H1 := Lib.hid ((HB.out _).trans (hb1.mono (by simp)))
        clear hb1
        go_wp2
        all_goals go_ret
        all_goals exact ⟨ret_b (by simp_all), H1.out⟩
      · have hr : (vl 5 0 s).okB = false := by rw [hok, decide_eq_false (show ¬ s.toList.length ≤ 64 by omega)]; rfl
        have hl2 : (64 : Int) < s.size := by omega
        rw [hr]
        clear hok hr hsz
        go_enter Tryd.func25, Tryd.ntmps25
        go_wp2
        go_ret
        exact ⟨rfl, HB.out _⟩
    · have hb : (N == 0) = false := by simpa using hn
      have hr : (vl 5 N s).okB = false := by rw [hok, decide_eq_false (show ¬ N.toNat = 0 by omega)]; rfl
      rw [hr]
      clear hok hr hsz hn
      go_enter Tryd.func25, Tryd.ntmps25
      go_wp2
      go_ret
      exact ⟨rfl, HB.out _⟩
  have hr : (vl K N s).okB = false := by
    simp [Vl.okB, k0, k1, k2, k3, k4, k5]
  have b0 : (K == 0) = false := by simpa using k0
  have b1 : (K == 1) = false := by simpa using k1
  have b2 : (K == 2) = false := by simpa using k2
  have b3 : (K == 3) = false := by simpa using k3
  have b4 : (K == 4) = false := by simpa using k4
  have b5 : (K == 5) = false := by simpa using k5
  rw [hr]
  clear hr hsz k0 k1 k2 k3 k4 k5
  · skip
    go_enter Tryd.func25, Tryd.ntmps25
    go_wp2
    go_ret
    exact ⟨rfl, HB.out _⟩

set_option maxHeartbeats 1000000 in
theorem rfits_any {nm : ByteArray} {cK cM : Int} {nu : Bool} {dK dN : Int} {dS : ByteArray} {K N : Int} {s : ByteArray} (hN : U64 N) (w : World) :
    Calls Tryd.prog 41 #[colv nm cK cM nu dK dN dS, vlv K N s] w fun e w' => e = .returned (.int .i64 (fitsE cK cM nu (vl K N s))) ∧ Below w.heap.size w w' := by
  have HB := Lib.hid (fun o p => below_2 w o p)
  have hsz := ba_size s
  by_cases ho : (vl K N s).okB = true
  case neg =>
    have ho : (vl K N s).okB = false := by simpa using ho
    have HOK := Lib.hid ho
    have hr : fitsE cK cM nu (vl K N s) = 8 := by rw [fitsE, if_pos ho]
    rw [hr]
    clear ho hr hsz
    go_enter Tryd.func41, Tryd.ntmps41
    go_wp2_with fail
    refine (rvalid_any hN _ ).mono ?_
    rintro e w1 ⟨rfl, hb1⟩
    rw [HOK.out]
    obtain ⟨c0, c1, c2, c3, v0, v2⟩ := fits_cells hb1
    have H1 := Lib.hid ((HB.out _ _).trans (hb1.mono (by simp; omega)))
    clear hb1
    go_wp2
    go_ret
    exact ⟨rfl, H1.out⟩
  have HOK := Lib.hid ho
  by_cases k0 : K = 0
  · subst k0
    cases nu with
    | false =>
      have hr : fitsE cK cM false (vl 0 N s) = 8 := by rw [fitsE, if_neg (by rw [ho]; decide), if_pos (by simp)]
      rw [hr]
      clear ho hr hsz
      go_enter Tryd.func41, Tryd.ntmps41
      go_wp2_with fail
      refine (rvalid_any hN _ ).mono ?_
      rintro e w1 ⟨rfl, hb1⟩
      rw [HOK.out]
      obtain ⟨c0, c1, c2, c3, v0, v2⟩ := fits_cells hb1
      have H1 := Lib.hid ((HB.out _ _).trans (hb1.mono (by simp; omega)))
      clear hb1
      go_wp2
      go_ret
      exact ⟨rfl, H1.out⟩
    | true =>
      have hr : fitsE cK cM true (vl 0 N s) = 0 := by rw [fitsE, if_neg (by rw [ho]; decide), if_neg (by simp), if_neg (by simp), if_neg (by simp)]
      rw [hr]
      clear ho hr hsz
      go_enter Tryd.func41, Tryd.ntmps41
      go_wp2_with fail
      refine (rvalid_any hN _ ).mono ?_
      rintro e w1 ⟨rfl, hb1⟩
      rw [HOK.out]
      obtain ⟨c0, c1, c2, c3, v0, v2⟩ := fits_cells hb1
      have H1 := Lib.hid ((HB.out _ _).trans (hb1.mono (by simp; omega)))
      clear hb1
      go_wp2
      go_ret
      exact ⟨rfl, H1.out⟩
  have b0 : (K == 0) = false := by simpa using k0
  have d0 : (K != 0) = true := by simpa using k0
  by_cases hk : K = cK
  case neg =>
    have hr : fitsE cK cM nu (vl K N s) = 8 := by rw [fitsE, if_neg (by rw [ho]; decide), if_neg (by simp [k0]), if_pos ⟨k0, hk⟩]
    have d1 : (K != cK) = true := by simpa using hk
    rw [hr]
    clear ho hr hsz k0 hk
    go_enter Tryd.func41, Tryd.ntmps41
    go_wp2_with fail
    refine (rvalid_any hN _ ).mono ?_
    rintro e w1 ⟨rfl, hb1⟩
    rw [HOK.out]
    obtain ⟨c0, c1, c2, c3, v0, v2⟩ := fits_cells hb1
    have H1 := Lib.hid ((HB.out _ _).trans (hb1.mono (by simp; omega)))
    clear hb1
    go_wp2
    go_ret
    exact ⟨rfl, H1.out⟩
  subst hk
  have d1 : (K != K) = false := by simp
  by_cases h45 : K = 4 ∨ K = 5
  case neg =>
    have hr : fitsE K cM nu (vl K N s) = 0 := by rw [fitsE, if_neg (by rw [ho]; decide), if_neg (by simp [k0]), if_neg (by simp), if_neg (fun h => h45 h.1)]
    have b4 : (K == 4) = false := by simp; omega
    have b5 : (K == 5) = false := by simp; omega
    rw [hr]
    clear ho hr hsz k0 h45
    go_enter Tryd.func41, Tryd.ntmps41
    go_wp2_with fail
    refine (rvalid_any hN _ ).mono ?_
    rintro e w1 ⟨rfl, hb1⟩
    rw [HOK.out]
    obtain ⟨c0, c1, c2, c3, v0, v2⟩ := fits_cells hb1
    have H1 := Lib.hid ((HB.out _ _).trans (hb1.mono (by simp; omega)))
    clear hb1
    go_wp2
    go_ret
    exact ⟨rfl, H1.out⟩
  by_cases hl : cM < (s.size : Int)
  · have hr : fitsE K cM nu (vl K N s) = 7 := by rw [fitsE, if_neg (by rw [ho]; decide), if_neg (by simp [k0]), if_neg (by simp), if_pos ⟨h45, by simp only [hsz]; exact hl⟩]
    rw [hr]
    rcases h45 with rfl | rfl
    all_goals
      clear ho hr hsz k0
      go_enter Tryd.func41, Tryd.ntmps41
      go_wp2_with fail
      refine (rvalid_any hN _ ).mono ?_
      rintro e w1 ⟨rfl, hb1⟩
      rw [HOK.out]
      obtain ⟨c0, c1, c2, c3, v0, v2⟩ := fits_cells hb1
      have H1 := Lib.hid ((HB.out _ _).trans (hb1.mono (by simp; omega)))
      clear hb1
      go_wp2
      go_ret
      exact ⟨rfl, H1.out⟩
  · have hr : fitsE K cM nu (vl K N s) = 0 := by rw [fitsE, if_neg (by rw [ho]; decide), if_neg (by simp [k0]), if_neg (by simp), if_neg (fun h => hl (by have := h.2; simp only [hsz] at this; exact this))]
    rw [hr]
    rcases h45 with rfl | rfl
    all_goals
      clear ho hr hsz k0
      go_enter Tryd.func41, Tryd.ntmps41
      go_wp2_with fail
      refine (rvalid_any hN _ ).mono ?_
      rintro e w1 ⟨rfl, hb1⟩
      rw [HOK.out]
      obtain ⟨c0, c1, c2, c3, v0, v2⟩ := fits_cells hb1
      have H1 := Lib.hid ((HB.out _ _).trans (hb1.mono (by simp; omega)))
      clear hb1
      go_wp2
      go_ret
      exact ⟨rfl, H1.out⟩

set_option maxHeartbeats 1000000 in
theorem rcolumn_any {nm : ByteArray} {cK cM : Int} {nu : Bool} {dK dN : Int} {dS : ByteArray} (hD : U64 dN) (w : World) :
    Calls Tryd.prog 62 #[colv nm cK cM nu dK dN dS] w fun e w' => e = .returned (.int .i64 (colE nm.toList cK cM nu (vl dK dN dS))) ∧ Below w.heap.size w w' := by
  have HB := Lib.hid (fun o => (Below.refl w.heap.size w).alloc (Nat.le_refl _) o)
  by_cases hn : nameB nm.toList = true
  case neg =>
    have hn : nameB nm.toList = false := by simpa using hn
    have HN := Lib.hid hn
    have hr : colE nm.toList cK cM nu (vl dK dN dS) = 1 := by rw [colE, if_pos hn]
    rw [hr]
    clear hn hr
    go_enter Tryd.func62, Tryd.ntmps62
    go_wp2_with fail
    refine (rname_any _ _).mono ?_
    rintro e w1 ⟨rfl, rfl⟩
    rw [HN.out]
    go_wp2
    go_ret
    exact ⟨rfl, HB.out _⟩
  have HN := Lib.hid hn
  by_cases hk : cK < 1 ∨ 5 < cK
  · have hr : colE nm.toList cK cM nu (vl dK dN dS) = 8 := by rw [colE, if_neg (by rw [hn]; decide), if_pos hk]
    rw [hr]
    clear hn hr
    have hk2 : cK < 1 ∨ (¬ cK < 1 ∧ 5 < cK) := by omega
    clear hk
    rcases hk2 with h1 | ⟨h1, h2⟩
    all_goals
      go_enter Tryd.func62, Tryd.ntmps62
      go_wp2_with fail
      refine (rname_any _ _).mono ?_
      rintro e w1 ⟨rfl, rfl⟩
      rw [HN.out]
      go_wp2
      go_ret
      exact ⟨rfl, HB.out _⟩
  have h1 : ¬ cK < 1 := by omega
  have h2 : ¬ 5 < cK := by omega
  by_cases hb : boundB cK cM = true
  case neg =>
    have hb : boundB cK cM = false := by simpa using hb
    have hr : colE nm.toList cK cM nu (vl dK dN dS) = 7 := by rw [colE, if_neg (by rw [hn]; decide), if_neg hk, if_pos hb]
    rw [hr]
    unfold boundB at hb
    clear hn hr hk
    by_cases h4 : cK < 4
    · have h3 : ¬ 3 < cK := by omega
      rw [if_neg (by omega)] at hb
      have hm : (cM != 0) = true := by simpa using hb
      clear hb
      go_enter Tryd.func62, Tryd.ntmps62
      go_wp2_with fail
      refine (rname_any _ _).mono ?_
      rintro e w1 ⟨rfl, rfl⟩
      rw [HN.out]
      go_wp2
      go_ret
      exact ⟨rfl, HB.out _⟩
    · have h3 : 3 < cK := by omega
      rw [if_pos (by omega)] at hb
      have hm : cM < 1 ∨ (¬ cM < 1 ∧ 64 < cM) := by simp at hb; omega
      clear hb
      rcases hm with m1 | ⟨m1, m2⟩
      all_goals
        go_enter Tryd.func62, Tryd.ntmps62
        go_wp2_with fail
        refine (rname_any _ _).mono ?_
        rintro e w1 ⟨rfl, rfl⟩
        rw [HN.out]
        go_wp2
        go_ret
        exact ⟨rfl, HB.out _⟩
  have hr : colE nm.toList cK cM nu (vl dK dN dS) = fitsE cK cM nu (vl dK dN dS) := by rw [colE, if_neg (by rw [hn]; decide), if_neg hk, if_neg (by rw [hb]; decide)]
  rw [hr]
  unfold boundB at hb
  clear hn hr hk
  by_cases h4 : cK < 4
  · have h3 : ¬ 3 < cK := by omega
    rw [if_neg (by omega)] at hb
    have hm : (cM != 0) = false := by simpa using hb
    clear hb
    go_enter Tryd.func62, Tryd.ntmps62
    go_wp2_with fail
    refine (rname_any _ _).mono ?_
    rintro e w1 ⟨rfl, rfl⟩
    rw [HN.out]
    go_wp2_with fail
    refine (rfits_any hD _).mono ?_
    rintro e w2 ⟨rfl, hb2⟩
    have H2 := Lib.hid ((HB.out _).trans (hb2.mono (by simp)))
    clear hb2
    go_wp2
    go_ret
    exact ⟨rfl, H2.out⟩
  · have h3 : 3 < cK := by omega
    rw [if_pos (by omega)] at hb
    have hm : ¬ cM < 1 ∧ ¬ 64 < cM := by simp at hb; omega
    obtain ⟨m1, m2⟩ := hm
    clear hb
    go_enter Tryd.func62, Tryd.ntmps62
    go_wp2_with fail
    refine (rname_any _ _).mono ?_
    rintro e w1 ⟨rfl, rfl⟩
    rw [HN.out]
    go_wp2_with fail
    refine (rfits_any hD _).mono ?_
    rintro e w2 ⟨rfl, hb2⟩
    have H2 := Lib.hid ((HB.out _).trans (hb2.mono (by simp)))
    clear hb2
    go_wp2
    go_ret
    exact ⟨rfl, H2.out⟩

end Go.Proofs.YtgkcflindenboaaDoor

namespace Go.Proofs.YtgkcflindenboaaDoor.R
open Go Go.RowKit Go.Lib Go.Proofs.YtgkcflindenboaaDoor
set_option linter.unusedVariables false
set_option linter.unusedSimpArgs false
set_option maxRecDepth 100000

/-- The document's Out in block p. -/
structure OutV (w : World) (p : Nat) (v : Value) (xs : List UInt8) : Prop where
  at' : w.heap[p]? = some (.cells #[v] 90 (0, 0))
  own : w.ownsRow 0 5 1 v xs.length (u8s xs)

def PutPost (w : World) (p : Nat) (v : Value) (xs : List UInt8) (e : Ending) (w' : World) : Prop :=
  e = .returned (.tuple #[]) ∧ ∃ v', OutV w' p v' xs ∧ (v'.ownBlock = v.ownBlock ∨ ∃ g, v'.ownBlock = some g ∧ w.heap.size ≤ g) ∧ Only (OutS p v) w w'

def NumInv (w : World) (p x n : Nat) (v : Value) (xs : List UInt8) (k : Nat) (wr : World) : Prop :=
  ∃ D v', D ++ beB k x = beB n x ∧ OutV wr p v' (xs ++ D) ∧ (v'.ownBlock = v.ownBlock ∨ ∃ g, v'.ownBlock = some g ∧ w.heap.size ≤ g) ∧ Only (OutS p v) w wr

theorem OutV.cell {w : World} {p : Nat} {v : Value} {xs : List UInt8} (h : OutV w p v xs) : w.cell? ⟨p, 0, none⟩ = some v := by simp [World.cell?, h.at']
theorem OutV.free {w : World} {p : Nat} {v : Value} {xs : List UInt8} (h : OutV w p v xs) : w.frozen? ⟨p, 0, none⟩ = false := by simp [World.frozen?, h.at']
theorem OutV.ne {w : World} {p : Nat} {v : Value} {xs : List UInt8} (h : OutV w p v xs) : v.ownBlock ≠ some p := by
  intro e
  have h1 := h.at'
  rcases h.own.2 with ⟨rfl, _⟩ | ⟨g, cap, cur, rfl, _, hg, _⟩
  · simp [Value.ownBlock] at e
  · simp [Value.ownBlock] at e
    subst e
    rw [hg] at h1
    simp at h1

/-- Behind the append of one byte, ahead of its store into the Out's field. -/
structure PutMid (wr : World) (p : Nat) (v : Value) (ys : List UInt8) (v1 : Value) (w1 : World) : Prop where
  at' : w1.heap[p]? = some (.cells #[v] 90 (0, 0))
  own : w1.ownsRow 0 5 1 v1 ys.length (u8s ys)
  row : v1.ownBlock = v.ownBlock ∨ ∃ g, v1.ownBlock = some g ∧ wr.heap.size ≤ g
  only : Only (OutS p v) wr w1

theorem PutMid.done {wr w1 : World} {p : Nat} {v v1 : Value} {ys : List UInt8} (h : PutMid wr p v ys v1 w1) : OutV (w1.setCell ⟨p, 0, none⟩ v1) p v1 ys := by
  have hne : v1.ownBlock ≠ some p := by
    intro e
    have h1 := h.at'
    rcases h.own.2 with ⟨rfl, _⟩ | ⟨g, cap, cur, rfl, _, hg, _⟩
    · simp [Value.ownBlock] at e
    · simp [Value.ownBlock] at e
      subst e
      rw [hg] at h1
      simp at h1
  exact ⟨one_setCell h.at', ownsRow_setCell_other h.own hne _⟩

/-- The append itself, in whatever world the new bytes lie. -/
theorem PutMid.mk' {wr w0 w1 : World} {p : Nat} {v : Value} {xs ys : List UInt8} (hV : OutV wr p v xs) (h0 : Only (fun _ => False) wr w0) {g cap n : Nat}
    (hown : w1.ownsRow 0 5 1 (.slice (some ⟨g, 0, none⟩) n cap) n (u8s ys)) (hn : n = ys.length) (hg : w0.grownBy w1 v.ownBlock) (hat : v.ownBlock = some g ∨ wr.heap.size ≤ g) :
    PutMid wr p v ys (.slice (some ⟨g, 0, none⟩) n cap) w1 := by
  have hp := h0.keep hV.at' (fun h => h)
  subst hn
  refine ⟨(hg.block p (lt_of_some hp) (fun e => hV.ne e.symm)).trans hp, hown, ?_, ?_⟩
  · rcases hat with h | h
    · exact .inl h.symm
    · exact .inr ⟨g, rfl, h⟩
  · exact (h0.mono (T := OutS p v) (fun _ _ h => h.elim)).grown hg (fun k _ e => .inr e)

theorem step_put {ops : Array Oper} {o : Oper} {a : Act} {K : Act → World → Prop} {Q : Exit → Act → World → Prop} {E : Prop} (wr : World) (p : Nat) (v : Value) (xs : List UInt8) (z : Int) (b : UInt8)
    (hV : OutV wr p v xs) (hz : z = (b.toNat : Int)) (hlen : xs.length + 1 ≤ 140737488355328) (hgd : o.guard = none) (s x : Operand)
    (ho : o.op = .call { callee := .builtin .append, args := #[s, x], argTypes := #[49, 49] })
    (hs : a.eval s = v) (hx : a.eval x = .slice (some ⟨wr.heap.size, 0, none⟩) 1 1)
    (h : ∀ g cap w1, w1.cell? ⟨p, 0, none⟩ = some v → w1.frozen? ⟨p, 0, none⟩ = false → Hid (PutMid wr p v (xs ++ [b]) (.slice (some ⟨g, 0, none⟩) (xs.length + 1) cap) w1) →
      K (a.put o.dst (.slice (some ⟨g, 0, none⟩) (xs.length + 1) cap)) w1) :
    if Region.wanted o (yielded ops a.tmps) = true then Oper.wp Tryd.prog o a (wr.alloc (.cells #[.int .u8 z] 5)).drew K Q else E := by
  obtain ⟨i0, hi, hz0, hz1, hz2⟩ := info_parts Tryd.infoU8
  subst hz
  refine step_append_lies (P := Tryd.prog) (wr.alloc (.cells #[.int .u8 (b.toNat : Int)] 5)).drew hgd s x 49 ho 0 5 i0 (.int .u8 0) 1 1 Tryd.underlying49 hi hz0 hz1 hz2 rfl (by decide) v xs.length (u8s xs) hs
    ((hV.own.alloc _).drew) ⟨wr.heap.size, 0, none⟩ 1 1 (u8s [b]) hx rfl (World.news_of_block (B := wr.heap.size) (heap_alloc_new wr _)) (u8s_oneCell _) Nat.zero_lt_one (by unfold maxLen; omega) (by omega) (Nat.zero_le _) (wr.heap.size + 1) (by simp) ?_
  intro g cap w1 hown hgrow hat hlt
  rw [← u8s_append] at hown
  have hm := PutMid.mk' (ys := xs ++ [b]) hV (((Only.refl _ wr).alloc (.cells #[.int .u8 (b.toNat : Int)] 5)).drew) hown (by simp) hgrow (hat.imp id (fun e => by omega))
  exact h g cap w1 (cell_of_one hm.at') (free_of_one hm.at') hm

theorem NumInv.step {w wr w1 : World} {p x n m q : Nat} {v v' v1 : Value} {xs ys D : List UInt8} (hys : ys = xs ++ D) (hD : D ++ beB (m + 1) x = beB n x)
    (hb : v'.ownBlock = v.ownBlock ∨ ∃ g, v'.ownBlock = some g ∧ w.heap.size ≤ g) (ho : Only (OutS p v) w wr) (hq : q = x / 256 ^ m) (hm : PutMid wr p v' (ys ++ [UInt8.ofNat q]) v1 w1) :
    NumInv w p x n v xs m (w1.setCell ⟨p, 0, none⟩ v1) := by
  subst hys hq
  refine ⟨D ++ [UInt8.ofNat (x / 256 ^ m)], v1, by rw [← hD]; simp [beB], by simpa using hm.done, row_trans ho.size hb hm.row, ?_⟩
  exact (ho.trans (hm.only.trans (Only.cell w1 p 0 v1) (fun k _ e => .inl e)) (fun k hk h => OutS.sub hb k hk h))

set_option maxHeartbeats 400000 in
theorem putNumber (p x n : Nat) (v : Value) (xs : List UInt8) (w : World) (hO : OutV w p v xs) (hn8 : n ≤ 8) (hx : x < 18446744073709551616) (hlen : xs.length + n ≤ 140737488355328) :
    Calls Tryd.prog 54 #[.pointer (some ⟨p, 0, none⟩), .int .u64 x, .int .i64 n] w (PutPost w p v (xs ++ beB n x)) := by
  have HX := Lib.hid hx
  clear hx
  have HO := Lib.hid hO
  clear hO
  obtain ⟨i0, hi, hz0, hz1, hz2⟩ := info_parts Tryd.infoU8
  go_enter Tryd.func54, Tryd.ntmps54
  go_wp2
  go_loopw [6] (fun i wr => ∃ k : Nat, k ≤ n ∧ i = .int .i64 ((k : Int) - 1) ∧ NumInv w p x n v xs k wr) (fun i _ => (RowKit.intOf i + 1).toNat)
  case atStart => exact ⟨n, Nat.le_refl _, rfl, [], v, rfl, by rw [List.append_nil]; exact HO.out, .inl rfl, Only.refl _ _⟩
  case round =>
    obtain ⟨k, hk, rfl, hinv⟩ := hrel
    have HI := Lib.hid hinv; clear hinv
    match k, hk, HI with
    | 0, hk, HI =>
      go_wp2
      obtain ⟨D, v', hD, hV, hb, ho⟩ := HI.out
      exact bodyPost_end (results_none rfl _ _ _) rfl ⟨rfl, v', by rw [← hD]; simpa [beB] using hV, hb, ho⟩
    | m + 1, hk, HI =>
      obtain ⟨D, v', hD, hV, hb, ho⟩ := HI.out
      rw [show (((m + 1 : Nat) : Int) - 1) = (m : Int) from by omega]
      obtain ⟨ys, hys⟩ : ∃ ys, ys = xs ++ D := ⟨_, rfl⟩
      rw [← hys] at hV
      have hc0 := hV.cell
      have hf := hV.free
      obtain ⟨q, hq⟩ : ∃ q, q = x / 256 ^ m := ⟨_, rfl⟩
      have hsh := shift_at x m (by omega)
      rw [← hq] at hsh
      have hlen2 : ys.length + 1 ≤ 140737488355328 := by
        have h1 := congrArg List.length hD
        rw [hys]
        simp only [List.length_append, beB_length] at h1 ⊢
        omega
      have hz : IntKind.u8.wrap (q : Int) = ((UInt8.ofNat q).toNat : Int) := by rw [IntKind.wrap_u8']; simp
      have hc0' : (wr.alloc (.cells #[.int .u8 (IntKind.u8.wrap (q : Int))] 5)).cell? ⟨p, 0, none⟩ = some v' := cell_of_one ((Below.heap_alloc wr _ p (lt_of_some hV.at')).trans hV.at')
      have HV := Lib.hid hV; clear hV
      have HD := Lib.hid hD; clear hD
      have HB := Lib.hid hb; clear hb
      have HW := Lib.hid ho; clear ho
      have HQ := Lib.hid hq; clear hq
      have HYS := Lib.hid hys; clear hys
      have HZ := Lib.hid hz; clear hz
      clear HI HO
      go_wp2
      go_region_law ((refine step_put wr p v' ys (IntKind.u8.wrap (q : Int)) (UInt8.ofNat q) HV.out HZ.out hlen2 rfl (.tmp 17) (.tmp 23) rfl ?_ ?_ ?_; (go_must (simp [Act.eval])); (go_must (simp [Act.eval])); (go_must (intro g cap w1 c1 f1 HM))))
      all_goals
        have HN := Lib.hid (NumInv.step HYS.out HD.out HB.out HW.out HQ.out HM.out)
        clear HM HYS HD HB HW HQ HV HZ hc0 hf hsh hlen2 hc0' c1 f1
        go_wp2
        go_roundw
        case rel => exact ⟨m, by omega, by go_num, HN.out⟩
        case measure => (simp [RowKit.intOf] <;> omega)

end Go.Proofs.YtgkcflindenboaaDoor.R

namespace Go.Proofs.YtgkcflindenboaaDoor.R
open Go Go.RowKit Go.Lib Go.Proofs.YtgkcflindenboaaDoor
set_option linter.unusedVariables false
set_option linter.unusedSimpArgs false
set_option maxRecDepth 100000

theorem wp_text {ops : Array Oper} {rest : List Oper} {o : Oper} {a : Act} {Q : Exit → Act → World → Prop} (w : World) (p : Nat) (v : Value) (xs : List UInt8) (s : ByteArray) (hV : OutV w p v xs) (hlen : xs.length + s.size ≤ 140737488355328)
    (hgd : o.guard = none) (sl x : Operand) (ho : o.op = .call { callee := .builtin .append, args := #[sl, x], argTypes := #[49, 9] }) (hty : o.type = 49)
    (hs : a.eval sl = v) (hx : a.eval x = .string s)
    (h : ∀ ao cap w', w'.cell? ⟨p, 0, none⟩ = some v → w'.frozen? ⟨p, 0, none⟩ = false → Hid (PutMid w p v (xs ++ s.data.toList) (.slice ao (xs.length + s.size) cap) w') → wpList Tryd.prog ops Q rest (a.put o.dst (.slice ao (xs.length + s.size) cap)) w') :
    wpList Tryd.prog ops Q (o :: rest) a w := by
  refine wpList_plain hgd fun K hK => ?_
  obtain ⟨v', w', hr, h2, h3, h4⟩ := run_str_at w v xs.length (u8s xs) hV.own s hlen
  obtain ⟨ao, cap, rfl⟩ := own_shape h2
  have hm : PutMid w p v (xs ++ s.data.toList) (.slice ao (xs.length + s.size) cap) w' := by
    refine ⟨(h3.block p (lt_of_some hV.at') (fun e => hV.ne e.symm)).trans hV.at', ?_, h4, (Only.refl _ w).grown h3 (fun k _ e => .inr e)⟩
    rw [u8s_append, List.length_append, Array.length_toList]
    exact h2
  unfold Oper.wp execOp
  simp only [ho, hty, resolve, invoke, builtin, Sem.run_bind, Sem.run_pure, Result.andThen_ok, List.map_toArray, List.map_cons, List.map_nil, hs, hx, hr]
  exact hK _ _ (h _ _ _ (cell_of_one hm.at') (free_of_one hm.at') hm)


/-- The append of one byte in a plain region. -/
theorem wp_put {ops : Array Oper} {rest : List Oper} {o : Oper} {a : Act} {Q : Exit → Act → World → Prop} (w : World) (p : Nat) (v : Value) (xs : List UInt8) (b : UInt8) (hV : OutV w p v xs) (hlen : xs.length + 1 ≤ 140737488355328)
    (hgd : o.guard = none) (s x : Operand) (ho : o.op = .call { callee := .builtin .append, args := #[s, x], argTypes := #[49, 49] })
    (hs : a.eval s = v) (hx : a.eval x = .slice (some ⟨w.heap.size, 0, none⟩) 1 1)
    (h : ∀ g cap w1, w1.cell? ⟨p, 0, none⟩ = some v → w1.frozen? ⟨p, 0, none⟩ = false → Hid (PutMid w p v (xs ++ [b]) (.slice (some ⟨g, 0, none⟩) (xs.length + 1) cap) w1) →
      wpList Tryd.prog ops Q rest (a.put o.dst (.slice (some ⟨g, 0, none⟩) (xs.length + 1) cap)) w1) :
    wpList Tryd.prog ops Q (o :: rest) a (w.alloc (.cells #[.int .u8 (b.toNat : Int)] 5)) := by
  obtain ⟨i0, hi, hz0, hz1, hz2⟩ := info_parts Tryd.infoU8
  refine wpList_append_lies (P := Tryd.prog) (w.alloc (.cells #[.int .u8 (b.toNat : Int)] 5)) hgd s x 49 ho 0 5 i0 (.int .u8 0) 1 1 Tryd.underlying49 hi hz0 hz1 hz2 rfl (by decide) v xs.length (u8s xs) hs
    (hV.own.alloc _) ⟨w.heap.size, 0, none⟩ 1 1 (u8s [b]) hx rfl (World.news_of_block (B := w.heap.size) (heap_alloc_new w _)) (u8s_oneCell _) Nat.zero_lt_one (by unfold maxLen; omega) (by omega) (Nat.zero_le _) (w.heap.size + 1) (by simp) ?_
  intro g cap w1 hown hgrow hat hlt
  rw [← u8s_append] at hown
  have hm := PutMid.mk' (ys := xs ++ [b]) hV ((Only.refl _ w).alloc (.cells #[.int .u8 (b.toNat : Int)] 5)) hown (by simp) hgrow (hat.imp id (fun e => by omega))
  exact h g cap w1 (cell_of_one hm.at') (free_of_one hm.at') hm

theorem done_post {w w1 : World} {p : Nat} {v v1 : Value} {ys : List UInt8} (h : PutMid w p v ys v1 w1) : PutPost w p v ys (.returned (.tuple #[])) (w1.setCell ⟨p, 0, none⟩ v1) :=
  ⟨rfl, v1, h.done, h.row, h.only.trans (Only.cell _ _ _ _) (fun k _ e => .inl e)⟩

set_option maxHeartbeats 400000 in
theorem outFlag (p : Nat) (b : Bool) (v : Value) (xs : List UInt8) (w : World) (hO : OutV w p v xs) (hlen : xs.length + 1 ≤ 140737488355328) :
    Calls Tryd.prog 76 #[.pointer (some ⟨p, 0, none⟩), .bool b] w (PutPost w p v (xs ++ flagB b)) := by
  have hc0 := hO.cell
  have hf := hO.free
  have HO := Lib.hid hO; clear hO
  cases b with
  | true =>
    go_enter Tryd.func76, Tryd.ntmps76
    go_wp2_with (at_builtin; refine wp_put w p v xs 1 HO.out hlen rfl (.tmp 9) (.tmp 10) rfl rfl rfl ?_; intro g cap w1 c1 f1 HM)
    exact bodyPost_end (results_none rfl _ _ _) rfl (done_post HM.out)
  | false =>
    go_enter Tryd.func76, Tryd.ntmps76
    go_wp2_with (at_builtin; refine wp_put w p v xs 0 HO.out hlen rfl (.tmp 18) (.tmp 19) rfl rfl rfl ?_; intro g cap w1 c1 f1 HM)
    exact bodyPost_end (results_none rfl _ _ _) rfl (done_post HM.out)

set_option maxHeartbeats 400000 in
theorem outText_long (p : Nat) (s : ByteArray) (w : World) (hs : 65535 < s.size) :
    Calls Tryd.prog 77 #[.pointer (some ⟨p, 0, none⟩), .string s] w fun e w' => e = .returned (.bool false) ∧ w = w' := by
  have hs' : (65535 : Int) < (s.size : Int) := by omega
  go_enter Tryd.func77, Tryd.ntmps77
  go_wp2
  go_ret
  exact ⟨rfl, rfl⟩

def TextPutPost (w : World) (p : Nat) (v : Value) (xs : List UInt8) (e : Ending) (w' : World) : Prop :=
  e = .returned (.bool true) ∧ ∃ v', OutV w' p v' xs ∧ (v'.ownBlock = v.ownBlock ∨ ∃ g, v'.ownBlock = some g ∧ w.heap.size ≤ g) ∧ Only (OutS p v) w w'

set_option maxHeartbeats 400000 in
theorem outText (p : Nat) (s : ByteArray) (v : Value) (xs : List UInt8) (w : World) (hO : OutV w p v xs) (hs : s.size ≤ 65535) (hlen : xs.length + 2 + s.size ≤ 140737488355328) :
    Calls Tryd.prog 77 #[.pointer (some ⟨p, 0, none⟩), .string s] w (TextPutPost w p v (xs ++ txtB s.data.toList)) := by
  have HO := Lib.hid hO; clear hO
  have hs' : ¬ (65535 : Int) < (s.size : Int) := by omega
  have HE : Hid (IntKind.u64.wrap (s.size : Int) = (s.size : Int)) := by show _ = _; rw [IntKind.wrap_u64]; omega
  go_enter Tryd.func77, Tryd.ntmps77
  go_wp2_with fail
  try rw [HE.out]
  refine (putNumber p s.size 2 v xs w HO.out (by omega) (by omega) (by omega)).mono ?_
  rintro e w1 ⟨rfl, v1, hV1, hb1, ho1⟩
  have hl2 : (xs ++ beB 2 s.size).length + s.size ≤ 140737488355328 := by simp [beB_length]; omega
  obtain ⟨ys, hys⟩ : ∃ ys, ys = xs ++ beB 2 s.size := ⟨_, rfl⟩
  rw [← hys] at hV1 hl2
  have hc0 := hV1.cell
  have hf := hV1.free
  have HV1 := Lib.hid hV1; clear hV1
  have HB1 := Lib.hid hb1; clear hb1
  have HO1 := Lib.hid ho1; clear ho1
  have HY := Lib.hid hys; clear hys
  go_wp2_with (at_builtin; refine wp_text w1 p v1 ys s HV1.out hl2 rfl (.tmp 17) (.tmp 18) rfl rfl rfl rfl ?_; intro ao cap w2 c2 f2 HM)
  go_ret
  refine ⟨rfl, .slice ao (ys.length + s.size) cap, ?_, row_trans HO1.out.size HB1.out HM.out.row, put_chain HO1.out HB1.out (HM.out.only.trans (Only.cell _ _ _ _) (fun k _ e => .inl e))⟩
  have := HM.out.done
  rw [show xs ++ txtB s.data.toList = ys ++ s.data.toList by rw [HY.out]; simp [txtB]]
  exact this

end Go.Proofs.YtgkcflindenboaaDoor.R
