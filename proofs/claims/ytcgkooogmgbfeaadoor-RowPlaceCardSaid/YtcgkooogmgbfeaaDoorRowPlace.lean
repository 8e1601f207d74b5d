/-
  RowPlace: its walk.
-/
import Derived.Test.YtcgkooogmgbfeaaDoorRowJ6
import Derived.Test.YtcgkooogmgbfeaaDoorByAt
import Derived.BigQuiet
import Derived.Deep.QuietTactic
namespace Go.Proofs.YtcgkooogmgbfeaaDoor
open Go Go.RowKit
set_option linter.unusedVariables false
set_option linter.unusedSimpArgs false
set_option maxRecDepth 100000

theorem rowL_split : ∀ {l : List Vl} {k : Nat} {v : Vl}, l[k]? = some v → rowL l = rowL (l.take k) ++ rb v ++ rowL (l.drop (k + 1))
  | a :: l, 0, v, h => by
    simp only [List.getElem?_cons_zero, Option.some.injEq] at h
    subst h
    simp [rowL]
  | a :: l, k + 1, v, h => by
    simp only [List.getElem?_cons_succ] at h
    rw [rowL, List.take_succ_cons, List.drop_succ_cons, rowL, rowL_split h]
    simp [List.append_assoc]
/-- What stands ahead of a number's eight bytes. -/
def ahead (l : List Vl) (k : Nat) : List UInt8 := UInt8.ofNat l.length :: (rowL (l.take k) ++ [0])
theorem rowS_split {l : List Vl} {k : Nat} {v : Vl} (h : l[k]? = some v) (hK : v.K = 1 ∨ v.K = 2) : rowS l = ahead l k ++ (beB 8 v.N ++ rowL (l.drop (k + 1))) := by
  rw [rowS, rowL_split h, ahead]
  unfold rb
  rw [if_neg (by omega), if_pos hK]
  simp [List.append_assoc]
theorem ahead_len (l : List Vl) (k : Nat) : (ahead l k).length = (rowS (l.take k)).length + 1 := by simp [ahead, rowS]
theorem ahead_set (l : List Vl) (k : Nat) (u : Vl) : ahead (l.set k u) k = ahead l k := by
  unfold ahead
  rw [List.length_set, List.take_set_of_le (Nat.le_refl k)]
theorem fit_num {c : Cv} {u v : Vl} (hK : v.K = 1 ∨ v.K = 2) (h1 : u.K = v.K) (h2 : u.S = v.S) : c.fit u = c.fit v := by
  have ho : u.okB = v.okB := by
    unfold Vl.okB
    rw [h1, h2]
    by_cases e : v.K = 0
    · omega
    · simp only [if_neg e, if_pos hK]
  unfold Cv.fit fitsE
  rw [ho, h1, h2]
theorem fitsL_set : ∀ {cs : List Cv} {l : List Vl} {k : Nat} {u v : Vl}, l[k]? = some v → (∀ c : Cv, c.fit u = c.fit v) → fitsL cs (l.set k u) = fitsL cs l
  | [], l, k, u, v, _, _ => by cases l <;> simp [fitsL]
  | c :: cs, [], k, u, v, h, _ => by simp at h
  | c :: cs, a :: l, 0, u, v, h, hu => by
    simp only [List.getElem?_cons_zero, Option.some.injEq] at h
    subst h
    rw [List.set_cons_zero, fitsL, fitsL, hu]
  | c :: cs, a :: l, k + 1, u, v, h, hu => by
    simp only [List.getElem?_cons_succ] at h
    rw [List.set_cons_succ, fitsL, fitsL, fitsL_set h hu]
theorem rfits_set {cs : List Cv} {l : List Vl} {k : Nat} {u v : Vl} (h : rfits cs l = 0) (hv : l[k]? = some v) (hu : ∀ c : Cv, c.fit u = c.fit v) : rfits cs (l.set k u) = 0 := by
  obtain ⟨h1, h2, h3⟩ := rfits_ok h
  unfold rfits
  rw [if_neg]
  · rw [fitsL_set hv hu]; exact h3
  · rintro (e | e)
    · rw [h1] at e; cases e
    · exact e (by rw [List.length_set, h2])
theorem put_byte (A R T O : List UInt8) (j : Nat) (hT : T.length = 8) (hO : O.length = 8) (hj : j < 8) : (A ++ ((T.take j ++ O.drop j) ++ R)).set (A.length + j) (T.getD j 0) = A ++ ((T.take (j + 1) ++ O.drop (j + 1)) ++ R) ∧ (A ++ ((T.take j ++ O.drop j) ++ R)).getD (A.length + j) 0 = O.getD j 0 := by
  have ht : (T.take j).length = j := by rw [List.length_take]; omega
  constructor
  · rw [List.set_append_right _ _ (by omega), Nat.add_sub_cancel_left, List.append_assoc, List.set_append_right _ _ (by omega), ht, Nat.sub_self, List.drop_eq_getElem_cons (by omega), List.cons_append, List.set_cons_zero,
      show T.getD j 0 = T[j] by simp [hT, hj]]
    have e : T.take (j + 1) = T.take j ++ [T[j]] := List.take_succ_eq_append_getElem (by omega)
    rw [e]
    simp only [List.append_assoc, List.cons_append, List.nil_append]
  · rw [List.getD_eq_getElem?_getD, List.getElem?_append_right (by omega), Nat.add_sub_cancel_left, List.append_assoc, List.getElem?_append_right (by omega), ht, Nat.sub_self, List.getElem?_append_left (by simp; omega), List.getElem?_drop, Nat.add_zero, ← List.getD_eq_getElem?_getD]
theorem beB_at : ∀ (n x j : Nat), j < n → (beB n x).getD j 0 = UInt8.ofNat (x / 256 ^ (n - 1 - j))
  | n + 1, x, 0, _ => by simp [beB]
  | n + 1, x, j + 1, h => by
    rw [beB, List.getD_cons_succ, beB_at n x j (by omega)]
    congr 3
    omega
theorem rplace_ok {cs : List Cv} {l : List Vl} {z : Int} {a er : Int} (h : rfits cs l = 0) (h5 : (rowS l).length ≤ 512) (hN : ∀ v ∈ l, v.N < 18446744073709551616) (hp : (a, er) = rplace cs (rowS l) z) :
    (er ≠ 0 ∧ (z < 0 ∨ (l.length : Int) ≤ z ∨ (0 ≤ z ∧ z < l.length ∧ ¬ ((l.getD z.toNat ⟨0, 0, []⟩).K = 1 ∨ (l.getD z.toNat ⟨0, 0, []⟩).K = 2)))) ∨
    (er = 0 ∧ 0 ≤ z ∧ z < l.length ∧ ((l.getD z.toNat ⟨0, 0, []⟩).K = 1 ∨ (l.getD z.toNat ⟨0, 0, []⟩).K = 2) ∧ a = (ahead l z.toNat).length) := by
  obtain ⟨h1, h2, h3⟩ := rfits_ok h
  obtain ⟨b1, b2, b3⟩ := colsB_iff.1 h1
  have hd : rdec cs (rowS l) = (l, 0) := by rw [rdec_of h1 (row_back0 h h5 hN), h2, List.drop_length, List.map_nil, List.append_nil]
  have hs0 : ((rowS l).getD 0 0).toNat = l.length := by
    show (UInt8.ofNat l.length).toNat = _
    exact ofNat_small (by omega)
  unfold rplace at hp
  rw [hd, hs0, ← h2] at hp
  simp only [ne_eq, not_true_eq_false, if_false] at hp
  by_cases hz : z < 0 ∨ (l.length : Int) ≤ z
  · rw [if_pos hz] at hp
    simp only [Prod.mk.injEq] at hp
    exact .inl ⟨by rw [hp.2]; decide, hz.imp id .inl⟩
  rw [if_neg hz] at hp
  by_cases hK : (l.getD z.toNat ⟨0, 0, []⟩).K = 1 ∨ (l.getD z.toNat ⟨0, 0, []⟩).K = 2
  · rw [if_neg (by rintro (e | e); exact e hK; omega)] at hp
    simp only [Prod.mk.injEq] at hp
    exact .inr ⟨hp.2, by omega, by omega, hK, by rw [hp.1, ahead_len]⟩
  · rw [if_pos (.inl hK)] at hp
    simp only [Prod.mk.injEq] at hp
    exact .inl ⟨by rw [hp.2]; decide, .inr (.inr ⟨by omega, by omega, hK⟩)⟩

set_option maxHeartbeats 16000000 in
theorem rpl_walk (w : World) {co lo : Option Addr} {cc lc : Nat} {cs : List Cv} {xs : List Vv} {z num : Int} (hc : SlCs w co cs) (hcl : cs.length ≤ 140737488355328) (hcs : Shp co cs.length cc) (hx : SlV w lo xs) (hxl : xs.length ≤ 140737488355328) (hnum : U64 num) (hT : UTab w) :
    Calls Tryd.prog 6 #[.slice co cs.length cc, .slice lo xs.length lc, .int .i64 z, .int .u64 num] w fun e w' => e = .returned (.bool true) ∧ Below w.heap.size w w' := by
  have HC := Lib.hid hc
  have HX := Lib.hid hx
  have HT := Lib.hid hT
  have HXU := Lib.hid (rvl_lt hx.u64)
  have HXV := Lib.hid hx.u64
  obtain ⟨nu, rfl⟩ : ∃ nu : Nat, num = (nu : Int) := ⟨num.toNat, by have := hnum.lo; omega⟩
  have HNU : Hid (nu < 18446744073709551616) := Lib.hid (by have := hnum.hi; omega)
  obtain ⟨n, hn⟩ : ∃ n, n = cs.length := ⟨_, rfl⟩
  obtain ⟨m, hm⟩ : ∃ m, m = xs.length := ⟨_, rfl⟩
  rw [← hn, ← hm]
  rw [← hn] at hcs
  have HCS := Lib.hid hcs
  have HN := Lib.hid hn
  have HM := Lib.hid hm
  clear hc hcl hx hxl hT hn hm hcs hnum
  go_enter Tryd.func6, Tryd.ntmps6
  go_wp2_with fail
  refine (rawake_any w HT.out).mono ?_
  rintro e w1 ⟨rfl, h1⟩
  have H1 := Lib.hid h1
  clear h1
  go_wp2_with fail
  refine (rencode_any co lo n cc m lc cs xs w1 (HT.out.keep (only_b H1.out)) (HC.out.keep H1.out) (HX.out.keep H1.out) HN.out HM.out).mono ?_
  rintro e w2 ⟨a, er, rfl, ha, h2⟩
  have HA := Lib.hid ha
  have H2 := Lib.hid (H1.out.trans h2 (fun _ _ h => h))
  clear ha h2 H1
  obtain ⟨A, hA⟩ : ∃ A : ByteArray, (⟨a.toArray⟩ : ByteArray) = A := ⟨_, rfl⟩
  have HAT : Hid (A.toList = a) := Lib.hid (by rw [← hA, ba_mk1])
  rw [hA]
  clear hA
  go_wp2_with fail
  refine (rplace_any co n cc cs A z w2 (HT.out.keep (only_b H2.out)) (HC.out.keep H2.out) HN.out HCS.out).mono ?_
  rintro e w3 ⟨at', er2, rfl, hp, h3⟩
  have HP := Lib.hid hp
  have H3 := Lib.hid (H2.out.trans h3 (fun _ _ h => h))
  clear hp h3 H2
  by_cases h0 : er = 0
  case neg =>
    have hne : (er != 0) = true := by simpa using h0
    clear h0
    go_wp2_with fail
    go_ret
    exact ⟨rfl, only_b H3.out⟩
  subst h0
  obtain ⟨a1, a2, a3⟩ := renc_ok HA.out
  have HR := Lib.hid a1
  have HAL : Hid (A.toList = rowS (xs.map Vv.vl)) := Lib.hid (by rw [HAT.out, a2])
  have HL5 : Hid ((rowS (xs.map Vv.vl)).length ≤ 512) := Lib.hid (by rw [← a2]; exact a3)
  obtain rfl : n = m := by rw [HN.out, HM.out]; exact (row_len a1).1.symm
  have HN24 : Hid (n ≤ 24) := Lib.hid (by rw [HM.out]; exact (row_len a1).2)
  have hpl := HP.out
  rw [HAL.out] at hpl
  have hways := rplace_ok a1 HL5.out HXU.out hpl
  rw [List.length_map, ← HM.out] at hways
  clear a1 a2 a3 HA HAT HP hpl
  rcases hways with ⟨h02, hz | hz | ⟨hz0, hz1, hK⟩⟩ | ⟨rfl, hz0, hz1, hK, hat⟩
  · have hne : (er2 != 0) = true := by simpa using h02
    clear h02
    go_wp2_with fail
    go_ret
    exact ⟨rfl, only_b H3.out⟩
  · have hne : (er2 != 0) = true := by simpa using h02
    have hz3 : ¬ z < 0 := by omega
    clear h02
    go_wp2_with fail
    go_ret
    exact ⟨rfl, only_b H3.out⟩
  · have hne : (er2 != 0) = true := by simpa using h02
    obtain ⟨k, rfl⟩ : ∃ k : Nat, z = (k : Int) := ⟨z.toNat, by omega⟩
    have hkn : k < n := by omega
    have hz2 : ¬ (n : Int) ≤ (k : Int) := by omega
    have hz4 : ¬ (k : Int) < 0 := by omega
    obtain ⟨g, off, rfl, hva⟩ := (HX.out.keep H3.out) k (by rw [← HM.out]; exact hkn)
    rw [Int.toNat_natCast, show (xs.map Vv.vl).getD k ⟨0, 0, []⟩ = (xs.getD k default).vl by have : k < xs.length := by rw [← HM.out]; exact hkn
                                                                                             simp [this]] at hK
    generalize xs.getD k default = u at *
    obtain ⟨K, N, S⟩ := u
    obtain ⟨y0, y1, y2, _⟩ := hva
    have e1 : (K != 1) = true := by simp only [not_or] at hK; simpa using hK.1
    have e2 : (K != 2) = true := by simp only [not_or] at hK; simpa using hK.2
    clear h02 hK
    go_wp2_with fail
    go_ret
    exact ⟨rfl, only_b H3.out⟩
  · obtain ⟨k, rfl⟩ : ∃ k : Nat, z = (k : Int) := ⟨z.toNat, by omega⟩
    have hkn : k < n := by omega
    have HKN := Lib.hid hkn
    rw [Int.toNat_natCast] at hK hat
    obtain ⟨u, hue⟩ : ∃ u, xs.getD k default = u := ⟨_, rfl⟩
    have hkx : k < xs.length := by rw [← HM.out]; exact hkn
    have HXK : Hid (xs[k]? = some u) := Lib.hid (by rw [List.getElem?_eq_getElem hkx, ← hue]; simp [hkx])
    have HUV : Hid ((xs.map Vv.vl)[k]? = some u.vl) := Lib.hid (by rw [List.getElem?_map, HXK.out]; rfl)
    have HUU : Hid (U64 u.N) := Lib.hid (HXV.out u (List.mem_of_getElem? HXK.out))
    rw [show (xs.map Vv.vl).getD k ⟨0, 0, []⟩ = u.vl by rw [List.getD_eq_getElem?_getD, HUV.out]; rfl] at hK
    have HUE := Lib.hid hue
    obtain ⟨x0, hx0⟩ : ∃ x0 : Nat, u.N = (x0 : Int) := ⟨u.N.toNat, by have := HUU.out.lo; omega⟩
    have HX0 := Lib.hid hx0
    have hsp := rowS_split HUV.out hK
    rw [show u.vl.N = x0 by show u.N.toNat = x0; rw [hx0]; rfl] at hsp
    -- the row with the other number
    obtain ⟨u2, hu2⟩ : ∃ u2 : Vv, u2 = ⟨u.K, (nu : Int), u.S⟩ := ⟨_, rfl⟩
    have hf2 : ∀ c : Cv, c.fit u2.vl = c.fit u.vl := fun c => fit_num hK (by rw [hu2]) (by rw [hu2])
    have hr2 := rfits_set HR.out HUV.out hf2
    have hset2 : ((xs.map Vv.vl).set k u2.vl)[k]? = some u2.vl := by rw [List.getElem?_set_self (by simpa using hkx)]
    have hsp2 := rowS_split hset2 (by rw [show u2.vl.K = u.vl.K by rw [hu2]]; exact hK)
    rw [ahead_set, show u2.vl.N = nu by rw [hu2]; rfl, List.drop_set_of_lt (by omega)] at hsp2
    have h25 : (rowS ((xs.map Vv.vl).set k u2.vl)).length ≤ 512 := by
      have := HL5.out
      rw [hsp] at this
      rw [hsp2]
      simp only [List.length_append, beB_length] at this ⊢
      exact this
    have hmset : (xs.map Vv.vl).set k u2.vl = (xs.set k u2).map Vv.vl := by rw [List.map_set]
    have HU2 : Hid (∀ v ∈ xs.set k u2, U64 v.N) := Lib.hid (fun v hv => by
      rcases List.mem_or_eq_of_mem_set hv with h | rfl
      · exact HXV.out v h
      · rw [hu2]; exact u64_nat HNU.out)
    have HD2 : Hid (rdec cs (rowS ((xs.set k u2).map Vv.vl)) = ((xs.set k u2).map Vv.vl, 0)) := Lib.hid (by
      rw [← hmset]
      have hb := row_back0 hr2 h25 (by rw [hmset]; exact rvl_lt HU2.out)
      rw [rdec_of (rfits_ok hr2).1 hb, (rfits_ok hr2).2.1, List.drop_length, List.map_nil, List.append_nil])
    rw [hmset] at hsp2
    have HSP2 := Lib.hid hsp2
    have HU2E := Lib.hid hu2
    have hP1 : 1 ≤ (ahead (xs.map Vv.vl) k).length := by simp [ahead]
    generalize ahead (xs.map Vv.vl) k = P at *
    generalize rowL ((xs.map Vv.vl).drop (k + 1)) = R at *
    have HSA : Hid (A.toList = P ++ ((((beB 8 nu).take 0) ++ (beB 8 x0).drop 0) ++ R)) := Lib.hid (by rw [HAL.out, hsp]; simp)
    obtain ⟨p, hp⟩ : ∃ p, p = P.length := ⟨_, rfl⟩
    rw [← hp] at hat
    subst hat
    have HPL := Lib.hid hp
    obtain ⟨sz, hsz⟩ : ∃ sz, sz = A.size := ⟨_, rfl⟩
    have HSZ : Hid (p + 8 + R.length = sz ∧ sz ≤ 512) := Lib.hid (by
      have h1 := ba_size A
      have h2 := HL5.out
      rw [HAL.out, hsp] at h1
      rw [hsp] at h2
      simp only [List.length_append, beB_length] at h1 h2
      omega)
    have hp1 : (1 : Int) ≤ (p : Int) := by omega
    have hp512 : (p : Int) ≤ 512 := by have := HSZ.out; omega
    have hsz5 : (sz : Int) ≤ 512 := by have := HSZ.out; omega
    have hps : (p : Int) + 8 ≤ (A.size : Int) := by have := HSZ.out; omega
    have hps2 : ¬ (A.size : Int) < (p : Int) + 8 := by omega
    have hw8 : wrap64 ((p : Int) + 8) = (p : Int) + 8 := by unfold wrap64; omega
    have hA512 : (A.size : Int) ≤ 512 := by omega
    have hcv := Lib.run_convert_string_bytes (P := Tryd.prog) w3 9 45 5 A (u := .string) Tryd.underlying9 Tryd.underlying45 Tryd.underlying5
    have hst := ByAt.new w3 A
    have hO4 := H3.out.trans (below_quiet (Lib.bytesWorld_below w3 5 A)) (fun _ _ h => h)
    obtain ⟨w4, hw4⟩ : ∃ w4, w4 = Lib.bytesWorld w3 5 A := ⟨_, rfl⟩
    rw [← hw4, ← hsz] at hcv
    rw [← hw4, HSA.out] at hst
    rw [← hw4] at hO4
    obtain ⟨g, hg⟩ : ∃ g, g = w3.heap.size := ⟨_, rfl⟩
    rw [← hg] at hcv hst
    have HGE : Hid (w.heap.size ≤ g) := Lib.hid (by rw [hg]; exact H3.out.size)
    obtain ⟨gc, hgc⟩ : ∃ gc, gc = grownCap w3 sz 0 5 := ⟨_, rfl⟩
    rw [← hgc] at hcv
    have HB4 := Lib.hid hst
    have HO4 := Lib.hid hO4
    clear hst hO4 hw4 hgc hg hue hx0 hu2 hf2 hr2 hset2 hsp2 h25 hmset hsp hp hsz hK HSA HL5 HAL HUV H3
    have HT8 : Hid ((beB 8 nu).length = 8 ∧ ∀ j, j < 8 → (beB 8 nu).getD j 0 = UInt8.ofNat (nu / 256 ^ (8 - 1 - j))) := Lib.hid ⟨beB_length _ _, fun j hj => beB_at 8 nu j hj⟩
    have HO8 : Hid ((beB 8 x0).length = 8 ∧ numB (beB 8 x0) = x0) := Lib.hid ⟨beB_length _ _, numB_be' _ _ (by rw [pow8]; have h1 := HUU.out.hi; have h2 := HX0.out; omega)⟩
    generalize beB 8 nu = T at *
    generalize beB 8 x0 = O at *
    go_wp2_with fail
    clear hcv
    go_loopw [13, 15] (fun xv i wr => ∃ (j : Nat), j ≤ 8 ∧ i = .int .i64 (j : Int) ∧ xv = .int .u64 ((numB (O.take j) : Nat) : Int) ∧ Hid (ByAt wr g (P ++ (((T.take j) ++ O.drop j) ++ R))) ∧ Hid (Only (fun _ => False) w wr)) (fun _ i _ => 8 - (intOf i).toNat)
    case atStart => exact ⟨0, by omega, rfl, rfl, HB4, HO4⟩
    case round =>
      clear HB4 HO4
      obtain ⟨j, hj, rfl, rfl, HB, HO⟩ := hrel
      by_cases hlt : j < 8
      · have hltI : (j : Int) < 8 := by omega
        have hj0 : (0 : Int) ≤ (j : Int) := by omega
        have hpj := HSZ.out
        have s1 : wrap64 ((p : Int) + (j : Int)) = (p : Int) + (j : Int) := by clear hpj; unfold wrap64; omega
        have S1 := Lib.hid s1
        clear s1
        have s6 : wrap64 (8 * (j : Int)) = 8 * (j : Int) := by clear hpj; unfold wrap64; omega
        have S6 := Lib.hid s6
        clear s6
        have s2 : ((p : Int) + (j : Int)).toNat = p + j := by omega
        have s3 : (0 : Int) ≤ (p : Int) + (j : Int) := by omega
        have s4 : (p : Int) + (j : Int) < (sz : Int) := by omega
        have s5 : p + j < sz := by omega
        have hj1 : j + 1 ≤ 8 := by omega
        have hm7 : 56 - 8 * (j : Int) = ((8 * (8 - 1 - j) : Nat) : Int) := by omega
        have hm8 : 8 - 1 - j ≤ 7 := by omega
        obtain ⟨z8, hz8⟩ : ∃ z8 : Int, 56 - 8 * (j : Int) = z8 := ⟨_, rfl⟩
        have hz80 : (0 : Int) ≤ z8 := by omega
        have hz81 : z8 ≤ 56 := by omega
        have s7 : wrap64 z8 = z8 := by clear hpj hm7; unfold wrap64; omega
        have S7 := Lib.hid s7
        clear s7 hpj
        have HO5 := Lib.hid (fun zb => HO.out.trans (Only.cell wr g (p + j) (.int .u8 zb)) (fun i hi e => by have := HGE.out; omega))
        obtain ⟨e1, e2⟩ := put_byte P R T O j HT8.out.1 HO8.out.1 hlt
        rw [← HPL.out] at e1 e2
        have hbl : p + j < (P ++ (((T.take j) ++ O.drop j) ++ R)).length := by
          have := HPL.out; have := HT8.out.1; have := HO8.out.1
          simp
          omega
        obtain ⟨hcell, hfz⟩ := HB.out.cell hbl
        rw [e2] at hcell
        have HSB := Lib.hid (HB.out.set hbl (T.getD j 0))
        rw [e1, HT8.out.2 j hlt] at HSB
        have hbd : (O.getD j 0).toNat < 256 := UInt8.toNat_lt _
        have HNB := Lib.hid (numB_take_lt O j (by rw [HO8.out.1]; exact hlt) (by rw [HO8.out.1]; exact Nat.le_refl _))
        have HTS := Lib.hid (take_snoc8 O j (by rw [HO8.out.1]; exact hlt))
        obtain ⟨x, hx⟩ : ∃ x, x = numB (O.take j) := ⟨_, rfl⟩
        rw [← hx]
        have hxb : x < 72057594037927936 := by rw [hx]; exact HNB.out
        obtain ⟨b, hb⟩ : ∃ b : UInt8, b = O.getD j 0 := ⟨_, rfl⟩
        rw [← hb] at hcell hbd
        have HV : Hid ((x : Int) * 256 + (b.toNat : Int) = ((numB (O.take (j + 1)) : Nat) : Int)) := Lib.hid (by
          rw [HTS.out, numB_snoc, ← hx, ← hb]
          omega)
        have HX := Lib.hid hx
        have hdv : (nu : Int) / 2 ^ z8.toNat = ((nu / 256 ^ (8 - 1 - j) : Nat) : Int) := by
          rw [show z8.toNat = 8 * (8 - 1 - j) by omega, Int.natCast_ediv, Int.natCast_pow]
          rw [show ((256 : Nat) : Int) = 2 ^ 8 from rfl, ← Int.pow_mul]
        obtain ⟨q, hq⟩ : ∃ q, nu / 256 ^ (8 - 1 - j) = q := ⟨_, rfl⟩
        rw [hq] at hdv
        have hsh := shr_at nu (8 - 1 - j) hm8 (56 - 8 * (j : Int)) hm7
        rw [hq] at hsh HSB
        obtain ⟨zb, hzb⟩ : ∃ zb : Int, ((UInt8.ofNat q).toNat : Int) = zb := ⟨_, rfl⟩
        have hby : ((q : Nat) : Int) % 256 = zb := by rw [← hzb]; exact byte_of q
        have hby2 : IntKind.u8.wrap ((q : Nat) : Int) = zb := by rw [IntKind.wrap_u8']; exact hby
        rw [hzb] at HSB
        rw [hz8] at hsh
        clear hx hb hq hzb e1 e2 hbl HB HO hm7 hm8
        have hj8 : (j : Int) ≤ 7 := by omega
        clear S1 S6 S7
        go_wp2_with fail
        clear hdv hsh hby hby2 hcell hfz s2 s3 s4 s5
        go_roundw
        case rel => exact ⟨j + 1, hj1, by go_num, congrArg (Value.int .u64) HV.out, HSB, Lib.hid (HO5.out _)⟩
        case measure => clear hz8 hz80 hz81; simp [intOf]; omega
      · obtain rfl : j = 8 := by omega
        have hltI : ¬ (8 : Int) < 8 := by omega
        have HXE : Hid (numB (O.take 8) = x0) := Lib.hid (by rw [List.take_of_length_le (by rw [HO8.out.1]; exact Nat.le_refl _)]; exact HO8.out.2)
        rw [HXE.out]
        have HBE : Hid (ByAt wr g (rowS ((xs.set k u2).map Vv.vl))) := Lib.hid (by
          have := HB.out
          rw [List.take_of_length_le (by rw [HT8.out.1]; exact Nat.le_refl _), List.drop_of_length_le (by rw [HO8.out.1]; exact Nat.le_refl _), List.append_nil] at this
          rw [HSP2.out]
          exact this)
        have hcs := run_strC (w := wr) (v := .slice (some ⟨g, 0, none⟩) sz gc) (xs := rowS ((xs.set k u2).map Vv.vl)) (.inr ⟨⟨g, 0, none⟩, gc, by
            have hle : sz = (rowS ((xs.set k u2).map Vv.vl)).length := by
              have h1 := HSZ.out; have h2 := HPL.out; have h3 := HT8.out.1
              rw [HSP2.out, List.length_append, List.length_append]
              omega
            rw [← hle], fun i hi => by
            rw [add_lit, Nat.zero_add, (HBE.out.cell hi).1]
            try simp [hi]⟩)
        obtain ⟨S, hS⟩ : ∃ S : ByteArray, (⟨(rowS ((xs.set k u2).map Vv.vl)).toArray⟩ : ByteArray) = S := ⟨_, rfl⟩
        rw [hS] at hcs
        have HSL : Hid (S.toList = rowS ((xs.set k u2).map Vv.vl)) := Lib.hid (by rw [← hS, ba_mk1])
        clear hS HB HBE HXE
        go_wp2_with fail
        refine (rdecode_any co n cc cs S wr (HT.out.keep (only_b HO.out)) (HC.out.keep HO.out) HN.out HCS.out).mono ?_
        rintro e w6 ⟨lv, us, er3, rfl, hd, hu, hown⟩
        rw [HSL.out, HD2.out] at hd
        simp only [Prod.mk.injEq] at hd
        obtain ⟨hus, rfl⟩ := hd
        obtain rfl := vv_map hu HU2.out hus
        obtain ⟨ao, c6, rfl, hsl⟩ := rowV_slV hown hu
        have HVL : Hid ((xs.set k u2).length = n) := Lib.hid (by rw [List.length_set, HM.out])
        have HDS := Lib.hid hsl
        have H6 := Lib.hid (HO.out.trans hown.only (fun _ _ h => h))
        rw [HVL.out]
        clear hus hu hown hsl hcs HO HD2
        obtain ⟨gx, ox, rfl, hvx⟩ := (HX.out.keep H6.out) k (by rw [← HM.out]; exact HKN.out)
        rw [HUE.out] at hvx
        obtain ⟨y0, y1, y2, _⟩ := hvx
        rw [HX0.out] at y1
        have hkI : (k : Int) < (n : Int) := by have := HKN.out; omega
        have hk0 : (0 : Int) ≤ (k : Int) := by omega
        have hn24 : (n : Int) ≤ 24 := by have := HN24.out; omega
        have HQ0 := Lib.hid (Only.refl (fun _ => False) w6)
        go_wp2_with fail
        clear y0 y1 y2
        go_loopw [18] (fun i wr => ∃ (j : Nat), j ≤ n ∧ i = .int .i64 (j : Int) ∧ Hid (Only (fun _ => False) w6 wr)) (fun i _ => n - (intOf i).toNat)
        case atStart => exact ⟨0, Nat.zero_le _, rfl, HQ0⟩
        case round =>
          clear HQ0
          obtain ⟨j, hj, rfl, HO⟩ := hrel
          have HOW := Lib.hid (H6.out.trans HO.out (fun _ _ h => h))
          by_cases hlt : j < n
          · have hltI : (j : Int) < (n : Int) := by omega
            have hj0 : (0 : Int) ≤ (j : Int) := by omega
            obtain ⟨ga, offa, rfl, hva⟩ := (HDS.out.keep HO.out) j (by rw [HVL.out]; exact hlt)
            by_cases hjk : j = k
            · subst hjk
              rw [show (xs.set j u2).getD j default = u2 by
                have : j < xs.length := by rw [← HM.out]; exact hlt
                simp [this]] at hva
              rw [HU2E.out] at hva
              obtain ⟨q0, q1, q2, _⟩ := hva
              go_wp2_with fail
              go_quiet (fail)
              go_wp2_with fail
              go_roundw
              case rel => exact ⟨j + 1, by omega, by go_num, Lib.hid (HO.out.drewN _)⟩
              case measure => simp [intOf]; omega
            · rw [show (xs.set k u2).getD j default = xs.getD j default by
                rw [List.getD_eq_getElem?_getD, List.getElem?_set_ne (fun e => hjk e.symm), ← List.getD_eq_getElem?_getD]] at hva
              obtain ⟨gb, offb, hgo, hvb⟩ := (HX.out.keep HOW.out) j (by rw [← HM.out]; exact hlt)
              simp only [Option.some.injEq, Addr.mk.injEq, and_true] at hgo
              obtain ⟨rfl, rfl⟩ := hgo
              generalize xs.getD j default = v at *
              obtain ⟨K, N, S2⟩ := v
              obtain ⟨q0, q1, q2, _⟩ := hva
              obtain ⟨y0, y1, y2, _⟩ := hvb
              have d1 : ((j : Int) != (k : Int)) = true := by simp; omega
              have d2 : ((j : Int) == (k : Int)) = false := by rw [beq_eq_false_iff_ne]; omega
              have d3 : decide (j = k) = false := decide_eq_false hjk
              have d4 : decide ((j : Int) = (k : Int)) = false := decide_eq_false (by omega)
              have d5 : (j == k) = false := by simpa using hjk
              go_wp2_with fail
              go_quiet (fail)
              go_wp2_with fail
              go_roundw
              case rel => exact ⟨j + 1, by omega, by go_num, Lib.hid (HO.out.drewN _)⟩
              case measure => simp [intOf]; omega
          · obtain rfl : j = n := by omega
            have hltI : ¬ (j : Int) < (j : Int) := by omega
            go_wp2_with fail
            go_ret
            exact ⟨rfl, only_b HOW.out⟩

end Go.Proofs.YtcgkooogmgbfeaaDoor
