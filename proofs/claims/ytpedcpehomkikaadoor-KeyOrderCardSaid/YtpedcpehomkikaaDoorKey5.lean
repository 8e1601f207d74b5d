/-
  Package key's Decode: it answers decE.
-/
import Derived.Test.YtpedcpehomkikaaDoorKey4
import Derived.Test.YtpedcpehomkikaaDoorKeyV
import Derived.Test.YtpedcpehomkikaaDoorRowP
import Derived.Test.YtpedcpehomkikaaDoorExtBlk
import Derived.Test.YtpedcpehomkikaaDoorWide
namespace Go.Proofs.YtpedcpehomkikaaDoor
open Go Go.RowKit
set_option linter.unusedVariables false
set_option linter.unusedSimpArgs false
set_option maxRecDepth 100000

/-- A value, by its cells. -/
structure Vv where
  K : Int
  N : Int
  S : ByteArray
abbrev Vv.vl (v : Vv) : Vl := ⟨v.K, v.N.toNat, v.S.toList⟩
def vcells : List Vv → List Value
  | [] => []
  | v :: r => .int .i64 v.K :: .int .u64 v.N :: .string v.S :: vcells r
theorem vcells_snoc : ∀ (l : List Vv) (v : Vv), vcells (l ++ [v]) = vcells l ++ [.int .i64 v.K, .int .u64 v.N, .string v.S]
  | [], v => rfl
  | x :: l, v => by simp [vcells, vcells_snoc l v]
theorem vcells_length : ∀ l : List Vv, (vcells l).length = l.length * 3
  | [] => rfl
  | x :: l => by simp [vcells, vcells_length l]; omega
theorem vcells_one : ∀ (l : List Vv), ∀ u ∈ vcells l, u.oneCell' = true
  | [], u, h => by cases h
  | x :: l, u, h => by
    simp only [vcells, List.mem_cons] at h
    rcases h with rfl | rfl | rfl | h
    · rfl
    · rfl
    · rfl
    · exact vcells_one l u h
/-- A slice of bools. -/
def SlBo (w : World) (ao : Option Addr) (ds : List Bool) : Prop := ∀ j, j < ds.length → ∃ g off, ao = some ⟨g, off, none⟩ ∧ w.cell? ⟨g, off + j, none⟩ = some (.bool (ds.getD j false))
theorem SlBo.keep {w w' : World} {ao : Option Addr} {ds : List Bool} (h : SlBo w ao ds) (ho : Only (fun _ => False) w w') : SlBo w' ao ds := fun j hj => by
  obtain ⟨g, off, h1, h2⟩ := h j hj
  exact ⟨g, off, h1, ho.cellq h2⟩
theorem SlI.keep' {w w' : World} {ao : Option Addr} {ks : List Int} (h : SlI w ao ks) (ho : Only (fun _ => False) w w') : SlI w' ao ks := fun j hj => by
  obtain ⟨g, off, h1, h2⟩ := h j hj
  exact ⟨g, off, h1, ho.cellq h2⟩
/-- The reader as a part of memory. -/
def RdR (p : Nat) (d : Bool) (l : List UInt8) (bad : Bool) : Res := fun w F => RdIn p d l bad w ∧ ∀ k, F k ↔ k = p
instance {p : Nat} {d : Bool} {l : List UInt8} {bad : Bool} : Stab (RdR p d l bad) where
  lt := fun h k hk => by rw [(h.2 k).1 hk]; exact h.1.lt
  keep := fun h hk => ⟨h.1.keep (hk _ ((h.2 _).2 rfl)), h.2⟩
theorem own_value {w0 w : World} {p : Nat} {d : Bool} {l : List UInt8} {J : Res} [Stab J] (h : Own w0 w (Sep (RdR p d l false) J)) (k : Int) (hl : l.length ≤ 4096) (hk1 : 1 ≤ k) (hk5 : k ≤ 5) :
    Calls Tryd.prog 32 #[.pointer (some ⟨p, 0, none⟩), .int .i64 k] w fun e w' => ∃ (v : Vv) (l' : List UInt8) (bad : Bool), e = .returned (vlv v.K v.N v.S) ∧ U64 v.N ∧
      (val1 k (turnL d l) = if bad = true then none else okV (some (v.vl, turnL d l'))) ∧ Own w0 w' (Sep (RdR p d l' bad) J) := by
  have hc := h.call (val := fun x : Vv × List UInt8 × Bool => vlv x.1.K x.1.N x.1.S) (Q := fun x => AndR (U64 x.1.N ∧ val1 k (turnL d l) = if x.2.2 = true then none else okV (some (x.1.vl, turnL d x.2.1))) (RdR p d x.2.1 x.2.2))
    (P := Tryd.prog) (f := 32) (args := #[.pointer (some ⟨p, 0, none⟩), .int .i64 k]) (fun F B hI hJ hd hF => ?_)
  · refine hc.mono ?_
    rintro e w' ⟨⟨v, l', bad⟩, rfl, hq⟩
    have hp : U64 v.N ∧ val1 k (turnL d l) = if bad = true then none else okV (some (v.vl, turnL d l')) := by
      obtain ⟨F, ⟨A, B, hA, _⟩, _⟩ := hq
      exact hA.1
    exact ⟨v, l', bad, rfl, hp.1, hp.2, hq.imp fun F hF => hF.imp (fun _ h => h.2) (fun _ h => h)⟩
  · refine (rd_value p d k l w hI.1 hl hk1 hk5).mono ?_
    rintro e w' ⟨K, N, S, l', bad, rfl, hN, hr, ho, hv⟩
    exact Post.of (⟨K, N, S⟩, l', bad) F rfl ⟨⟨hN, hv⟩, hr, hI.2⟩ (fun _ h => .inl h) (ho.mono fun k _ e => (hI.2 k).2 e)
theorem Own.belows {w0 w : World} {I : Res} (h : Own w0 w I) : Below w0.heap.size w0 w := h.only.below (Nat.le_refl _) (fun _ h => h.elim)
theorem below_quiet {w w' : World} (h : Below w.heap.size w w') : Only (fun _ => False) w w' := ⟨h.os, h.tape, h.output, h.size, fun k hk _ => h.block k hk⟩

def DecPost (ks : List Int) (ds : List Bool) (s : List UInt8) (w : World) (e : Ending) (w' : World) : Prop :=
  ∃ (lv : Value) (vs : List Vv) (er : Int), e = .returned (.tuple #[lv, .int .i64 er]) ∧ (vs.map Vv.vl, er) = decE ks ds s ∧ (∀ v ∈ vs, U64 v.N) ∧ Own w w' (RowV 35 3 lv vs.length (vcells vs))
theorem dec_none {ks : List Int} {ds : List Bool} {s : List UInt8} {w w' : World} {er : Int} (h : ([], er) = decE ks ds s) (ho : Only (fun _ => False) w w') : DecPost ks ds s w (.returned (.tuple #[.slice none 0 0, .int .i64 er])) w' :=
  ⟨_, [], er, rfl, h, (fun v hv => by cases hv), ⟨fun _ => False, RowV.nil _ _ _, (fun k hk => hk.elim), ho⟩⟩

theorem Tryd.infoVal : (Tryd.prog.info? 35).map (fun i => (i.zero, i.size)) = some (some (.agg #[.int .i64 0, .int .u64 0, .string ⟨#[]⟩]), 3) := by kernel_rfl
theorem Tryd.infoVal3 : (Tryd.prog.info? 35).map (fun i => (i.zero, i.size, i.bytes)) = some (some (.agg #[.int .i64 0, .int .u64 0, .string ⟨#[]⟩]), 3, 32) := by kernel_rfl
theorem Own.rd {w0 w : World} {p : Nat} {d : Bool} {l : List UInt8} {bad : Bool} {J : Res} (h : Own w0 w (Sep (RdR p d l bad) J)) : RdIn p d l bad w := by
  obtain ⟨F, ⟨A, B, hA, _⟩, _⟩ := h
  exact hA.1
/-- A cell of the reader is written over. -/
theorem Own.rd_set {w0 w : World} {p : Nat} {d : Bool} {l : List UInt8} {bad : Bool} {J : Res} [Stab J] (h : Own w0 w (Sep (RdR p d l bad) J)) (d' bad' : Bool) (j : Nat) (u : Value)
    (hn : ∀ s : ByteArray, (#[.string s, .bool d, .bool bad] : Array Value).setIfInBounds j u = #[.string s, .bool d', .bool bad']) : Own w0 (w.setCell ⟨p, j, none⟩ u) (Sep (RdR p d' l bad') J) := by
  obtain ⟨F, ⟨A, B, hA, hB, hd, hF⟩, h2, h3⟩ := h
  have hp : A p := (hA.2 p).2 rfl
  obtain ⟨s, hs, hpc⟩ := hA.1
  refine ⟨F, ⟨A, B, ⟨⟨s, hs, by rw [heap_set hpc, hn]⟩, hA.2⟩, Stab.keep hB (fun i hi => Below.heap_setCell _ _ _ _ (fun e => hd p hp (by have e : i = p := e; rwa [e] at hi))), hd, hF⟩, h2, h3.trans (Only.cell w p j u) (fun k hk e => ?_)⟩
  have := h2 p ((hF p).2 (.inl hp))
  omega
theorem blk_cells3 {w : World} {k : Nat} {t : TypeId} {a0 a1 a2 : Value} (h : w.heap[k]? = some (.cells #[a0, a1, a2] t (0, 0))) :
    w.cell? ⟨k, 0, none⟩ = some a0 ∧ w.cell? ⟨k, 1, none⟩ = some a1 ∧ w.cell? ⟨k, 2, none⟩ = some a2 ∧
    w.frozen? ⟨k, 0, none⟩ = false ∧ w.frozen? ⟨k, 1, none⟩ = false ∧ w.frozen? ⟨k, 2, none⟩ = false :=
  ⟨blk_cell h 0 rfl, blk_cell h 1 rfl, blk_cell h 2 rfl, blk_free h 0, blk_free h 1, blk_free h 2⟩

/-- Where Decode stands: what has been read, what is left. -/
structure DecIn (ks : List Int) (ds : List Bool) (s : List UInt8) (vs : List Vv) (k : Nat) (l : List UInt8) : Prop where
  len : vs.length = k
  all : decL ks ds s = (decL (ks.drop k) (ds.drop k) l).map (vs.map Vv.vl ++ ·)
  u64 : ∀ v ∈ vs, U64 v.N
  size : vs.length + l.length ≤ s.length
theorem decL_step {k : Nat} {ks : List Int} {ds : List Bool} (hk : k < ks.length) (hd : k < ds.length) (l : List UInt8) :
    decL (ks.drop k) (ds.drop k) l = match val1 (ks.getD k 0) (turnL (ds.getD k false) l) with
      | none => none
      | some x => (decL (ks.drop (k + 1)) (ds.drop (k + 1)) (turnL (ds.getD k false) x.2)).map (x.1 :: ·) := by
  rw [List.drop_eq_getElem_cons hk, List.drop_eq_getElem_cons hd, decL]
  simp only [List.getD_eq_getElem?_getD, List.getElem?_eq_getElem hk, List.getElem?_eq_getElem hd, Option.getD_some]
  cases val1 ks[k] (turnL ds[k] l) <;> rfl
theorem val1_size {k : Int} {u q : List UInt8} {v : Vl} (hk1 : 1 ≤ k) (hk5 : k ≤ 5) (h : val1 k u = some (v, q)) : q.length + 1 ≤ u.length := by
  obtain ⟨e, hg, _⟩ := kb_val1 hk1 hk5 h
  have := (kb0_length hg.1).1
  rw [e, List.length_append]
  omega
theorem DecIn.next {ks : List Int} {ds : List Bool} {s : List UInt8} {vs : List Vv} {k : Nat} {l l' : List UInt8} {v : Vv} (h : DecIn ks ds s vs k l) (hk : k < ks.length) (hd : k < ds.length) (hk1 : 1 ≤ ks.getD k 0) (hk5 : ks.getD k 0 ≤ 5)
    (hv : val1 (ks.getD k 0) (turnL (ds.getD k false) l) = some (v.vl, turnL (ds.getD k false) l')) (hN : U64 v.N) : DecIn ks ds s (vs ++ [v]) (k + 1) l' := by
  refine ⟨by simp [h.len], ?_, ?_, ?_⟩
  · rw [h.all, decL_step hk hd, hv]
    simp only
    rw [turnL_turnL, Option.map_map]
    congr 1
    funext x
    simp
  · intro x hx
    rw [List.mem_append, List.mem_singleton] at hx
    rcases hx with hx | rfl
    · exact h.u64 x hx
    · exact hN
  · have h1 := val1_size hk1 hk5 hv
    rw [turnL_length, turnL_length] at h1
    have := h.size
    simp only [List.length_append, List.length_singleton]
    omega
theorem DecIn.fell {ks : List Int} {ds : List Bool} {s : List UInt8} {vs : List Vv} {k : Nat} {l : List UInt8} (h : DecIn ks ds s vs k l) (hk : k < ks.length) (hd : k < ds.length)
    (hv : val1 (ks.getD k 0) (turnL (ds.getD k false) l) = none) : decL ks ds s = none := by
  rw [h.all, decL_step hk hd, hv]
  rfl
theorem DecIn.ends {ks : List Int} {ds : List Bool} {s : List UInt8} {vs : List Vv} {l : List UInt8} {k : Nat} (h : DecIn ks ds s vs k l) (hk : k = ks.length) (hd : k = ds.length) : decL ks ds s = if l = [] then some (vs.map Vv.vl) else none := by
  rw [h.all, hk, List.drop_length, ← hk, hd, List.drop_length]
  show (if l = [] then some [] else none).map _ = _
  split <;> simp
theorem noKind_of {ks : List Int} (h : ks.any noKind = false) {k : Nat} (hk : k < ks.length) : 1 ≤ ks.getD k 0 ∧ ks.getD k 0 ≤ 5 := by
  have := List.any_eq_false.1 h (ks.getD k 0) (by simp [hk])
  simp only [noKind, Bool.or_eq_true, decide_eq_true_eq] at this
  omega

set_option maxHeartbeats 8000000 in
theorem decode_any (kao dao : Option Addr) (n kc m dc : Nat) (ks : List Int) (ds : List Bool) (s : ByteArray) (w : World) (hT : UTab w) (hk : SlI w kao ks) (hd : SlBo w dao ds) (hn : n = ks.length) (hm : m = ds.length) (hkl : ks.length ≤ 140737488355328) :
    Calls Tryd.prog 12 #[.slice kao n kc, .slice dao m dc, .string s] w fun e w' => DecPost ks ds s.toList w e w' := by
  have HT := Lib.hid hT
  have HK := Lib.hid hk
  have HD := Lib.hid hd
  have HN := Lib.hid hn
  have HM := Lib.hid hm
  have HC := Lib.hid (contains_kind kao n kc ks w hk hn hkl)
  have hn47 : n ≤ 140737488355328 := by omega
  obtain ⟨B, hB⟩ : ∃ B, ks.any noKind = B := ⟨_, rfl⟩
  rw [hB] at HC
  have HB := Lib.hid hB
  clear hT hk hd hn hm hkl hB
  by_cases hnm : m = n
  · subst hnm
    cases B with
    | true =>
      have HE : Hid (([], 1) = decE ks ds s.toList) := Lib.hid (by unfold decE; rw [if_pos (.inr HB.out)])
      go_enter Tryd.func12, Tryd.ntmps12
      go_wp2_with fail
      refine HC.out.mono ?_
      rintro e w1 ⟨rfl, rfl⟩
      go_wp2_with fail
      go_ret2
      exact dec_none HE.out (Only.refl _ _)
    | false =>
      by_cases h256 : 256 < s.size
      · have h1 : ¬ ks.length ≠ ds.length := by have := HN.out; have := HM.out; omega
        have HE : Hid (([], 2) = decE ks ds s.toList) := Lib.hid (by
          have hb := HB.out
          unfold decE
          rw [if_neg (fun e => e.elim h1 (fun e => by rw [show ks.any noKind = true from e] at hb; cases hb)), if_pos (by rw [ba_size]; exact h256)])
        have hsI : (256 : Int) < (s.size : Int) := by omega
        clear h1 h256
        go_enter Tryd.func12, Tryd.ntmps12
        go_wp2_with fail
        refine HC.out.mono ?_
        rintro e w1 ⟨rfl, rfl⟩
        go_wp2_with fail
        go_ret2
        exact dec_none HE.out (Only.refl _ _)
      · have hsI : ¬ (256 : Int) < (s.size : Int) := by omega
        go_enter Tryd.func12, Tryd.ntmps12
        go_wp2_with fail
        refine HC.out.mono ?_
        rintro e w1 ⟨rfl, rfl⟩
        go_wp2_with fail
        have HOK : Hid (ks.length = ds.length ∧ (∀ k ∈ ks, 1 ≤ k ∧ k ≤ 5) ∧ s.toList.length ≤ 256) := Lib.hid ⟨by rw [← HN.out, ← HM.out], fun k hk => by
          obtain ⟨j, hj, rfl⟩ := List.getElem_of_mem hk
          have := noKind_of HB.out hj
          simpa [hj] using this, by rw [ba_size]; omega⟩
        have HQ0 : Hid (Own w (w.alloc (.cells #[.string s, .bool false, .bool false] 58)) (Sep (RowV 35 3 (.slice none 0 0) 0 (vcells [])) (RdR w.heap.size false s.toList false))) := Lib.hid
          ((((Own.start w).alloc (.cells #[.string s, .bool false, .bool false] 58)).fst.imp fun F hF => (⟨⟨s, rfl, hF.1⟩, hF.2⟩ : RdR w.heap.size false s.toList false _ F)).row_nil 35 3)
        generalize w.alloc (.cells #[.string s, .bool false, .bool false] 58) = wa at *
        go_loopw [8, 10, 11, 12, 30] (fun lv _ _ _ i wr => ∃ (k : Nat) (lo : Option Addr) (lc : Nat) (vs : List Vv) (d : Bool) (l : List UInt8), k ≤ m ∧ i = .int .i64 (k : Int) ∧ lv = .slice lo k lc ∧ Hid (DecIn ks ds s.toList vs k l) ∧ Hid (Own w wr (Sep (RowV 35 3 (.slice lo k lc) k (vcells vs)) (RdR w.heap.size d l false)))) (fun _ _ _ _ i _ => m - (intOf i).toNat)
        case atStart => exact ⟨0, none, 0, [], false, s.toList, Nat.zero_le _, rfl, rfl, Lib.hid ⟨rfl, by simp, fun _ h => by simp at h, by simp⟩, HQ0⟩
        case round =>
          clear HQ0
          obtain ⟨k, lo, lc, vs, d, l, hk, rfl, rfl, HI, HQ⟩ := hrel
          have hrd := HQ.out.comm.rd
          by_cases hlt : k < m
          · have HKL : Hid (k < ks.length ∧ k < ds.length) := Lib.hid (by rw [← HN.out, ← HM.out]; exact ⟨hlt, hlt⟩)
            obtain ⟨gk, ok, rfl, hck⟩ := (HK.out.keep' HQ.out.only).at HKL.out.1
            obtain ⟨gd, od, rfl, hcd⟩ := (HD.out.keep HQ.out.only) k HKL.out.2
            obtain ⟨z, hz⟩ : ∃ z, ks.getD k 0 = z := ⟨_, rfl⟩
            obtain ⟨dd, hdd⟩ : ∃ dd, ds.getD k false = dd := ⟨_, rfl⟩
            have HZ : Hid (1 ≤ z ∧ z ≤ 5) := Lib.hid (hz ▸ noKind_of HB.out HKL.out.1)
            rw [hz] at hck
            rw [hdd] at hcd
            have HZE := Lib.hid hz
            have HDE := Lib.hid hdd
            have HLS : Hid (l.length ≤ 4096) := Lib.hid (by have := HI.out.size; have := HOK.out.2.2; omega)
            have H1 := Lib.hid (HQ.out.comm.rd_set dd false 1 (.bool dd) (fun _ => rfl))
            obtain ⟨ss, _, hpc⟩ := hrd
            have q1 : wr.cell? ⟨w.heap.size, 1, none⟩ = some (.bool d) := by simp [World.cell?, hpc]
            have qf : wr.frozen? ⟨w.heap.size, 1, none⟩ = false := by simp [World.frozen?, hpc]
            have hltI : (k : Int) < (m : Int) := by omega
            clear hz hdd hpc HQ
            go_wp2_with fail
            refine (own_value H1.out z HLS.out HZ.out.1 HZ.out.2).mono ?_
            rintro e w2 ⟨v, l', bad, rfl, hN, hv, hown⟩
            have HNV := Lib.hid hN
            have HV := Lib.hid hv
            have HS := Lib.hid (hown.alloc (.cells #[.int .i64 v.K, .int .u64 v.N, .string v.S] 35))
            clear hN hv hown q1 qf
            go_upto_region 12 with fail
            generalize w2.alloc (.cells #[.int .i64 v.K, .int .u64 v.N, .string v.S] 35) = w3 at *
            obtain ⟨x0, x1, x2, _, _, _⟩ := blk_cells3 HS.out.held
            have cb3 := HS.out.snd.rd.cell2
            generalize w2.heap.size = vb at *
            cases bad with
            | true =>
              have HE : Hid (([], 2) = decE ks ds s.toList) := Lib.hid (by
                have e : val1 (ks.getD k 0) (turnL (ds.getD k false) l) = none := by rw [HZE.out, HDE.out, HV.out, if_pos rfl]
                rw [decE_of HOK.out.1 HOK.out.2.1 HOK.out.2.2, HI.out.fell HKL.out.1 HKL.out.2 e])
              go_wp2_with fail
              go_ret2
              exact dec_none HE.out HS.out.only
            | false =>
              obtain ⟨B, hB⟩ : ∃ B, v.vl.okB = B := ⟨_, rfl⟩
              have HBV := Lib.hid hB
              have HVL : Hid (Calls Tryd.prog 25 #[vlv v.K v.N v.S] w3 fun e w' => e = .returned (.bool B) ∧ Below w3.heap.size w3 w') := Lib.hid (by
                have h := valid_u (K := v.K) (s := v.S) HNV.out w3 (HT.out.keep HS.out.belows)
                rw [show (vl v.K v.N v.S) = v.vl from rfl, hB] at h
                exact h)
              clear hB
              go_wp2_with fail
              refine HVL.out.mono ?_
              rintro e w4 ⟨rfl, hb4⟩
              have HS4 := Lib.hid (HS.out.quiet (below_quiet hb4))
              clear hb4 x0 x1 x2 cb3 HS HVL
              cases B with
              | false =>
                have HE : Hid (([], 2) = decE ks ds s.toList) := Lib.hid (by
                  have e : val1 (ks.getD k 0) (turnL (ds.getD k false) l) = none := by rw [HZE.out, HDE.out, HV.out, if_neg (by decide), okV, HBV.out]; rfl
                  rw [decE_of HOK.out.1 HOK.out.2.1 HOK.out.2.2, HI.out.fell HKL.out.1 HKL.out.2 e])
                go_wp2_with fail
                go_ret2
                exact dec_none HE.out HS4.out.only
              | true =>
                have HNX : Hid (DecIn ks ds s.toList (vs ++ [v]) (k + 1) l') := Lib.hid (HI.out.next HKL.out.1 HKL.out.2 (by rw [HZE.out]; exact HZ.out.1) (by rw [HZE.out]; exact HZ.out.2)
                  (by rw [HZE.out, HDE.out, HV.out, if_neg (by decide), okV, if_pos HBV.out]) HNV.out)
                obtain ⟨x0, x1, x2, _, _, _⟩ := blk_cells3 HS4.out.held
                have hbs := fun w => run_buildSlice_one (P := Tryd.prog) w 22 35 _ 3 Tryd.underlying22 Tryd.infoVal rfl (by decide) (by decide) #[.int .i64 v.K, .int .u64 v.N, .string v.S] rfl
                obtain ⟨i0, hi0, hz0, hz1, hz2⟩ := info_parts Tryd.infoVal3
                have H5 := HS4.out.snd.comm
                have HRW := Lib.hid (H5.owns.alloc (.cells #[.int .i64 v.K, .int .u64 v.N, .string v.S] 35))
                have HA := Lib.hid ((H5.alloc (.cells #[.int .i64 v.K, .int .u64 v.N, .string v.S] 35)).snd)
                have hk256 : k ≤ 256 := by have := HI.out.size; have := HI.out.len; have := HOK.out.2.2; omega
                have HVC := Lib.hid (vcells_snoc vs v)
                have HVN := Lib.hid (vcells_length vs)
                have HVK := Lib.hid HI.out.len
                clear H5
                go_wp2_with (first | (at_builtin; refine wpList_append_lies _ rfl (.tmp 54) (.tmp 56) 22 rfl 0 35 i0 _ 3 32 Tryd.underlying22 hi0 hz0 hz1 hz2 rfl (by decide) (.slice lo k lc) k (vcells vs) rfl HRW.out ⟨w4.heap.size, 0, none⟩ 1 1 [.int .i64 v.K, .int .u64 v.N, .string v.S] rfl rfl (World.news_of_block (heap_alloc_new w4 _)) ?_ Nat.zero_lt_one ?_ ?_ (Nat.zero_le _) (w4.heap.size + 1) ?_ ?_))
                · exact vcells_one [v]
                · unfold maxLen; omega
                · omega
                · simp
                intro g cap2 w5 hown hgrow hat hlt5
                have h5 := HA.out.appended hown hgrow (hat.imp (fun h => h) (fun h => by simp; omega))
                rw [← HVC.out] at h5
                have H6 := Lib.hid h5
                clear hown hgrow hat hlt5 h5 HA HRW hi0 hz0 hz1 hz2 hbs
                go_wp2_with fail
                go_roundw
                case rel => exact ⟨k + 1, some ⟨g, 0, none⟩, cap2, vs ++ [v], dd, l', by omega, by go_num, rfl, HNX, H6⟩
                case measure => simp [intOf]; omega
          · obtain rfl : k = m := by omega
            obtain ⟨ss, hss, hpc⟩ := hrd
            have q0 : wr.cell? ⟨w.heap.size, 0, none⟩ = some (.string ss) := by simp [World.cell?, hpc]
            have HEN := Lib.hid (HI.out.ends HN.out HM.out)
            have hnm : ¬ (k : Int) < (k : Int) := by omega
            clear hpc
            by_cases hl : l = []
            · have he : ss = ⟨#[]⟩ := ba_eq (by rw [hss, hl, ba_nil])
              have HE : Hid ((vs.map Vv.vl, 0) = decE ks ds s.toList) := Lib.hid (by rw [decE_of HOK.out.1 HOK.out.2.1 HOK.out.2.2, HEN.out, if_pos hl])
              subst he
              clear hss hl
              go_wp2_with fail
              go_ret2
              exact ⟨_, vs, 0, rfl, HE.out, HI.out.u64, by rw [HI.out.len]; exact HQ.out.fst⟩
            · have he : (ss.toList == ([] : List UInt8)) = false := by rw [hss]; simpa using hl
              have HE : Hid (([], 2) = decE ks ds s.toList) := Lib.hid (by rw [decE_of HOK.out.1 HOK.out.2.1 HOK.out.2.2, HEN.out, if_neg hl])
              clear hss hl
              go_wp2_with fail
              go_ret2
              exact dec_none HE.out HQ.out.only
  · have HE : Hid (([], 1) = decE ks ds s.toList) := Lib.hid (by unfold decE; rw [if_pos (.inl (by have := HN.out; have := HM.out; omega))])
    have hne : ((n : Int) != (m : Int)) = true := by simp; omega
    go_enter Tryd.func12, Tryd.ntmps12
    go_wp2
    go_ret2
    exact dec_none HE.out (Only.refl _ _)

end Go.Proofs.YtpedcpehomkikaaDoor
