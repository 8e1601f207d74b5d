/-
  Contracts of package disk: Crash.
-/
import Derived.Test.YtidkeglldmbfeaaDisk5
namespace Go.Proofs.Ytidkeglldmbfeaa
open Go Go.RowKit
set_option linter.unusedVariables false
set_option linter.unusedSimpArgs false
set_option maxRecDepth 100000

/-- Numbers that lie in none of the blocks F. -/
def SlIO (w : World) (F : Nat → Prop) (ao : Option Addr) (ks : List Int) : Prop := SlI w ao ks ∧ ∀ a, ao = some a → ks ≠ [] → ¬ F a.block
theorem SlIO.at' {w w' : World} {F : Nat → Prop} {ao : Option Addr} {ks : List Int} (h : SlIO w F ao ks) (ho : Only F w w') {j : Nat} (hj : j < ks.length) :
    ∃ g off, ao = some ⟨g, off, none⟩ ∧ w'.cell? ⟨g, off + j, none⟩ = some (.int .i64 (ks.getD j 0)) := by
  obtain ⟨g, off, rfl, hc⟩ := h.1 j hj
  refine ⟨g, off, rfl, ?_⟩
  have hb := World.block_lt_of_cell? w _ hc
  rw [World.cell?_of_block (ho.block g hb (h.2 _ rfl (fun e => by subst e; simp at hj)))]
  exact hc
theorem SlI.old {w0 w : World} {F : Nat → Prop} {ao : Option Addr} {ks : List Int} (h : SlI w0 ao ks) (ho : Only (fun _ => False) w0 w) (hF : ∀ k, F k → w0.heap.size ≤ k) : SlIO w F ao ks := by
  refine ⟨fun j hj => ?_, fun a e hk hFa => ?_⟩
  · obtain ⟨g, off, e, hc⟩ := h j hj
    exact ⟨g, off, e, ho.cellq hc⟩
  · obtain ⟨g, off, e2, hc⟩ := h 0 (List.length_pos_iff.2 hk)
    rw [e2] at e
    simp at e
    subst e
    have h1 := World.block_lt_of_cell? w0 _ hc
    have h2 := hF _ hFa
    simp at h1 h2
    omega

def keptAt (keep : List Int) (j : Nat) : Bool := decide (j < keep.length) && oddZ (keep.getD j 0)
theorem zip_take {α β : Type} (W : List α) (L : List β) (n : Nat) : List.zip (W.take n) L = (List.zip W L).take n := by
  induction W generalizing L n with
  | nil => simp
  | cons x W ih =>
    cases n with
    | zero => simp
    | succ n =>
      cases L with
      | nil => simp
      | cons y L => simp [ih]
theorem chosen_take (W : List (Nat × List UInt8)) (keep : List Int) {j : Nat} (hj : j < W.length) :
    chosen (W.take (j + 1)) keep = if keptAt keep j then chosen (W.take j) keep ++ [W[j]] else chosen (W.take j) keep := by
  unfold chosen
  have hz : ∀ n, List.zip (W.take n) keep = (List.zip W keep).take n := fun n => zip_take W keep n
  rw [hz, hz]
  by_cases hk : j < keep.length
  · have hl : j < (List.zip W keep).length := by simp; omega
    rw [List.take_succ_eq_append_getElem hl, List.filterMap_append]
    simp only [List.getElem_zip, keptAt, hk, decide_true, Bool.true_and]
    rw [show keep.getD j 0 = keep[j] by simp [hk]]
    cases h : oddZ keep[j] <;> simp [h]
  · have h1 : (List.zip W keep).take (j + 1) = List.zip W keep := List.take_of_length_le (by simp; omega)
    have h2 : (List.zip W keep).take j = List.zip W keep := List.take_of_length_le (by simp; omega)
    rw [h1, h2]
    simp [keptAt, hk]
theorem lays_snoc (K : List UInt8) (W : List (Nat × List UInt8)) (x : Nat × List UInt8) : lays K (W ++ [x]) = put (lays K W) x.1 x.2 := by
  rw [lays, List.foldl_append]
  rfl
theorem lays_chosen_take (K : List UInt8) (W : List (Nat × List UInt8)) (keep : List Int) {j : Nat} (hj : j < W.length) :
    lays K (chosen (W.take (j + 1)) keep) = if keptAt keep j then put (lays K (chosen (W.take j) keep)) (W[j]).1 (W[j]).2 else lays K (chosen (W.take j) keep) := by
  rw [chosen_take W keep hj]
  cases keptAt keep j
  · simp
  · simp only [if_true]
    exact lays_snoc _ _ _
theorem backs_take (N K : List UInt8) (W : List (Nat × List UInt8)) {j : Nat} (hj : j < W.length) : backs N K (W.take (j + 1)) = put (backs N K (W.take j)) (W[j]).1 (sec K (W[j]).1) := by
  rw [List.take_succ_eq_append_getElem hj, backs, List.foldl_append]
  rfl

set_option maxHeartbeats 400000 in
theorem disk_crash_nil (w : World) (v : Value) :
    Calls Try.prog 13 #[.pointer none, v] w fun e w' => e = .returned (.tuple #[]) ∧ w = w' := by
  go_enter Try.func13, Try.ntmps13
  go_wp2
  exact bodyPost_ret (results_none rfl _ _ _) rfl ⟨rfl, rfl⟩


set_option maxRecDepth 100000 in
set_option maxHeartbeats 1000000 in
theorem disk_crash_ok {w : World} {p gn gk : Nat} {vw : Value} {D : DS} (h : DiskAt w p gn gk vw D) (ko : Option Addr) (kc : Nat) (keep : List Int) (hk : SlIO w (Foot p gn gk vw) ko keep) (hkr : ∀ z ∈ keep, -9223372036854775808 ≤ z ∧ z ≤ 9223372036854775807) (hW : D.W.length ≤ 1000000) :
    Calls Try.prog 13 #[.pointer (some ⟨p, 0, none⟩), .slice ko keep.length kc] w fun e w' => e = .returned (.tuple #[]) ∧ DiskAt w' p gn gk (.slice none 0 0) (D.crash keep) ∧ Only (Foot p gn gk vw) w w' := by
  have hc2 : w.cell? ⟨p, 2, none⟩ = some vw := h.cell 2
  obtain ⟨ao, cap, rfl⟩ := own_shapeN h.row
  obtain ⟨m, hm⟩ : ∃ m, m = D.W.length := ⟨_, rfl⟩
  rw [← hm] at hc2 hW
  have H := Lib.hid h
  have HM := Lib.hid hm
  have HKR := Lib.hid hkr
  have HK := Lib.hid hk
  clear h hkr hk
  rw [← hm] at H HK ⊢
  clear hm
  go_enter Try.func13, Try.ntmps13
  go_wp2_with fail
  go_loopw [15] (fun i wr => ∃ j : Nat, j ≤ m ∧ i = .int .i64 j ∧ Hid (DiskAt wr p gn gk (.slice ao m cap) { D with K := lays D.K (chosen (D.W.take j) keep) }) ∧ Hid (Only (Foot p gn gk (.slice ao m cap)) w wr)) (fun i _ => m - (intOf i).toNat)
  case atStart => exact ⟨0, Nat.zero_le _, rfl, H.out, Lib.hid (Only.refl _ _)⟩
  case round =>
    obtain ⟨j, hj, rfl, HQ, HO⟩ := hrel
    by_cases hlt : j < m
    · have hj' : j < D.W.length := by rw [← HM.out]; exact hlt
      obtain ⟨gw, rfl, hr0⟩ := HQ.out.wait hj'
      obtain ⟨hx1, hx2⟩ := H.out.ok.W _ (List.getElem_mem hj')
      have HLT := Lib.hid (lays_chosen_take D.K D.W keep hj')
      change wr.rangeAt gw (j * 65) (.int .i64 (D.W[j]).1 :: u8s (D.W[j]).2) at hr0
      obtain ⟨q, hq⟩ : ∃ q, q = (D.W[j]).1 := ⟨_, rfl⟩
      obtain ⟨s, hs⟩ : ∃ s, s = (D.W[j]).2 := ⟨_, rfl⟩
      rw [← hq, ← hs] at hr0 HLT
      rw [← hq] at hx1
      rw [← hs] at hx2
      clear hq hs hj'
      have hcs1 := u8s_oneCell s
      have hcs2 : (u8s s).length = 64 := by rw [u8s_length, hx2]
      obtain ⟨cs, hcs⟩ : ∃ cs, cs = u8s s := ⟨_, rfl⟩
      rw [← hcs] at hcs1 hcs2 hr0
      have HCS := Lib.hid hcs
      clear hcs
      obtain ⟨L, hL⟩ : ∃ L, L = Value.int .i64 (q : Int) :: cs := ⟨_, rfl⟩
      rw [← hL] at hr0
      have hL65 : L.length = 65 := by rw [hL, List.length_cons, hcs2]
      have HL1 : Hid (L.toArray.size = 65) := Lib.hid (by rw [List.size_toArray, hL65])
      have HL2 : Hid (L.toArray.all (·.oneCell') = true) := Lib.hid (by
        rw [hL]
        exact all_oneCell_toArray (fun v hv => by
          rcases List.mem_cons.1 hv with rfl | hv
          · rfl
          · exact hcs1 v hv))
      have HL3 : Hid ((Try.prog.info? 71).map (·.size) = some L.length) := Lib.hid (by rw [(zero_of_info Try.infoWr).2, hL65])
      have HLL := Lib.hid hL
      have HR0 := Lib.hid hr0
      have hn := H.out.ok.n
      have hjI : (j : Int) < (m : Int) := by omega
      have hj0 : (0 : Int) ≤ (j : Int) := by omega
      obtain ⟨Z, hZ⟩ : ∃ Z : Array Value, Z = #[.int .i64 0] ++ Array.replicate 64 (.int .u8 0) := ⟨_, rfl⟩
      have HZ1 : Hid ((Try.prog.info? 71).map (fun i => (i.zero, i.size)) = some (some (.agg Z), 65)) := Lib.hid (by rw [hZ]; exact Try.infoWr)
      have HZ2 : Hid (Z.size = L.toArray.size) := Lib.hid (by rw [hZ, HL1.out]; rfl)
      have HZ3 : Hid ((Try.prog.info? 71).map (·.size) = some L.toArray.size) := Lib.hid (by rw [(zero_of_info Try.infoWr).2, HL1.out])
      clear hL65 hL hr0 hj hc2 hZ
      go_upto_region 4 with (first | (refine wpList_load_mid rfl 71 (.tmp 18) rfl gw (j * 65) rfl L _ HR0.out Try.underlying71 rfl HL3.out ?_) | (refine wpList_alloc_agg rfl 71 rfl Z 65 HZ1.out ?_) | (refine wpList_store_agg rfl 71 (.tmp 5) (.tmp 19) rfl Z L.toArray rfl rfl HZ3.out HZ2.out HL2.out ?_))
      have h2 := HQ.out.alloc (.cells L.toArray 71)
      have hg := heap_alloc_new wr (.cells L.toArray 71)
      have o2 := HO.out.alloc (.cells L.toArray 71)
      have HK2 : Hid (∀ hk : j < keep.length, ∃ kg koff, ko = some ⟨kg, koff, none⟩ ∧ (wr.alloc (.cells L.toArray 71)).cell? ⟨kg, koff + j, none⟩ = some (.int .i64 (keep.getD j 0))) := Lib.hid (fun hk => HK.out.at' o2 hk)
      generalize wr.alloc (.cells L.toArray 71) = w2 at *
      generalize wr.heap.size = g at *
      by_cases hkj : j < keep.length
      · obtain ⟨kg, koff, rfl, hck⟩ := HK2.out hkj
        have hzr := HKR.out (keep.getD j 0) (by rw [show keep.getD j 0 = keep[j] by simp [hkj]]; exact List.getElem_mem hkj)
        have HODD := Lib.hid (disk_odd w2 (keep.getD j 0) hzr)
        obtain ⟨z, hz⟩ : ∃ z, z = keep.getD j 0 := ⟨_, rfl⟩
        rw [← hz] at hck HODD
        obtain ⟨b, hb⟩ : ∃ b, b = oddZ z := ⟨_, rfl⟩
        rw [← hb] at HODD
        have hkb : keptAt keep j = b := by rw [hb, keptAt, decide_eq_true hkj, ← hz]; rfl
        rw [hkb] at HLT
        have hkjI : (j : Int) < (keep.length : Int) := by omega
        have H5 := Lib.hid h2
        have H7 := Lib.hid o2
        clear hb hz hkb hzr HK2
        cases b with
        | true =>
          have HLT' : Hid (lays D.K (chosen (D.W.take (j + 1)) keep) = put (lays D.K (chosen (D.W.take j) keep)) q s) := HLT
          have hqI : (q : Int) < (D.n : Int) := by omega
          have hq0 : (0 : Int) ≤ (q : Int) := by omega
          have hc1 : w2.cell? ⟨p, 1, none⟩ = some (.slice (some ⟨gk, 0, none⟩) D.n D.n) := h2.cell 1
          have hcg : w2.cell? ⟨g, 0, none⟩ = some (.int .i64 q) := by simp [World.cell?, hg, HLL.out]
          have hr : w2.rangeAt g 1 cs := by
            have := range_of_list (L := L) hg 1 64
            rw [HLL.out, List.drop_succ_cons, List.drop_zero, List.take_of_length_le (by omega)] at this
            exact this
          have ht : w2.there gk (q * 64) 64 := there_of_row h2.kept (by have := h2.ok.K; simp [u8s_length]; simp at this; omega)
          have hu := Try.underlying69
          have hsz : (Try.prog.info? 69).map (·.size) = some cs.length := by rw [Try.sizeSec, hcs2]
          have hggk : g ≠ gk := fun e => by have b := h2.kept; rw [← e, hg] at b; simp at b
          have hpgk : p ≠ gk := fun e => h2.np.2 e.symm
          have HS0 : Hid (w2.drew.cell? ⟨p, 1, none⟩ = some (.slice (some ⟨gk, 0, none⟩) D.n D.n) ∧ w2.drew.cell? ⟨g, 0, none⟩ = some (.int .i64 q) ∧ w2.drew.rangeAt g 1 cs ∧ w2.drew.there gk (q * 64) 64) := Lib.hid ⟨hc1, hcg, hr, ht⟩
          have HS1 : Hid ((w2.drew.setCells gk (q * 64) cs).cell? ⟨p, 1, none⟩ = some (.slice (some ⟨gk, 0, none⟩) D.n D.n) ∧ (w2.drew.setCells gk (q * 64) cs).cell? ⟨g, 0, none⟩ = some (.int .i64 q) ∧ (w2.drew.setCells gk (q * 64) cs).rangeAt g 1 cs ∧ (w2.drew.setCells gk (q * 64) cs).there gk (q * 64) 64) := Lib.hid
            ⟨by rw [World.cell?_of_block (heap_setCells_other gk cs (q * 64) w2.drew p hpgk)]; exact hc1, by rw [World.cell?_of_block (heap_setCells_other gk cs (q * 64) w2.drew g hggk)]; exact hcg, World.rangeAt_setCells_apart (w := w2.drew) hr _ _ _ (.inl hggk), World.there_setCells (w := w2.drew) ht _ _ _⟩
          clear h2 hg o2 hggk hpgk HQ HO
          go_upto_region 5 with (go_at_call 39; refine HODD.out.mono ?_; rintro e w' ⟨rfl, rfl⟩)
          go_region_held3 (fun w' => w'.cell? ⟨p, 1, none⟩ = some (.slice (some ⟨gk, 0, none⟩) D.n D.n) ∧ w'.cell? ⟨g, 0, none⟩ = some (.int .i64 q) ∧ w'.rangeAt g 1 cs ∧ w'.there gk (q * 64) 64) (first | exact HS0.out | exact HS1.out) (fail)
          have HF : Hid (DiskAt (w2.drew.setCells gk (q * 64) cs) p gn gk (.slice (some ⟨gw, 0, none⟩) m cap) { D with K := lays D.K (chosen (D.W.take (j + 1)) keep) }) := Lib.hid (by
            have h3 := (H5.out.keep (w' := w2.drew) (fun _ _ => rfl)).layK (i := q) (s := s) hx1 hx2
            rw [HCS.out, HLT'.out]
            exact h3)
          have HO : Hid (Only (Foot p gn gk (.slice (some ⟨gw, 0, none⟩) m cap)) w (w2.drew.setCells gk (q * 64) cs)) := Lib.hid
            ((H7.out.drew).trans (Only.setCells w2.drew gk (q * 64) cs) (fun k _ e => .inr (.inr (.inl e))))
          generalize w2.drew.setCells gk (q * 64) cs = w3 at *
          clear hc1 hcg hr ht HS0 HS1 H5 H7 hck
          go_wp2
          go_roundw
          case rel => exact ⟨j + 1, by omega, by go_num, HF, HO⟩
          case measure => simp [intOf]; omega
        | false =>
          have HLT' : Hid (lays D.K (chosen (D.W.take (j + 1)) keep) = lays D.K (chosen (D.W.take j) keep)) := HLT
          have HF : Hid (DiskAt w2 p gn gk (.slice (some ⟨gw, 0, none⟩) m cap) { D with K := lays D.K (chosen (D.W.take (j + 1)) keep) }) := Lib.hid (by rw [HLT'.out]; exact H5.out)
          clear h2 hg o2 HQ HO
          go_wp2_with (go_at_call 39; refine HODD.out.mono ?_; rintro e w' ⟨rfl, rfl⟩)
          go_roundw
          case rel => exact ⟨j + 1, by omega, by go_num, HF, H7⟩
          case measure => simp [intOf]; omega
      · have hkb : keptAt keep j = false := by rw [keptAt, decide_eq_false hkj]; rfl
        rw [hkb] at HLT
        have HLT' : Hid (lays D.K (chosen (D.W.take (j + 1)) keep) = lays D.K (chosen (D.W.take j) keep)) := HLT
        have HF : Hid (DiskAt w2 p gn gk (.slice (some ⟨gw, 0, none⟩) m cap) { D with K := lays D.K (chosen (D.W.take (j + 1)) keep) }) := Lib.hid (by rw [HLT'.out]; exact h2)
        have H7 := Lib.hid o2
        have hkjI : decide ((j : Int) < (keep.length : Int)) = false := decide_eq_false (by omega)
        have hkjJ : ¬ (j : Int) < (keep.length : Int) := by omega
        clear h2 hg o2 HQ HO hkb HK2
        go_wp2_with fail
        go_roundw
        case rel => exact ⟨j + 1, by omega, by go_num, HF, H7⟩
        case measure => simp [intOf]; omega
    · obtain rfl : j = m := by omega
      have hE : D.W.take j = D.W := List.take_of_length_le (by rw [← HM.out]; exact Nat.le_refl _)
      have h2 := HQ.out
      rw [hE] at h2
      have c2 : wr.cell? ⟨p, 2, none⟩ = some (.slice ao j cap) := h2.cell 2
      obtain ⟨K1, hK1⟩ : ∃ K1, K1 = lays D.K (chosen D.W keep) := ⟨_, rfl⟩
      rw [← hK1] at h2
      have HK1 := Lib.hid hK1
      have H2 := Lib.hid h2
      have hlK := h2.ok.K
      have HLK : Hid (K1.length = D.n * 64) := Lib.hid hlK
      clear hK1 h2 hE HQ hlt hc2 hlK
      go_wp2_with fail
      obtain ⟨wo, rfl⟩ : ∃ wo : World, wo = wr := ⟨_, rfl⟩
      go_loopw [46] (fun i wr => ∃ l : Nat, l ≤ j ∧ i = .int .i64 l ∧ Hid (DiskAt wr p gn gk (.slice ao j cap) { D with N := backs D.N K1 (D.W.take l), K := K1 }) ∧ Hid (Only (Foot p gn gk (.slice ao j cap)) w wr)) (fun i _ => j - (intOf i).toNat)
      case atStart => exact ⟨0, Nat.zero_le _, rfl, H2.out, HO⟩
      case round =>
        clear c2 HO
        obtain ⟨l, hl, rfl, HQ, HO⟩ := hrel
        by_cases hlt : l < j
        · have hl' : l < D.W.length := by rw [← HM.out]; exact hlt
          obtain ⟨gw, rfl, hr0⟩ := HQ.out.wait hl'
          obtain ⟨hx1, hx2⟩ := H.out.ok.W _ (List.getElem_mem hl')
          have HLT := Lib.hid (backs_take D.N K1 D.W hl')
          change wr.rangeAt gw (l * 65) (.int .i64 (D.W[l]).1 :: u8s (D.W[l]).2) at hr0
          obtain ⟨q, hq⟩ : ∃ q, q = (D.W[l]).1 := ⟨_, rfl⟩
          obtain ⟨s, hs⟩ : ∃ s, s = (D.W[l]).2 := ⟨_, rfl⟩
          rw [← hq, ← hs] at hr0
          rw [← hq] at hx1 HLT
          rw [← hs] at hx2
          clear hq hs hl'
          obtain ⟨L, hL⟩ : ∃ L, L = Value.int .i64 (q : Int) :: u8s s := ⟨_, rfl⟩
          rw [← hL] at hr0
          have hL65 : L.length = 65 := by rw [hL, List.length_cons, u8s_length, hx2]
          have HL1 : Hid (L.toArray.size = 65) := Lib.hid (by rw [List.size_toArray, hL65])
          have HL2 : Hid (L.toArray.all (·.oneCell') = true) := Lib.hid (by
            rw [hL]
            exact all_oneCell_toArray (fun v hv => by
              rcases List.mem_cons.1 hv with rfl | hv
              · rfl
              · exact u8s_oneCell s v hv))
          have HL3 : Hid ((Try.prog.info? 71).map (·.size) = some L.length) := Lib.hid (by rw [(zero_of_info Try.infoWr).2, hL65])
          have HLL := Lib.hid hL
          have HR0 := Lib.hid hr0
          have hn := H.out.ok.n
          have hlI : (l : Int) < (j : Int) := by omega
          have hl0 : (0 : Int) ≤ (l : Int) := by omega
          have hs64 := sec_length HLK.out hx1
          have hcs1 := u8s_oneCell (sec K1 q)
          have hcs2 : (u8s (sec K1 q)).length = 64 := by rw [u8s_length, hs64]
          obtain ⟨cs, hcs⟩ : ∃ cs, cs = u8s (sec K1 q) := ⟨_, rfl⟩
          rw [← hcs] at hcs1 hcs2
          have HCS := Lib.hid hcs
          have HS64 := Lib.hid hs64
          clear hL65 hL hr0 hl hcs hs64
          go_upto_region 10 with (first | (refine wpList_load_mid rfl 71 (.tmp 48) rfl gw (l * 65) rfl L _ HR0.out Try.underlying71 rfl HL3.out ?_) | (refine wpList_alloc_store rfl rfl 71 (.tmp 7) (.tmp 49) rfl rfl _ 65 Try.infoWr rfl L.toArray HL1.out HL2.out rfl rfl ?_))
          (try simp only [Act.put, List.setIfInBounds_toArray, List.set_cons_succ, List.set_cons_zero])
          have h2 := HQ.out.alloc (.cells L.toArray 71)
          have hg := heap_alloc_new wr (.cells L.toArray 71)
          have o2 := HO.out.alloc (.cells L.toArray 71)
          generalize wr.alloc (.cells L.toArray 71) = w2 at *
          generalize wr.heap.size = g at *
          have hqI : (q : Int) < (D.n : Int) := by omega
          have hq0 : (0 : Int) ≤ (q : Int) := by omega
          have hc0 : w2.cell? ⟨p, 0, none⟩ = some (.slice (some ⟨gn, 0, none⟩) D.n D.n) := h2.cell 0
          have hc1 : w2.cell? ⟨p, 1, none⟩ = some (.slice (some ⟨gk, 0, none⟩) D.n D.n) := h2.cell 1
          have hcg : w2.cell? ⟨g, 0, none⟩ = some (.int .i64 q) := by simp [World.cell?, hg, HLL.out]
          have hr : w2.rangeAt gk (q * 64) cs := by
            rw [HCS.out]
            exact range_of_row (xs := K1) h2.kept _ _
          have ht : w2.there gn (q * 64) 64 := there_of_row h2.now (by have := h2.ok.N; simp [u8s_length]; simp at this; omega)
          have hu := Try.underlying69
          have hsz : (Try.prog.info? 69).map (·.size) = some cs.length := by rw [Try.sizeSec, hcs2]
          have hggn : g ≠ gn := fun e => by have b := h2.now; rw [← e, hg] at b; simp at b
          have hpgn : p ≠ gn := fun e => h2.np.1 e.symm
          have hkn : gk ≠ gn := fun e => h2.ne e.symm
          have HS0 : Hid (w2.drew.cell? ⟨p, 0, none⟩ = some (.slice (some ⟨gn, 0, none⟩) D.n D.n) ∧ w2.drew.cell? ⟨p, 1, none⟩ = some (.slice (some ⟨gk, 0, none⟩) D.n D.n) ∧ w2.drew.cell? ⟨g, 0, none⟩ = some (.int .i64 q) ∧ w2.drew.rangeAt gk (q * 64) cs ∧ w2.drew.there gn (q * 64) 64) := Lib.hid ⟨hc0, hc1, hcg, hr, ht⟩
          have HS1 : Hid ((w2.drew.setCells gn (q * 64) cs).cell? ⟨p, 0, none⟩ = some (.slice (some ⟨gn, 0, none⟩) D.n D.n) ∧ (w2.drew.setCells gn (q * 64) cs).cell? ⟨p, 1, none⟩ = some (.slice (some ⟨gk, 0, none⟩) D.n D.n) ∧ (w2.drew.setCells gn (q * 64) cs).cell? ⟨g, 0, none⟩ = some (.int .i64 q) ∧ (w2.drew.setCells gn (q * 64) cs).rangeAt gk (q * 64) cs ∧ (w2.drew.setCells gn (q * 64) cs).there gn (q * 64) 64) := Lib.hid
            ⟨by rw [World.cell?_of_block (heap_setCells_other gn cs (q * 64) w2.drew p hpgn)]; exact hc0, by rw [World.cell?_of_block (heap_setCells_other gn cs (q * 64) w2.drew p hpgn)]; exact hc1, by rw [World.cell?_of_block (heap_setCells_other gn cs (q * 64) w2.drew g hggn)]; exact hcg, World.rangeAt_setCells_apart (w := w2.drew) hr _ _ _ (.inl hkn), World.there_setCells (w := w2.drew) ht _ _ _⟩
          have H5 := Lib.hid h2
          have H7 := Lib.hid o2
          clear h2 hg o2 hggn hpgn hkn HQ HO
          go_region_held3 (fun w' => w'.cell? ⟨p, 0, none⟩ = some (.slice (some ⟨gn, 0, none⟩) D.n D.n) ∧ w'.cell? ⟨p, 1, none⟩ = some (.slice (some ⟨gk, 0, none⟩) D.n D.n) ∧ w'.cell? ⟨g, 0, none⟩ = some (.int .i64 q) ∧ w'.rangeAt gk (q * 64) cs ∧ w'.there gn (q * 64) 64) (first | exact HS0.out | exact HS1.out) (fail)
          have HF : Hid (DiskAt (w2.drew.setCells gn (q * 64) cs) p gn gk (.slice (some ⟨gw, 0, none⟩) j cap) { D with N := backs D.N K1 (D.W.take (l + 1)), K := K1 }) := Lib.hid (by
            have h3 := (H5.out.keep (w' := w2.drew) (fun _ _ => rfl)).layN (i := q) (s := sec K1 q) hx1 HS64.out
            rw [HCS.out, HLT.out]
            exact h3)
          have HO : Hid (Only (Foot p gn gk (.slice (some ⟨gw, 0, none⟩) j cap)) w (w2.drew.setCells gn (q * 64) cs)) := Lib.hid
            ((H7.out.drew).trans (Only.setCells w2.drew gn (q * 64) cs) (fun k _ e => .inr (.inl e)))
          generalize w2.drew.setCells gn (q * 64) cs = w3 at *
          clear hc0 hc1 hcg hr ht HS0 HS1 H5 H7
          go_wp2
          go_roundw
          case rel => exact ⟨l + 1, by omega, by go_num, HF, HO⟩
          case measure => simp [intOf]; omega
        · obtain rfl : l = j := by omega
          have hE : D.W.take l = D.W := List.take_of_length_le (by rw [← HM.out]; exact Nat.le_refl _)
          have h2 := HQ.out
          rw [hE] at h2
          have h3 := h2.none
          have c2 : wr.cell? ⟨p, 2, none⟩ = some (.slice ao l cap) := h2.cell 2
          have f2 := h2.free 2
          have e3 := h3.ok
          have c3 : (wr.setCell ⟨p, 2, none⟩ (.slice none 0 0)).cell? ⟨p, 3, none⟩ = some (.int .i64 D.fuse) := h3.cell 3
          have f3 := h3.free 3
          have h4 := h3.set (D' := { D with N := backs D.N K1 D.W, K := K1, W := [], fuse := -1 }) 3 (.int .i64 (-1)) ⟨e3.n, e3.N, e3.K, by simp, by simp⟩ rfl rfl rfl rfl
          have e4 := h4.ok
          have c4 : ((wr.setCell ⟨p, 2, none⟩ (.slice none 0 0)).setCell ⟨p, 3, none⟩ (.int .i64 (-1))).cell? ⟨p, 4, none⟩ = some (.bool D.down) := h4.cell 4
          have f4 := h4.free 4
          have h5 := h4.set (D' := { D with N := backs D.N K1 D.W, K := K1, W := [], fuse := -1, down := false }) 4 (.bool false) ⟨e4.n, e4.N, e4.K, by simp, by simp⟩ rfl rfl rfl rfl
          have H5 := Lib.hid h5
          have HO1 := Lib.hid (((HO.out.trans (Only.cell wr p 2 (.slice none 0 0)) (fun k _ e => .inl e)).trans (Only.cell _ p 3 (.int .i64 (-1))) (fun k _ e => .inl e)).trans (Only.cell _ p 4 (.bool false)) (fun k _ e => .inl e))
          clear h2 h3 h4 h5 e3 e4 hE HQ HO
          go_wp2
          go_end0
          refine ⟨rfl, ?_, HO1.out⟩
          rw [DS.crash, ← HK1.out]
          exact H5.out

end Go.Proofs.Ytidkeglldmbfeaa
