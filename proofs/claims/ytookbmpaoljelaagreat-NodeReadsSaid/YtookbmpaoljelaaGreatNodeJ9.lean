/-
  The node of any bytes, or that there is none, is the document's; what is read is written again, and the bytes stay as they were (NodeReads). Conditions: none (whatever the bytes).
  Joined: Raw NodeReads ArgB NodeArg NodeReadsProof.
-/
import Derived.Test.YtookbmpaoljelaaGreatNodeJ8
import Derived.Laws.AppendOwnNone
import Derived.Deep.DeepCutAuto
import Derived.Deep.CutBlock
import Derived.Test.YtookbmpaoljelaaGreatRows
import Derived.ProofKit
import Derived.OpenShut
import Derived.SizedLaws
import Derived.Carry
import Derived.Lib.SmallJoins
import Derived.Deep.Slices
import Derived.Deep.Fields
import Derived.ChangeMaps5
import Derived.Deep.CondSized

namespace Go.Proofs.YtookbmpaoljelaaGreat
open Go Go.RowKit Go.Lib
set_option linter.unusedVariables false
set_option linter.unusedSimpArgs false
set_option maxRecDepth 100000


def LentAt (w : World) (xs : List UInt8) (e : Ending) (w' : World) : Prop :=
  ∃ g cap, e = .returned (.slice (some ⟨g, 0, none⟩) xs.length cap) ∧ w'.ownsRow w.heap.size 5 1 (.slice (some ⟨g, 0, none⟩) (xs.length + 2) cap) (xs.length + 2) (u8s (xs ++ [71, 72])) ∧ Only (fun _ => False) w w'

set_option maxHeartbeats 400000 in
theorem raw_lent (v : Value) (xs : List UInt8) (w : World) (h : SlC w v xs) (hlen : xs.length + 2 ≤ 140737488355328) :
    Calls Tryz.prog 5 #[v] w (LentAt w xs) := by
  obtain ⟨i0, hi, hz0, hz1, hz2⟩ := info_parts Tryz.infoU8
  obtain ⟨vo, vc, rfl⟩ := h.shape
  have HC := Lib.hid h; clear h
  go_enter Tryz.func5, Tryz.ntmps5
  go_upto_region 2 with (at_builtin; refine wp_fresh w _ xs HC.out (by omega) rfl (.tmp 4) (.tmp 5) rfl rfl rfl ?_; intro ao cap w1 HW HO)
  go_wp2_with (at_builtin; refine wpList_append_lies _ rfl (.tmp 7) (.tmp 8) 22 rfl w.heap.size 5 i0 (.int .u8 0) 1 1 Tryz.underlying22 hi hz0 hz1 hz2 rfl (by decide) _ xs.length (u8s xs) rfl (HW.out.alloc _) ⟨w1.heap.size, 0, none⟩ 2 2 (u8s [71, 72]) rfl rfl (World.news_of_block (heap_alloc_new w1 _)) (u8s_oneCell _) (by decide) ?c1 ?c2 ?c3 (w1.heap.size + 1) ?c4 ?_)
  case c1 => unfold maxLen; omega
  case c2 => omega
  case c3 => have := HO.out.size; simp; omega
  case c4 => simp
  intro g cap2 w2 hown hgrow hat hlt
  have hcap : xs.length + 2 ≤ cap2 := by
    rcases hown.2 with ⟨hv, _⟩ | ⟨g', cap', cur, hv, _, _, hc, _⟩
    · simp at hv
    · simp at hv; omega
  have HW2 := Lib.hid hown; clear hown
  have hge : ∀ k, k < w.heap.size → (Value.slice ao xs.length cap).ownBlock = some k → False := fun k hk e => by
    have := (HW.out.lt k e).1
    omega
  have HO2 := Lib.hid ((HO.out.alloc (.cells #[.int .u8 71, .int .u8 72] 5)).grown hgrow hge)
  clear hgrow hat hlt hge
  go_wp2
  go_ret
  exact ⟨g, cap2, rfl, by rw [u8s_append]; exact HW2.out, HO2.out⟩

set_option maxHeartbeats 400000 in
theorem raw_kept (B g cap : Nat) (v : Value) (xs : List UInt8) (w : World) (hown : w.ownsRow B 5 1 (.slice (some ⟨g, 0, none⟩) (xs.length + 2) cap) (xs.length + 2) (u8s (xs ++ [71, 72]))) (h : SlC w v xs) (hlen : xs.length + 2 ≤ 140737488355328) :
    Calls Tryz.prog 9 #[.slice (some ⟨g, 0, none⟩) xs.length cap, v] w fun e w' => e = .returned (.bool true) ∧ w = w' := by
  have hcb := run_strC h
  obtain ⟨vo, vc, rfl⟩ := h.shape
  have hcap : xs.length + 2 ≤ cap := by
    rcases hown.2 with ⟨hv, _⟩ | ⟨g', cap', cur, hv, _, _, hc, _⟩
    · simp at hv
    · simp at hv; omega
  have hcell : ∀ j, j < xs.length + 2 → w.cell? ⟨g, j, none⟩ = some (.int .u8 ((xs ++ [71, 72]).getD j 0).toNat) := fun j hj => by
    rw [hown.cellAt j (by omega)]
    exact u8s_at (by simp; omega)
  have hm : SlC w (.slice (some ⟨g, 0, none⟩) xs.length cap) xs := .inr ⟨_, cap, rfl, fun j hj => by
    rw [add_lit, Nat.zero_add, hcell j (by omega)]
    congr 3
    simp [List.getD_eq_getElem?_getD, List.getElem?_append, hj]⟩
  have hcm := run_strC hm
  have h71 : w.cell? ⟨g, xs.length, none⟩ = some (.int .u8 71) := by
    rw [hcell _ (by omega)]
    simp [List.getD_eq_getElem?_getD]
  have h72 : w.cell? ⟨g, xs.length + 1, none⟩ = some (.int .u8 72) := by
    rw [hcell _ (by omega)]
    simp [List.getD_eq_getElem?_getD]
  clear hown h hcell hm
  obtain ⟨n, hn⟩ : ∃ n, n = xs.length := ⟨_, rfl⟩
  rw [← hn] at h71 h72 hcap hlen hcb hcm ⊢
  have HN := Lib.hid hn; clear hn
  have hcap' : (n : Int) + 2 ≤ (cap : Int) := by omega
  have hge : ¬ (cap : Int) < (n : Int) + 2 := by omega
  go_enter Tryz.func9, Tryz.ntmps9
  go_wp2
  go_ret
  exact ⟨rfl, rfl⟩

set_option maxHeartbeats 400000 in
theorem raw_bytes (a b : Value) (xs : List UInt8) (w : World) (ha : SlC w a xs) (hb : SlC w b xs) :
    Calls Tryz.prog 11 #[a, b] w fun e w' => e = .returned (.bool true) ∧ w = w' := by
  have hca := run_strC ha
  have hcb := run_strC hb
  obtain ⟨ao, ac, rfl⟩ := ha.shape
  obtain ⟨bo, bc, rfl⟩ := hb.shape
  clear ha hb
  go_enter Tryz.func11, Tryz.ntmps11
  go_wp2
  go_ret
  exact ⟨rfl, rfl⟩

end Go.Proofs.YtookbmpaoljelaaGreat

namespace Go.Proofs.YtookbmpaoljelaaGreat
open Go Go.RowKit
set_option linter.unusedVariables false
set_option linter.unusedSimpArgs false
set_option maxRecDepth 100000
set_option linter.unusedSimpArgs false
set_option maxRecDepth 100000

/-- Lent bytes, the marks left out. -/
theorem lent_slc {w : World} {B g cap : Nat} {xs : List UInt8} (h : w.ownsRow B 5 1 (.slice (some ⟨g, 0, none⟩) (xs.length + 2) cap) (xs.length + 2) (u8s (xs ++ [71, 72]))) : SlC w (.slice (some ⟨g, 0, none⟩) xs.length cap) xs := by
  refine .inr ⟨_, cap, rfl, fun j hj => ?_⟩
  rw [add_lit, Nat.zero_add, h.cellAt j (by omega)]
  have := u8s_at (xs := xs ++ [71, 72]) (j := j) (by simp; omega)
  rw [this]
  congr 3
  simp [List.getD_eq_getElem?_getD, List.getElem?_append, hj]
theorem Own.emp {w0 w : World} {I : Res} (h : Own w0 w I) : Own w0 w (Sep I Emp) := by
  obtain ⟨F, h1, h2, h3⟩ := h
  exact ⟨F, ⟨F, fun _ => False, h1, fun _ h => h, fun _ _ h => h, fun k => by simp⟩, h2, h3⟩
abbrev nd0n : Nd := ⟨false, [], [], [], []⟩
abbrev nh0 : Nh := ⟨none, 0, none, 0, none, 0, none, 0⟩
theorem nd0_at (w : World) : NdAt w nh0 nd0n := ⟨SlG.nil _ _, SlG.nil _ _, SlG.nil _ _, fun j hj => by simp at hj, by decide, by decide, by decide, by decide⟩
theorem enc_of_dec {bs : List UInt8} {n : Nd} (h : decN bs = some n) : NdW n ∧ encErr n = 0 ∧ encOut n = bs := by
  obtain ⟨h1, h2, h3, h4⟩ := dec_inv h
  have he : encErr n = 0 := by unfold encErr; rw [if_pos h1, if_neg (by rw [h3]; omega)]
  exact ⟨h2, he, by unfold encOut; rw [if_pos he, h3]⟩

set_option maxHeartbeats 8000000 in
theorem nreads_walk (v : Value) (bs : List UInt8) (w : World) (hv : RI.SlF w v bs) (hl : bs.length ≤ 140737488351232) :
    Calls Tryz.prog 3 #[v] w fun r w' => r = .returned (.bool true) ∧ Below w.heap.size w w' := by
  obtain ⟨ao, cap, rfl, hcap, _⟩ := hv.shape
  have HV := Lib.hid hv
  obtain ⟨m, hm⟩ : ∃ m, m = bs.length := ⟨_, rfl⟩
  have HM := Lib.hid hm
  rw [← hm] at HV hl ⊢
  clear hv hcap hm
  go_enter Tryz.func3, Tryz.ntmps3
  go_wp2_with fail
  refine (awake_any _).mono ?_
  rintro r w1 ⟨rfl, ho⟩
  have HO1 := Lib.hid ho
  clear ho
  go_wp2_with fail
  refine (raw_lent _ bs w1 (HV.out.1.keep HO1.out) (by have := HM.out; omega)).mono ?_
  rintro r w2 ⟨g, lc, rfl, hw, ho⟩
  have HW := Lib.hid hw
  have HO2 := Lib.hid (HO1.out.trans ho (fun _ _ h => h))
  have HL := Lib.hid (lent_slc hw)
  rw [← HM.out] at HW HL ⊢
  clear hw ho HO1
  go_wp2_with fail
  refine (decode_any _ bs w2 HL.out (by have := HM.out; omega)).mono ?_
  rintro r w3 hp
  have HF := Lib.hid (fun W (h : Only (fun _ => False) w W) => (HV.out.keep h (fun _ _ _ h => h) : RI.SlF W (.slice ao m cap) bs))
  have HKE := Lib.hid (fun W (h : Only (fun _ => False) w2 W) => raw_kept w1.heap.size g lc (.slice ao m cap) bs W (by rw [← HM.out]; exact own_keep HW.out h) (HF.out W (HO2.out.trans h (fun _ _ h => h))).1 (by have := HM.out; omega))
  rw [← HM.out] at HKE
  have HQ := Lib.hid (fun W (h : Only (fun _ => False) w2 W) => qdecode_any (.slice ao m cap) bs W (HF.out W (HO2.out.trans h (fun _ _ h => h))) (by have := HM.out; omega))
  clear HF
  rcases hp with ⟨H, n, hs, hd, rfl, hz, ho⟩ | ⟨hd, rfl, ho⟩
  · have HD := Lib.hid hd
    have HZ := Lib.hid hz
    have HE := Lib.hid (enc_of_dec hd)
    have H3 := Lib.hid (ho.alloc (.cells (ndc H n) 30))
    clear hd hz ho
    go_upto_region 5 with fail
    generalize w3.alloc (.cells (ndc H n) 30) = w4 at *
    generalize w3.heap.size = nb at *
    go_wp2_with fail
    refine (HQ.out w4 H3.out.only).mono ?_
    rintro r w5 hp
    rcases hp with ⟨K, n2, ks, hd, rfl, hz, ho⟩ | ⟨hd, _, _⟩
    rotate_left
    · rw [HD.out] at hd; cases hd
    rw [HD.out] at hd
    simp only [Option.some.injEq] at hd
    subst hd
    have HZ2 := Lib.hid hz
    have H5 := Lib.hid ((H3.out.joinZ ho).alloc (.cells (ndc K n) 30))
    clear hz ho H3 HQ
    go_upto_region 6 with fail
    generalize w5.alloc (.cells (ndc K n) 30) = w6 at *
    generalize w5.heap.size = kb at *
    obtain ⟨d0, d1, d2, d3, d4⟩ := nod_cells H5.out.held
    obtain ⟨c0, c1, c2, c3, c4⟩ := nod_cells H5.out.snd.snd.held
    have HKA := Lib.hid (nodr_at H5.out.snd HZ2.out)
    have HNA := Lib.hid (nodr_at H5.out.snd.snd.snd.emp HZ.out)
    have HNQ := Lib.hid (nodes_any H K n n w6 HNA.out HKA.out)
    go_wp2_with fail
    refine HNQ.out.mono ?_
    rintro e w7 ⟨r, rfl, hr, ho⟩
    obtain rfl : r = true := hr.2 rfl
    have H7 := Lib.hid (H5.out.quiet ho)
    clear hr ho HNQ HKA HNA H5 c0 c1 c2 c3 c4 d0 d1 d2 d3 d4
    go_wp2_with fail
    refine (HKE.out w7 H7.out.only).mono ?_
    rintro e w8 ⟨rfl, rfl⟩
    obtain ⟨c0, c1, c2, c3, c4⟩ := nod_cells H7.out.snd.snd.held
    have HNA := Lib.hid (nodr_at H7.out.snd.snd.snd.emp HZ.out)
    have HEN := Lib.hid (encode_any H n w7 HNA.out HE.out.1)
    go_wp2_with fail
    refine HEN.out.mono ?_
    rintro r w9 hp
    obtain ⟨co, cc, rfl, hsl, h9⟩ := enc_get hp
    rw [HE.out.2.2, ← HM.out] at hsl
    rw [HE.out.2.2, HE.out.2.1, ← HM.out]
    have H9 := Lib.hid (H7.out.only.trans h9.only (fun _ _ h => h))
    have HSB := Lib.hid (HV.out.1.keep (HO2.out.trans H9.out (fun _ _ h => h)))
    have hbb : (bs == bs) = true := by simp
    have HBY := Lib.hid (bytes_any (.slice co m cc) (.slice ao m cap) bs bs w9 hsl HSB.out)
    rw [hbb] at HBY
    clear hp h9 hsl hbb c0 c1 c2 c3 c4 HEN HNA H7
    go_wp2_with fail
    refine HBY.out.mono ?_
    rintro r w10 ⟨rfl, rfl⟩
    go_wp2_with fail
    go_ret
    exact ⟨rfl, only_b (HO2.out.trans H9.out (fun _ _ h => h))⟩
  · have HD := Lib.hid hd
    have H3 := Lib.hid (((Own.start w2).quiet ho).alloc (.cells (ndc nh0 nd0n) 30))
    clear hd ho
    go_upto_region 5 with fail
    generalize w3.alloc _ = w4 at *
    generalize w3.heap.size = nb at *
    go_wp2_with fail
    refine (HQ.out w4 H3.out.only).mono ?_
    rintro r w5 hp
    rcases hp with ⟨_, _, _, hd, _⟩ | ⟨_, rfl, ho⟩
    · rw [HD.out] at hd; cases hd
    have H5 := Lib.hid ((H3.out.quiet ho).alloc (.cells (ndc nh0 nd0n) 30))
    clear ho H3 HQ
    go_upto_region 6 with fail
    generalize w5.alloc _ = w6 at *
    generalize w5.heap.size = kb at *
    obtain ⟨d0, d1, d2, d3, d4⟩ := nod_cells H5.out.held
    obtain ⟨c0, c1, c2, c3, c4⟩ := nod_cells H5.out.snd.held
    have HNQ := Lib.hid (nodes_any nh0 nh0 nd0n nd0n w6 (nd0_at _) (nd0_at _))
    go_wp2_with fail
    refine HNQ.out.mono ?_
    rintro e w7 ⟨r, rfl, hr, ho⟩
    obtain rfl : r = true := hr.2 rfl
    have H7 := Lib.hid (H5.out.quiet ho)
    clear hr ho HNQ H5 c0 c1 c2 c3 c4 d0 d1 d2 d3 d4
    go_wp2_with fail
    refine (HKE.out w7 H7.out.only).mono ?_
    rintro e w8 ⟨rfl, rfl⟩
    obtain ⟨c0, c1, c2, c3, c4⟩ := nod_cells H7.out.snd.held
    go_wp2_with fail
    go_ret
    exact ⟨rfl, only_b (HO2.out.trans H7.out.only (fun _ _ h => h))⟩

end Go.Proofs.YtookbmpaoljelaaGreat

namespace Go.Proofs.YtookbmpaoljelaaGreat
open Go Go.RowKit Go.Joins Go.ChangeShapes Go.WideShapes Go.Deep
set_option linter.unusedVariables false
set_option linter.unusedSimpArgs false
set_option maxRecDepth 100000
set_option maxRecDepth 100000

theorem mown0 : ownKnob Tryz.prog.godebug = none := by kernel_rfl
theorem mlaid0 : laidOutB Tryz.prog = true := by kernel_rfl
theorem one_val {c v : Value} (h : [c] = [v]) : c = v := by injection h
/-- No string and no slice of a reading is longer than a machine reaches. -/
def Szd {H : Type} (t : TypeId) (d : DataW H) : Prop := ∀ n ∈ d.weights Tryz.prog t, n ≤ 140737488351232
theorem szd_all {H : Type} {e : TypeId} : ∀ {l : List (DataW H)} {d : DataW H}, d ∈ l → ∀ n ∈ d.weights Tryz.prog e, n ∈ DataW.weightsAll Tryz.prog e l
  | [], d, h, _, _ => by cases h
  | x :: l, d, h, n, hn => by
    simp only [DataW.weightsAll, List.mem_append]
    rcases List.mem_cons.1 h with rfl | h
    · exact .inl hn
    · exact .inr (szd_all h n hn)
theorem Szd.elem {H : Type} {t e : TypeId} {elems spare : List (DataW H)} (h : Szd t (.slice elems spare)) (hu : Tryz.prog.underlying t = some (.slice e)) {d : DataW H} (hd : d ∈ elems) : Szd e d := fun n hn =>
  h n (by simp only [DataW.weights, hu, List.mem_cons, List.mem_append]; exact .inr (.inl (szd_all hd n hn)))
theorem Szd.part {H : Type} {t : TypeId} {fs : Array Field} {parts : List (DataW H)} (h : Szd t (.agg parts)) (hu : Tryz.prog.underlying t = some (.struct fs)) {j : Nat} {e : TypeId} {d : DataW H} (ht : (fs.toList.map (·.type))[j]? = some e) (hd : parts[j]? = some d) : Szd e d := fun n hn =>
  h n (by simp only [DataW.weights, hu]; exact DataW.weights_mem_each ht hd n hn)
theorem Szd.len {H : Type} {t e : TypeId} {elems spare : List (DataW H)} (h : Szd t (.slice elems spare)) (hu : Tryz.prog.underlying t = some (.slice e)) : (elems.length + spare.length) * Tryz.prog.bytesOf e ≤ 140737488351232 :=
  h _ (by simp only [DataW.weights, hu, List.mem_cons]; exact .inl trivial)
theorem Szd.str {H : Type} {t : TypeId} {l : List UInt8} (h : Szd (H := H) t (.lit (.string l))) : l.length ≤ 140737488351232 := h _ (by simp [DataW.weights])
theorem szd_arg {H : Type} {ts : List TypeId} {ds : List (DataW H)} (h : (DataW.weightsEach Tryz.prog ts ds).all (· ≤ reachBytes) = true) {j : Nat} {t : TypeId} {d : DataW H} (ht : ts[j]? = some t) (hd : ds[j]? = some d) : Szd t d := fun n hn => by
  have := List.all_eq_true.1 h n (DataW.weights_mem_each ht hd n hn)
  have h2 : n ≤ reachBytes := by simpa using this
  exact h2
theorem wf64 {n : Int} (h : (Lit.int .u64 n).wf = true) : 0 ≤ n ∧ n < 18446744073709551616 := by
  have : 0 ≤ n ∧ n ≤ 18446744073709551615 := by simpa [Lit.wf, IntKind.min, IntKind.max, IntKind.signed, IntKind.bits] using h
  exact ⟨this.1, by omega⟩

section
variable {H : Type} {enc : TypeId × Value → H} {W : World} {base b0 : Nat} {sp : Nat → Bool} {held : Bool} {r : Reach}
theorem open_strM {t : TypeId} {fuel : Nat} {c : Value} {x : DataW H × List MemPlace} (ht : Tryz.prog.underlying t = some .string) (h : DataW.trod enc Tryz.prog W base sp held fuel t [c] = some x) (hs : Szd t x.1) : ∃ s : ByteArray, c = .string s ∧ s.size ≤ 140737488351232 := by
  obtain ⟨s, e, hx, _⟩ := DataW.trod_string ht h
  refine ⟨s, one_val e, ?_⟩
  subst hx
  have h1 := hs.str
  rw [Array.length_toList] at h1
  exact h1
variable {P : Program} {w : World} {spare : Nat → Bool}
theorem trodAll_mfive {t0 t1 t2 t3 t4 : TypeId} {args : Array Value} {ds : List (DataW H)} {ps : List MemPlace} (h : DataW.TrodAll enc P w base spare held [t0, t1, t2, t3, t4] args.toList ds ps) :
    ∃ v0 v1 v2 v3 v4 d0 d1 d2 d3 d4 p0 p1 p2 p3 p4, args = #[v0, v1, v2, v3, v4] ∧ ds = [d0, d1, d2, d3, d4] ∧ ps = p0 ++ (p1 ++ (p2 ++ (p3 ++ p4))) ∧ DataW.Trod enc P w base spare held t0 v0 d0 p0 ∧ DataW.Trod enc P w base spare held t1 v1 d1 p1 ∧ DataW.Trod enc P w base spare held t2 v2 d2 p2 ∧ DataW.Trod enc P w base spare held t3 v3 d3 p3 ∧ DataW.Trod enc P w base spare held t4 v4 d4 p4 := by
  obtain ⟨v0, r0, d0, s0, p0, q0, hargs, rfl, rfl, h0, k0⟩ := trodAll_cons h
  obtain ⟨v1, r1, d1, s1, p1, q1, rfl, rfl, rfl, h1, k1⟩ := trodAll_cons k0
  obtain ⟨v2, r2, d2, s2, p2, q2, rfl, rfl, rfl, h2, k2⟩ := trodAll_cons k1
  obtain ⟨v3, r3, d3, s3, p3, q3, rfl, rfl, rfl, h3, k3⟩ := trodAll_cons k2
  obtain ⟨v4, r4, d4, s4, p4, q4, rfl, rfl, rfl, h4, k4⟩ := trodAll_cons k3
  obtain ⟨rfl, rfl, rfl⟩ := trodAll_nil k4
  refine ⟨v0, v1, v2, v3, v4, d0, d1, d2, d3, d4, p0, p1, p2, p3, p4, ?_, rfl, by simp, h0, h1, h2, h3, h4⟩
  cases args
  simp_all
theorem trodAll_mk5m {t0 t1 t2 t3 t4 : TypeId} {v0 v1 v2 v3 v4 : Value} {d0 d1 d2 d3 d4 : DataW H} {p0 p1 p2 p3 p4 : List MemPlace} (h0 : DataW.Trod enc P w base spare held t0 v0 d0 p0) (h1 : DataW.Trod enc P w base spare held t1 v1 d1 p1)
    (h2 : DataW.Trod enc P w base spare held t2 v2 d2 p2) (h3 : DataW.Trod enc P w base spare held t3 v3 d3 p3) (h4 : DataW.Trod enc P w base spare held t4 v4 d4 p4) :
    DataW.TrodAll enc P w base spare held [t0, t1, t2, t3, t4] [v0, v1, v2, v3, v4] [d0, d1, d2, d3, d4] (p0 ++ (p1 ++ (p2 ++ (p3 ++ p4)))) := ⟨p0, _, h0, trodAll_mk4 h1 h2 h3 h4, rfl⟩
end

end Go.Proofs.YtookbmpaoljelaaGreat

namespace Go.Proofs.YtookbmpaoljelaaGreat
open Go Go.RowKit Go.Joins Go.ChangeShapes Go.WideShapes Go.Deep
set_option linter.unusedVariables false
set_option linter.unusedSimpArgs false
set_option maxRecDepth 100000
set_option maxRecDepth 100000

section
variable {H : Type} {enc : TypeId × Value → H} {W : World} {base b0 : Nat} {sp : Nat → Bool} {held : Bool} {r : Reach}
theorem addr_plain {a : Addr} {v : Value} (h : W.cell? (a.add 0) = some v) : ∃ g off, a = ⟨g, off, none⟩ := by
  obtain ⟨b, off, spot⟩ := a
  have hspot : spot = none := by simpa [Addr.add] using World.cell?_spot h
  subst hspot
  exact ⟨b, off, rfl⟩
/-- A slice of elements that is handed in. -/
theorem open_sl {α : Type} [Cel α] [Inhabited α] {t e : TypeId} {bytes : Nat} (T : ElT α t e bytes) (hce : Tryz.prog.cellsOf e = Cel.size α) (hbe : Tryz.prog.bytesOf e = bytes) (ok : α → Prop)
    (one : ∀ {fuel : Nat} {cs : List Value} {x : DataW H × List MemPlace}, DataW.trod enc Tryz.prog W base sp held fuel e cs = some x → cs.length = Cel.size α → Szd e x.1 → ∃ z : α, cs = Cel.cells z ∧ ok z)
    {fuel : Nat} {cs : List Value} {x : DataW H × List MemPlace} (h : DataW.trod enc Tryz.prog W base sp held fuel t cs = some x) (hs : Szd t x.1) :
    ∃ (l : List α) (ao : Option Addr) (c : Nat), cs = [.slice ao l.length c] ∧ SlG W ao l ∧ (∀ a ∈ l, ok a) ∧ l.length * bytes ≤ 140737488351232 := by
  rcases Go.Deep.open_slice T.u h with ⟨rfl, _⟩ | ⟨a, len, cap, m, n, D, Pl, rfl, _, hl, hm, hmm, hx, hel⟩
  · exact ⟨[], none, 0, rfl, SlG.nil _ _, (fun a ha => by cases ha), by simp⟩
  · have hle : len ≤ m := by rw [hmm]; split <;> omega
    subst hx
    have each : ∀ i, i < len → ∃ z : α, (∃ g off, a = ⟨g, off, none⟩ ∧ ∀ j, j < Cel.size α → W.cell? ⟨g, off + i * Cel.size α + j, none⟩ = (Cel.cells z)[j]?) ∧ ok z := by
      intro i hi
      obtain ⟨cs', hc, ht⟩ := hel i (by omega)
      have hsD : Szd e (D i) := hs.elem T.u (List.mem_map.2 ⟨i, List.mem_range.2 hi, rfl⟩)
      obtain ⟨cs0, hc0, _⟩ := hel 0 (by omega)
      rw [hce] at hc hc0
      obtain ⟨_, hcl, hat⟩ := World.cells?_some hc
      obtain ⟨_, hcl0, hat0⟩ := World.cells?_some hc0
      have hp := Cel.pos (α := α)
      have z0 := (hat0 0 hp).trans (List.getElem?_eq_getElem (by omega))
      obtain ⟨g, off, rfl⟩ := addr_plain (by simpa using z0)
      obtain ⟨z, rfl, hz⟩ := one ht hcl hsD
      refine ⟨z, ⟨g, off, rfl, fun j hj => ?_⟩, hz⟩
      have h1 := hat j hj
      rw [Go.Deep.add_add, add_lit, ← Nat.add_assoc] at h1
      exact h1
    obtain ⟨F, hF⟩ := Go.Deep.choose_lt each
    have hb := hs.len T.u
    rw [hbe] at hb
    simp only [List.length_map, List.length_range] at hb
    have hml : len * bytes ≤ 140737488351232 := Nat.le_trans (Nat.mul_le_mul_right _ (by omega)) hb
    refine ⟨(List.range len).map F, some a, cap, by simp, fun j hj => ?_, fun z hz => ?_, by simpa using hml⟩
    · simp only [List.length_map, List.length_range] at hj
      have e1 : ((List.range len).map F).getD j default = F j := by simp [List.getD_eq_getElem?_getD, hj]
      rw [e1]
      obtain ⟨⟨g, off, rfl, h1⟩, _⟩ := hF j hj
      exact ⟨g, off, rfl, h1⟩
    · obtain ⟨i, hi, rfl⟩ := List.mem_map.1 hz
      exact (hF i (List.mem_range.1 hi)).2

theorem cEn : Tryz.prog.cellsOf 41 = 6 := by kernel_rfl
theorem bEn : Tryz.prog.bytesOf 41 = 72 := by kernel_rfl
theorem cMs : Tryz.prog.cellsOf 80 = 7 := by kernel_rfl
theorem bMs : Tryz.prog.bytesOf 80 = 72 := by kernel_rfl
theorem cNu : Tryz.prog.cellsOf 39 = 1 := by kernel_rfl
theorem bNu : Tryz.prog.bytesOf 39 = 8 := by kernel_rfl
theorem cSt : Tryz.prog.cellsOf 9 = 1 := by kernel_rfl
theorem bSt : Tryz.prog.bytesOf 9 = 16 := by kernel_rfl
theorem cHd : Tryz.prog.cellsOf 55 = 1 := by kernel_rfl
theorem bHd : Tryz.prog.bytesOf 55 = 24 := by kernel_rfl
theorem one_en {fuel : Nat} {cs : List Value} {x : DataW H × List MemPlace} (h : DataW.trod enc Tryz.prog W base sp held fuel 41 cs = some x) (hl : cs.length = 6) (hs : Szd 41 x.1) : ∃ z : En, cs = Cel.cells z ∧ NumW z.x := by
  match cs, hl with
  | [a, b, c, d, e, f], _ =>
    obtain ⟨xs, n, _, hx, _, hlen, hf⟩ := DataW.trod_struct Tryz.underlying41 h
    match xs, hlen with
    | [y0, y1, y2, y3, y4, y5], _ =>
      have c4 : Tryz.prog.cellsOf 4 = 1 := by kernel_rfl
      have c9 : Tryz.prog.cellsOf 9 = 1 := by kernel_rfl
      have c22 : Tryz.prog.cellsOf 39 = 1 := by kernel_rfl
      have h0 : DataW.trod enc Tryz.prog W base sp held n 9 (List.take (Tryz.prog.cellsOf 9) (List.drop 0 [a, b, c, d, e, f])) = some y0 := hf 0 _ rfl
      have h1 : DataW.trod enc Tryz.prog W base sp held n 4 (List.take (Tryz.prog.cellsOf 4) (List.drop 1 [a, b, c, d, e, f])) = some y1 := hf 1 _ rfl
      have h2 : DataW.trod enc Tryz.prog W base sp held n 9 (List.take (Tryz.prog.cellsOf 9) (List.drop 2 [a, b, c, d, e, f])) = some y2 := hf 2 _ rfl
      have h3 : DataW.trod enc Tryz.prog W base sp held n 39 (List.take (Tryz.prog.cellsOf 39) (List.drop 3 [a, b, c, d, e, f])) = some y3 := hf 3 _ rfl
      have h4 : DataW.trod enc Tryz.prog W base sp held n 4 (List.take (Tryz.prog.cellsOf 4) (List.drop 4 [a, b, c, d, e, f])) = some y4 := hf 4 _ rfl
      have h5 : DataW.trod enc Tryz.prog W base sp held n 9 (List.take (Tryz.prog.cellsOf 9) (List.drop 5 [a, b, c, d, e, f])) = some y5 := hf 5 _ rfl
      simp only [c4, c9, c22, List.drop_zero, List.drop_succ_cons, List.take_succ_cons, List.take_zero] at h0 h1 h2 h3 h4 h5
      obtain ⟨k, e0, _⟩ := DataW.trod_string Tryz.underlying9 h0
      obtain ⟨hh, e1, _⟩ := DataW.trod_bool Tryz.underlying4 h1
      obtain ⟨v, e2, _⟩ := DataW.trod_string Tryz.underlying9 h2
      obtain ⟨tx, e3, _, w3⟩ := DataW.trod_int Tryz.underlying39 h3
      obtain ⟨nn, e4, _⟩ := DataW.trod_bool Tryz.underlying4 h4
      obtain ⟨nv, e5, _⟩ := DataW.trod_string Tryz.underlying9 h5
      refine ⟨⟨k, hh, v, tx, nn, nv⟩, ?_, wf64 w3⟩
      rw [one_val e0, one_val e1, one_val e2, one_val e3, one_val e4, one_val e5]
      rfl
theorem one_ms {fuel : Nat} {cs : List Value} {x : DataW H × List MemPlace} (h : DataW.trod enc Tryz.prog W base sp held fuel 80 cs = some x) (hl : cs.length = 7) (hs : Szd 80 x.1) : ∃ z : Ms, cs = Cel.cells z ∧ MsW z := by
  match cs, hl with
  | [a, b, c, d, e, f, g], _ =>
    obtain ⟨xs, n, _, hx, _, hlen, hf⟩ := DataW.trod_struct Tryz.underlying80 h
    match xs, hlen with
    | [y0, y1, y2, y3, y4, y5, y6], _ =>
      have c3 : Tryz.prog.cellsOf 3 = 1 := by kernel_rfl
      have c9 : Tryz.prog.cellsOf 9 = 1 := by kernel_rfl
      have c22 : Tryz.prog.cellsOf 39 = 1 := by kernel_rfl
      have h0 : DataW.trod enc Tryz.prog W base sp held n 39 (List.take (Tryz.prog.cellsOf 39) (List.drop 0 [a, b, c, d, e, f, g])) = some y0 := hf 0 _ rfl
      have h1 : DataW.trod enc Tryz.prog W base sp held n 3 (List.take (Tryz.prog.cellsOf 3) (List.drop 1 [a, b, c, d, e, f, g])) = some y1 := hf 1 _ rfl
      have h2 : DataW.trod enc Tryz.prog W base sp held n 9 (List.take (Tryz.prog.cellsOf 9) (List.drop 2 [a, b, c, d, e, f, g])) = some y2 := hf 2 _ rfl
      have h3 : DataW.trod enc Tryz.prog W base sp held n 39 (List.take (Tryz.prog.cellsOf 39) (List.drop 3 [a, b, c, d, e, f, g])) = some y3 := hf 3 _ rfl
      have h4 : DataW.trod enc Tryz.prog W base sp held n 9 (List.take (Tryz.prog.cellsOf 9) (List.drop 4 [a, b, c, d, e, f, g])) = some y4 := hf 4 _ rfl
      have h5 : DataW.trod enc Tryz.prog W base sp held n 3 (List.take (Tryz.prog.cellsOf 3) (List.drop 5 [a, b, c, d, e, f, g])) = some y5 := hf 5 _ rfl
      have h6 : DataW.trod enc Tryz.prog W base sp held n 39 (List.take (Tryz.prog.cellsOf 39) (List.drop 6 [a, b, c, d, e, f, g])) = some y6 := hf 6 _ rfl
      simp only [c3, c9, c22, List.drop_zero, List.drop_succ_cons, List.take_succ_cons, List.take_zero] at h0 h1 h2 h3 h4 h5 h6
      obtain ⟨sq, e0, _, w0⟩ := DataW.trod_int Tryz.underlying39 h0
      obtain ⟨K, e1, _, _⟩ := DataW.trod_int Tryz.underlying3 h1
      obtain ⟨k, e2, _⟩ := DataW.trod_string Tryz.underlying9 h2
      obtain ⟨tx, e3, _, w3⟩ := DataW.trod_int Tryz.underlying39 h3
      obtain ⟨v, e4, _⟩ := DataW.trod_string Tryz.underlying9 h4
      obtain ⟨off, e5, _, _⟩ := DataW.trod_int Tryz.underlying3 h5
      obtain ⟨num, e6, _, w6⟩ := DataW.trod_int Tryz.underlying39 h6
      refine ⟨⟨sq, K, k, tx, v, off, num⟩, ?_, ⟨(wf64 w0).1, (wf64 w0).2, (wf64 w3).1, (wf64 w3).2, (wf64 w6).1, (wf64 w6).2⟩⟩
      rw [one_val e0, one_val e1, one_val e2, one_val e3, one_val e4, one_val e5, one_val e6]
      rfl
theorem one_nu {fuel : Nat} {cs : List Value} {x : DataW H × List MemPlace} (h : DataW.trod enc Tryz.prog W base sp held fuel 39 cs = some x) (hl : cs.length = 1) (hs : Szd 39 x.1) : ∃ z : Int, cs = Cel.cells z ∧ NumW z := by
  match cs, hl with
  | [a], _ =>
    obtain ⟨k, e, _, w0⟩ := DataW.trod_int Tryz.underlying39 h
    refine ⟨k, ?_, wf64 w0⟩
    rw [one_val e]
    rfl
theorem one_st {fuel : Nat} {cs : List Value} {x : DataW H × List MemPlace} (h : DataW.trod enc Tryz.prog W base sp held fuel 9 cs = some x) (hl : cs.length = 1) (hs : Szd 9 x.1) : ∃ z : ByteArray, cs = Cel.cells z ∧ True := by
  match cs, hl with
  | [a], _ =>
    obtain ⟨s, e, _⟩ := DataW.trod_string Tryz.underlying9 h
    refine ⟨s, ?_, trivial⟩
    rw [one_val e]
    rfl
/-- The head of a list of messages, and what lies behind it. -/
def HdOk (W : World) (h : Hd) : Prop := ∃ l : List Ms, h.n = l.length ∧ SlG W h.ao l ∧ (∀ m ∈ l, MsW m) ∧ l.length * 72 ≤ 140737488351232
theorem one_hd {fuel : Nat} {cs : List Value} {x : DataW H × List MemPlace} (h : DataW.trod enc Tryz.prog W base sp held fuel 55 cs = some x) (hl : cs.length = 1) (hs : Szd 55 x.1) : ∃ z : Hd, cs = Cel.cells z ∧ HdOk W z := by
  obtain ⟨l, ao, c, rfl, h1, h2, h3⟩ := open_sl elMs cMs bMs MsW one_ms h hs
  exact ⟨⟨ao, l.length, c⟩, rfl, l, rfl, h1, h2, h3⟩
theorem hds_lists {W : World} : ∀ {hs : List Hd}, (∀ h ∈ hs, HdOk W h) → ∃ bs : List (List Ms), bs.length = hs.length ∧ (∀ j, j < hs.length → (hs.getD j default).n = (bs.getD j default).length ∧ SlG W (hs.getD j default).ao (bs.getD j default) ∧ (bs.getD j default).length * 72 ≤ 140737488351232) ∧ ∀ l ∈ bs, ∀ m ∈ l, MsW m
  | [], _ => ⟨[], rfl, (fun j hj => by simp at hj), (fun l hl => by cases hl)⟩
  | h :: hs, ok => by
    obtain ⟨bs, e1, e2, e3⟩ := hds_lists (hs := hs) (fun x hx => ok x (by simp [hx]))
    obtain ⟨l, f1, f2, f3, f4⟩ := ok h (by simp)
    refine ⟨l :: bs, by simp [e1], fun j hj => ?_, fun x hx m hm => ?_⟩
    · cases j with
      | zero => exact ⟨f1, f2, f4⟩
      | succ j =>
        have := e2 j (by simpa using hj)
        simpa using this
    · rcases List.mem_cons.1 hx with rfl | hx
      · exact f3 m hm
      · exact e3 x hx m hm
theorem open_node {v : Value} {d : DataW H} {p : List MemPlace} (hv : Value.okWide Tryz.prog W r b0 30 v) (h : DataW.Trod enc Tryz.prog W base sp held 30 v d p) (hs : Szd 30 d) : ∃ (k : Nh) (n : Nd), v = ndv k n ∧ NdAt W k n ∧ NdW n := by
  obtain ⟨cs, rfl, hsz⟩ := okWide_struct Tryz.underlying30 hv
  obtain ⟨l⟩ := cs
  have c27 : Tryz.prog.cellsOf 30 = 5 := by kernel_rfl
  match l, hsz.trans c27 with
  | [a, b, c, d', e], _ =>
    obtain ⟨fuel, hf0⟩ := h
    have hf0 : DataW.trod enc Tryz.prog W base sp held fuel 30 [a, b, c, d', e] = some (d, p) := hf0
    obtain ⟨xs, n, _, hx, _, hlen, hf⟩ := DataW.trod_struct Tryz.underlying30 hf0
    match xs, hlen with
    | [y0, y1, y2, y3, y4], _ =>
      have c4 : Tryz.prog.cellsOf 4 = 1 := by kernel_rfl
      have ce : Tryz.prog.cellsOf 25 = 1 := by kernel_rfl
      have cp : Tryz.prog.cellsOf 26 = 1 := by kernel_rfl
      have ck : Tryz.prog.cellsOf 27 = 1 := by kernel_rfl
      have cb : Tryz.prog.cellsOf 28 = 1 := by kernel_rfl
      have h0 : DataW.trod enc Tryz.prog W base sp held n 4 (List.take (Tryz.prog.cellsOf 4) (List.drop 0 [a, b, c, d', e])) = some y0 := hf 0 _ rfl
      have h1 : DataW.trod enc Tryz.prog W base sp held n 25 (List.take (Tryz.prog.cellsOf 25) (List.drop 1 [a, b, c, d', e])) = some y1 := hf 1 _ rfl
      have h2 : DataW.trod enc Tryz.prog W base sp held n 26 (List.take (Tryz.prog.cellsOf 26) (List.drop 2 [a, b, c, d', e])) = some y2 := hf 2 _ rfl
      have h3 : DataW.trod enc Tryz.prog W base sp held n 27 (List.take (Tryz.prog.cellsOf 27) (List.drop 3 [a, b, c, d', e])) = some y3 := hf 3 _ rfl
      have h4 : DataW.trod enc Tryz.prog W base sp held n 28 (List.take (Tryz.prog.cellsOf 28) (List.drop 4 [a, b, c, d', e])) = some y4 := hf 4 _ rfl
      simp only [c4, ce, cp, ck, cb, List.drop_zero, List.drop_succ_cons, List.take_succ_cons, List.take_zero] at h0 h1 h2 h3 h4
      have hx2 : d = .agg [y0.1, y1.1, y2.1, y3.1, y4.1] := congrArg Prod.fst hx
      subst hx2
      obtain ⟨lf, e0, _⟩ := DataW.trod_bool Tryz.underlying4 h0
      obtain ⟨es, eo, ec, e1, s1, o1, b1⟩ := open_sl elEn cEn bEn (fun e => NumW e.x) one_en h1 (hs.part Tryz.underlying30 (j := 1) rfl rfl)
      obtain ⟨ps, po, pc, e2, s2, o2, b2⟩ := open_sl elSt cSt bSt (fun _ => True) one_st h2 (hs.part Tryz.underlying30 (j := 2) rfl rfl)
      obtain ⟨ks, ko, kc, e3, s3, o3, b3⟩ := open_sl elNu cNu bNu NumW one_nu h3 (hs.part Tryz.underlying30 (j := 3) rfl rfl)
      obtain ⟨hds, bo, bc, e4, s4, o4, b4⟩ := open_sl elHd cHd bHd (HdOk W) one_hd h4 (hs.part Tryz.underlying30 (j := 4) rfl rfl)
      obtain ⟨bs, f1, f2, f3⟩ := hds_lists o4
      rw [one_val e0, one_val e1, one_val e2, one_val e3, one_val e4, ← f1]
      refine ⟨⟨eo, ec, po, pc, ko, kc, bo, bc⟩, ⟨lf, es, ps, ks, bs⟩, rfl, ⟨s1, s2, s3, fun j hj => ?_, ?_, ?_, ?_, ?_⟩, ⟨o1, o3, f3⟩⟩
      · have hj2 : j < hds.length := by rw [← f1]; exact hj
        obtain ⟨g, off, q1, q2⟩ := s4.hd hj2
        obtain ⟨g1, g2, g3⟩ := f2 j hj2
        rw [g1] at q2
        exact ⟨g, off, _, _, q1, q2, g2, by show (bs.getD j default).length ≤ _; omega⟩
      · show es.length ≤ _; omega
      · show ps.length ≤ _; omega
      · show ks.length ≤ _; omega
      · show bs.length ≤ _; omega
end

end Go.Proofs.YtookbmpaoljelaaGreat

namespace Go.Proofs.YtookbmpaoljelaaGreat
open Go Go.ChangeShapes Go.WideShapes Go.ChangeAt Go.ChangeMaps Go.RowKit
set_option linter.unusedVariables false
set_option linter.unusedSimpArgs false
set_option maxRecDepth 100000

theorem open_bytesF {H : Type} {enc : TypeId × Value → H} {W : World} {base : Nat} {v : Value} {d : DataW H} {ps : List MemPlace}
    (hok : Value.okWide Tryz.prog W .any base 22 v) (h : DataW.Trod enc Tryz.prog W 0 (fun _ => true) true 22 v d ps) (hs : Szd 22 d) :
    ∃ bs : List UInt8, RI.SlF W v bs ∧ bs.length ≤ 140737488351232 := by
  obtain ⟨a0, len, cap, rfl⟩ := okWide_slice Tryz.underlying22 hok
  have c1 : Tryz.prog.cellsOf 5 = 1 := by kernel_rfl
  have b1 : Tryz.prog.bytesOf 5 = 1 := by kernel_rfl
  obtain ⟨fuel, hf⟩ := h
  rcases open_ints Tryz.underlying22 Tryz.underlying5 c1 hf with ⟨hcs, hx⟩ | ⟨a, len', cap', zs, hcs, _, hl, hm, hz, hx, hcell, hwz⟩
  · simp [Value.cells] at hcs
    obtain ⟨rfl, rfl, rfl⟩ := hcs
    exact ⟨[], ⟨.inl ⟨rfl, rfl⟩, none, 0, rfl, Nat.le_refl _⟩, Nat.zero_le _⟩
  · simp [Value.cells] at hcs
    obtain ⟨rfl, rfl, rfl⟩ := hcs
    simp only [Prod.mk.injEq] at hx
    obtain ⟨rfl, rfl⟩ := hx
    simp only [if_true] at hz
    have hbl : ((zs.take len).map fun z => UInt8.ofNat z.toNat).length = len := by simp; omega
    refine ⟨(zs.take len).map fun z => UInt8.ofNat z.toNat, ⟨.inr ⟨a, cap, by rw [hbl], fun j hj => ?_⟩, some a, cap, by rw [hbl], by rw [hbl]; exact hl⟩, ?_⟩
    · rw [hbl] at hj
      rw [hcell j (by omega)]
      have hjz : j < zs.length := by omega
      have hw := hwz zs[j] (List.getElem_mem hjz)
      have hb : 0 ≤ zs[j] ∧ zs[j] ≤ 255 := by simpa [Lit.wf, IntKind.min, IntKind.max, IntKind.signed, IntKind.bits] using hw
      have e1 : zs.getD j 0 = zs[j] := by simp [hjz]
      have e2 : ((zs.take len).map fun z => UInt8.ofNat z.toNat).getD j 0 = UInt8.ofNat (zs[j]).toNat := by
        simp [List.getD_eq_getElem?_getD, hj, hjz]
      rw [e1, e2]
      congr 2
      simp
      omega
    · have h1 := hs.len Tryz.underlying22
      rw [b1] at h1
      rw [hbl]
      simp [lits] at h1
      omega

theorem nreads_contract (H : Type) (enc : TypeId × Value → H) (W : World) (base : Nat) (args : Array Value) (ds gs : List (DataW H)) (before : List MemPlace)
    (hval : ∀ (j : Nat) t v, Tryz.f3.params[j]? = some t → args[j]? = some v → Value.okWide Tryz.prog W .any base t v)
    (hW : DataW.Whole enc Tryz.prog Tryz.f3.params.toList Rows.nodeReadsSpec.vars false W args.toList ds gs before)
    (hsz : (DataW.weightsEach Tryz.prog (Tryz.f3.params.toList ++ Rows.nodeReadsSpec.plain.varTypes Tryz.prog) (ds ++ gs)).all (· ≤ reachBytes) = true) :
    Calls Tryz.prog 3 args W fun e W' => ∃ v, e = .returned v ∧ Rows.nodeReadsSpec.post enc Tryz.prog Tryz.f3 false true false false W args v W' := by
  have hW' := hW
  obtain ⟨p, q, hA0, hV, rfl, _, _⟩ := hW
  have hA : DataW.TrodAll enc Tryz.prog W 0 (fun _ => true) true Tryz.f3.params.toList args.toList ds p := hA0
  rw [Tryz.params3] at hA hval hsz
  obtain ⟨v0, d0, rfl, rfl, h0⟩ := trodAll_one hA
  obtain ⟨rfl, rfl⟩ := trodVars_none hV
  clear hA0
  simp only [List.append_nil] at hW'
  obtain ⟨l0, hx0, hl0⟩ := open_bytesF (hval 0 22 v0 rfl rfl) h0 (szd_arg hsz (j := 0) rfl rfl)
  refine (nreads_walk v0 l0 W hx0 hl0).mono fun e W' ⟨he, hn⟩ => ?_
  subst he
  refine ⟨_, rfl, _, _, _, [], p, [], hW', trodAll_mk1 (shut_bool Tryz.underlying4 _), trodAll_mk1 ?_, rfl, hn.frame _, fun h => by cases h⟩
  · exact Below.trod mlaid0 (by kernel_rfl) (of_decide_eq_true (by kernel_rfl)) h0 hn (fun x hx => hW'.lt x (by simpa using hx))

set_option maxRecDepth 100000 in
theorem nreads_lifted (os : Os) (started : os.Started) (H : Type) (enc : TypeId × Value → H) :
    ReturnsInHanded {} Tryz.checked os 3 .any (Rows.nodeReadsSpec.pre6 enc Tryz.prog Tryz.f3 Rows.nodeReadsRow.domain false) (Rows.nodeReadsSpec.post enc Tryz.prog Tryz.f3 false true false false) := by
  refine returnsInHanded_of_change_sized (C := Tryz.checked) mown0 started (by kernel_rfl) Tryz.func3
    (ChangeSpec.witness6 (enc := enc) (C := Tryz.checked) false ⟨#[], #[.slice none 0 0], []⟩ 8 (by kernel_rfl) (by kernel_rfl) (by kernel_rfl) (by kernel_rfl)) ?_
  intro W base args ds gs before hval hW _ hsz _
  exact nreads_contract H enc W base args ds gs before hval hW hsz

theorem nreads_holds : Rows.NodeReadsSaid :=
  OpenClaim.holds_of_wide 3 Tryz.f3 rfl rfl rfl rfl rfl rfl rfl ⟨rfl, rfl, rfl, rfl, rfl⟩ rfl rfl rfl rfl rfl (by kernel_rfl) Tryz.func3 (by kernel_rfl)
    (of_decide_eq_true (by kernel_rfl)) (by unfold Func.isWrapper; first | (rw [if_pos (by decide +kernel)]; kernel_rfl) | (rw [if_neg (by decide +kernel)]; exact ⟨rfl, rfl⟩))
    (fun os started H enc _ => nreads_lifted os started H enc)

end Go.Proofs.YtookbmpaoljelaaGreat
