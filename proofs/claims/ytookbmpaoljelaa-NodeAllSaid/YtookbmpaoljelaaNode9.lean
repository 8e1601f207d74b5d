/-
  Package node: putter.node, Encode.
-/
import Derived.Test.YtookbmpaoljelaaNode8
import Derived.Test.YtookbmpaoljelaaNode6
namespace Go.Proofs.Ytookbmpaoljelaa
open Go Go.RowKit
set_option linter.unusedVariables false
set_option linter.unusedSimpArgs false
set_option maxRecDepth 100000

/-! ### What is known of a right node -/
theorem entry_fit {e : En} (h : entryB e = true) (hx : NumW e.x) : EnF e := by
  unfold entryB at h
  simp only [Bool.and_eq_true, decide_eq_true_eq] at h
  obtain ⟨⟨⟨⟨⟨⟨h1, h2⟩, h3⟩, _⟩, _⟩, _⟩, _⟩ := h
  exact ⟨by omega, h2, h3, hx⟩
theorem check_fit {m : Ms} (h : checkE m = 0) (hw : MsW m) : MsF m := by
  rw [checkE_eq] at h
  by_cases h1 : m.K < 1 ∨ 6 < m.K
  · rw [if_pos h1] at h; cases h
  rw [if_neg h1] at h
  by_cases h2 : 256 < m.k.size ∨ 512 < m.v.size
  · rw [if_pos h2] at h; cases h
  rw [if_neg h2] at h
  by_cases h3 : fieldB m = true
  rotate_left
  · rw [if_neg h3] at h; cases h
  have ho : 0 ≤ m.off ∧ m.off < 65536 := by
    unfold fieldB at h3
    split at h3
    · have := of_decide_eq_true h3; omega
    · split at h3
      · have := of_decide_eq_true h3; omega
      · split at h3
        · have := of_decide_eq_true h3; omega
        · split at h3
          · have := of_decide_eq_true h3; omega
          · have := of_decide_eq_true h3; omega
  exact ⟨by omega, by omega, hw, by omega, by omega, ho.1, ho.2⟩
structure LeafF (n : Nd) : Prop where
  e : ∀ e ∈ n.es, EnF e
  l : n.es.length ≤ 255
  p : n.ps.length = 0
  k : n.ks.length = 0
  b : n.bs.length = 0
structure InnF (n : Nd) : Prop where
  k : ∀ k ∈ n.ks, NumW k
  p : ∀ p ∈ n.ps, p.size ≤ 512
  m : ∀ l ∈ n.bs, ∀ m ∈ l, MsF m
  l : ∀ l ∈ n.bs, l.length ≤ 1024
  lk : n.ks.length ≤ 64
  lp : n.ps.length ≤ 64
  lb : n.bs.length ≤ 64
  le : n.es.length = 0
theorem leaf_fit {n : Nd} (h : leafB n = true) (hw : NdW n) : LeafF n := by
  unfold leafB at h
  simp only [Bool.and_eq_true, decide_eq_true_eq] at h
  obtain ⟨⟨⟨⟨⟨h1, h2⟩, h3⟩, h4⟩, _⟩, h6⟩ := h
  rw [List.all_eq_true] at h6
  exact ⟨fun e he => entry_fit (h6 e he) (hw.e e he), h4, h1, h2, h3⟩
theorem mem_wait {l : List Ms} : ∀ {bs : List (List Ms)}, l ∈ bs → l.length ≤ waitN bs
  | [], h => by cases h
  | x :: r, h => by
    have e : waitN (x :: r) = x.length + waitN r := by simp [waitN]
    rw [e]
    rcases List.mem_cons.1 h with rfl | h
    · omega
    · have := mem_wait h
      omega
theorem inner_fit {n : Nd} (h : innerB n = true) (hw : NdW n) : InnF n := by
  unfold innerB at h
  simp only [Bool.and_eq_true, decide_eq_true_eq] at h
  obtain ⟨⟨⟨⟨⟨h1, h2⟩, h3⟩, h4⟩, h5⟩, h6⟩ := h
  obtain ⟨b1, b2, b3, b4, b5⟩ := shape_yes h1
  rw [List.all_eq_true] at h4
  rw [bufs_iff] at h6
  refine ⟨hw.k, fun p hp => ?_, fun l hl m hm => ?_, fun l hl => ?_, b2, by omega, by omega, b5⟩
  · have := of_decide_eq_true (h4 p hp); omega
  · obtain ⟨i, hi, rfl⟩ := List.mem_iff_getElem.1 hl
    have h7 := h6 i hi
    rw [show n.bs.getD i default = n.bs[i] by simp [hi]] at h7
    unfold bufB at h7
    rw [Bool.and_eq_true, List.all_eq_true] at h7
    have h8 := h7.2 m hm
    unfold waitB at h8
    rw [Bool.and_eq_true, decide_eq_true_eq] at h8
    exact check_fit h8.1 (hw.m _ hl m hm)
  · have := mem_wait hl
    omega
theorem encLeaf_eq {n : Nd} (h : n.leaf = true) : encN n = flagB true ++ (beB 2 n.es.length ++ n.es.flatMap encE) := by unfold encN; rw [h]; rfl
theorem encInner_eq {n : Nd} (h : n.leaf = false) : encN n = flagB false ++ (beB 2 n.ks.length ++ (n.ks.flatMap encK ++ (n.ps.flatMap encP ++ n.bs.flatMap encL))) := by unfold encN; rw [h]; rfl
theorem encN_len {n : Nd} (h : rightB n = true) (hw : NdW n) : (encN n).length ≤ 110000000 := by
  unfold rightB at h
  cases hl : n.leaf with
  | true =>
    rw [hl, if_pos rfl] at h
    have hf := leaf_fit h hw
    have h1 := flat_len (f := encE) n.es (fun e he => encE_len (hf.e e he))
    have h2 := hf.l
    rw [encLeaf_eq hl]
    simp only [List.length_append, beB_length, flagB_len]
    omega
  | false =>
    rw [hl, if_neg (by decide)] at h
    have hf := inner_fit h hw
    have h1 := flat_len (f := encK) n.ks (fun e he => encK_len (hf.k e he))
    have h2 := flat_len (f := encP) n.ps (fun e he => encP_len (hf.p e he))
    have h3 := flat_len (f := encL) n.bs (fun e he => encL_len (hf.m e he) (hf.l e he))
    have h4 := hf.lk
    have h5 := hf.lp
    have h6 := hf.lb
    rw [encInner_eq hl]
    simp only [List.length_append, beB_length, flagB_len]
    omega

/-! ### Laying a node -/
abbrev NodB (b : Nat) (h : Nh) (n : Nd) : Res := Blk b (.cells (ndc h n) 27 (0, 0))
theorem nod_cells {w : World} {b : Nat} {h : Nh} {n : Nd} (H : w.heap[b]? = some (.cells (ndc h n) 27 (0, 0))) : w.cell? ⟨b, 0, none⟩ = some (.bool n.leaf) ∧ w.cell? ⟨b, 1, none⟩ = some (.slice h.eo n.es.length h.ec) ∧ w.cell? ⟨b, 2, none⟩ = some (.slice h.po n.ps.length h.pc) ∧
    w.cell? ⟨b, 3, none⟩ = some (.slice h.ko n.ks.length h.kc) ∧ w.cell? ⟨b, 4, none⟩ = some (.slice h.bo n.bs.length h.bc) := by
  simp [World.cell?, H]
theorem Own.blk1 {w0 w : World} {k : Nat} {o : Obj} (h : Own w0 w (Blk k o)) : w.heap[k]? = some o := by
  obtain ⟨F, h1, _⟩ := h
  exact h1.1
set_option maxHeartbeats 4000000 in
theorem pnode_any {w0 w : World} {p : Nat} {J : Res} [Stab J] (h : Own w0 w (Sep (OutR p []) J)) (H : Nh) (n : Nd) (hn : NdAt w0 H n) (hr : rightB n = true) (hw : NdW n) :
    Calls Try.prog 21 #[putv p, ndv H n] w fun r w' => r = .returned (.tuple #[]) ∧ Own w0 w' (Sep (OutR p (encN n)) J) := by
  have HND := Lib.hid hn
  have H0 := Lib.hid (((h.alloc (.cells #[.pointer (some ⟨p, 0, none⟩)] 52)).alloc (.cells (ndc H n) 27)).ac (by ac_rfl) : Own w0 ((w.alloc (.cells #[.pointer (some ⟨p, 0, none⟩)] 52)).alloc (.cells (ndc H n) 27)) (Sep (OutR p []) (Sep (Blk w.heap.size (.cells #[.pointer (some ⟨p, 0, none⟩)] 52 (0, 0))) (Sep (Blk (w.alloc (.cells #[.pointer (some ⟨p, 0, none⟩)] 52)).heap.size (.cells (ndc H n) 27 (0, 0))) J))))
  rw [World.size_alloc] at H0
  obtain ⟨E, hE⟩ : ∃ E, encN n = E := ⟨_, rfl⟩
  rw [hE]
  have HE := Lib.hid hE
  clear h hE hn
  have ha := blk_cell H0.out.snd.held 0 rfl
  obtain ⟨c0, c1, c2, c3, c4⟩ := nod_cells H0.out.snd.snd.held
  unfold rightB at hr
  cases hl : n.leaf with
  | true =>
    rw [hl, if_pos rfl] at hr
    have HF := Lib.hid (leaf_fit hr hw)
    have HLF := Lib.hid hl
    obtain ⟨q, hq⟩ : ∃ q, q = n.es.length := ⟨_, rfl⟩
    have hq255 : q ≤ 255 := by rw [hq]; exact HF.out.l
    have HQ := Lib.hid hq
    rw [hl] at c0
    rw [← hq] at c1
    clear hr hw hl hq c2 c3 c4
    go_enter Try.func21, Try.ntmps21
    go_wp2_with fail
    refine (own_outFlag H0.out true (by simp)).mono ?_
    rintro r w1 ⟨rfl, h1⟩
    have H1 := Lib.hid h1
    clear h1 H0 ha c0 c1
    have ha := blk_cell H1.out.snd.held 0 rfl
    obtain ⟨c0, c1, c2, c3, c4⟩ := nod_cells H1.out.snd.snd.held
    rw [HLF.out] at c0
    rw [← HQ.out] at c1
    clear c2 c3 c4
    go_wp2_with fail
    refine (pcount_any H1.out q (by omega) (by simp [flagB])).mono ?_
    rintro r w2 ⟨rfl, h2⟩
    have H2 := Lib.hid h2
    clear h2 H1 ha c0 c1
    have ha := blk_cell H2.out.snd.held 0 rfl
    obtain ⟨c0, c1, c2, c3, c4⟩ := nod_cells H2.out.snd.snd.held
    rw [← HQ.out] at c1
    clear c2 c3 c4 c0
    go_wp2_with fail
    refine (each_e H2.out H.eo q H.ec n.es HND.out.e HQ.out HF.out.e (by omega) (by simp [flagB, beB_length])).mono ?_
    rintro r w3 ⟨rfl, h3⟩
    have H3 := Lib.hid h3.drop2.drop2
    clear h3 H2 ha c1
    go_wp2_with fail
    refine bodyPost_ret (v := .tuple #[]) (results_none rfl _ _ _) rfl (And.intro rfl ?_)
    have := H3.out
    rw [← HE.out, encLeaf_eq HLF.out, ← HQ.out]
    simpa using this
  | false =>
    rw [hl, if_neg (by decide)] at hr
    have HF := Lib.hid (inner_fit hr hw)
    have HLF := Lib.hid hl
    obtain ⟨q, hq⟩ : ∃ q, q = n.ks.length := ⟨_, rfl⟩
    obtain ⟨qp, hqp⟩ : ∃ q, q = n.ps.length := ⟨_, rfl⟩
    obtain ⟨qb, hqb⟩ : ∃ q, q = n.bs.length := ⟨_, rfl⟩
    have hq64 : q ≤ 64 := by rw [hq]; exact HF.out.lk
    have hp64 : qp ≤ 64 := by rw [hqp]; exact HF.out.lp
    have hb64 : qb ≤ 64 := by rw [hqb]; exact HF.out.lb
    have HQ := Lib.hid hq
    have HQP := Lib.hid hqp
    have HQB := Lib.hid hqb
    rw [hl] at c0
    clear hr hw hl hq hqp hqb c1 c2 c3 c4
    go_enter Try.func21, Try.ntmps21
    go_wp2_with fail
    refine (own_outFlag H0.out false (by simp)).mono ?_
    rintro r w1 ⟨rfl, h1⟩
    have H1 := Lib.hid h1
    clear h1 H0 ha c0
    have ha := blk_cell H1.out.snd.held 0 rfl
    obtain ⟨c0, c1, c2, c3, c4⟩ := nod_cells H1.out.snd.snd.held
    rw [HLF.out] at c0
    rw [← HQ.out] at c3
    clear c2 c1 c4
    go_wp2_with fail
    refine (pcount_any H1.out q (by omega) (by simp [flagB])).mono ?_
    rintro r w2 ⟨rfl, h2⟩
    have H2 := Lib.hid h2
    clear h2 H1 ha c0 c3
    have ha := blk_cell H2.out.snd.held 0 rfl
    obtain ⟨c0, c1, c2, c3, c4⟩ := nod_cells H2.out.snd.snd.held
    rw [← HQ.out] at c3
    clear c2 c1 c4 c0
    go_wp2_with fail
    refine (each_k H2.out H.ko q H.kc n.ks HND.out.k HQ.out HF.out.k (by omega) (by simp [flagB, beB_length])).mono ?_
    rintro r w3 ⟨rfl, h3⟩
    have HX3 : Hid (([] ++ flagB false ++ beB 2 q ++ n.ks.flatMap encK).length ≤ 200000) := Lib.hid (by
      have h1 := flat_len (f := encK) n.ks (fun e he => encK_len (HF.out.k e he))
      have h2 := HQ.out
      simp only [List.length_append, beB_length, flagB_len, List.length_nil]
      omega)
    obtain ⟨x3, hx3⟩ : ∃ x, [] ++ flagB false ++ beB 2 q ++ n.ks.flatMap encK = x := ⟨_, rfl⟩
    rw [hx3] at h3 HX3
    have H3 := Lib.hid h3
    have HY3 := Lib.hid hx3
    clear h3 H2 ha c3 hx3
    have ha := blk_cell H3.out.snd.held 0 rfl
    obtain ⟨c0, c1, c2, c3, c4⟩ := nod_cells H3.out.snd.snd.held
    rw [← HQP.out] at c2
    clear c0 c1 c3 c4
    go_wp2_with fail
    refine (each_p H3.out H.po qp H.pc n.ps HND.out.p HQP.out HF.out.p (by omega) (by have := HX3.out; omega)).mono ?_
    rintro r w4 ⟨rfl, h4⟩
    have HX4 : Hid ((x3 ++ n.ps.flatMap encP).length ≤ 400000) := Lib.hid (by
      have h1 := flat_len (f := encP) n.ps (fun e he => encP_len (HF.out.p e he))
      have h2 := HQP.out
      have h3 := HX3.out
      rw [List.length_append]
      omega)
    obtain ⟨x4, hx4⟩ : ∃ x, x3 ++ n.ps.flatMap encP = x := ⟨_, rfl⟩
    rw [hx4] at h4 HX4
    have H4 := Lib.hid h4
    have HY4 := Lib.hid hx4
    clear h4 H3 ha c2 hx4 HX3
    have ha := blk_cell H4.out.snd.held 0 rfl
    obtain ⟨c0, c1, c2, c3, c4⟩ := nod_cells H4.out.snd.snd.held
    rw [← HQB.out] at c4
    clear c0 c1 c2 c3
    go_wp2_with fail
    refine (each_l H4.out H.bo qb H.bc n.bs HND.out.b HQB.out HF.out.m HF.out.l (by omega) (by have := HX4.out; omega)).mono ?_
    rintro r w5 ⟨rfl, h5⟩
    have H5 := Lib.hid h5.drop2.drop2
    clear h5 H4 ha c4
    go_wp2_with fail
    refine bodyPost_end (results_none rfl _ _ _) rfl ⟨rfl, ?_⟩
    have := H5.out
    rw [← HE.out, encInner_eq HLF.out, ← HQ.out]
    rw [← HY4.out, ← HY3.out] at this
    simpa using this

/-- What Encode answers. -/
def encErr (n : Nd) : Int := if rightB n = true then (if 32768 < (encN n).length then 7 else 0) else 1
def encOut (n : Nd) : List UInt8 := if encErr n = 0 then encN n else []
def EncPost (w : World) (n : Nd) (e : Ending) (w' : World) : Prop := ∃ v, e = .returned (.tuple #[v, .int .i64 (encErr n)]) ∧ Own w w' (RowV 5 1 v (encOut n).length (u8s (encOut n)))
theorem enc_post_no {w w' : World} {n : Nd} {er : Int} (h : encErr n = er) (h0 : er ≠ 0) (ho : Only (fun _ => False) w w') : EncPost w n (.returned (.tuple #[.slice none 0 0, .int .i64 er])) w' := by
  refine ⟨_, by rw [h], ?_⟩
  unfold encOut
  rw [h, if_neg h0]
  exact ⟨fun _ => False, RowV.nil _ _ _, (fun k hk => hk.elim), ho⟩
set_option maxHeartbeats 2000000 in
theorem encode_any (h : Nh) (n : Nd) (w : World) (H : NdAt w h n) (hw : NdW n) : Calls Try.prog 8 #[ndv h n] w (EncPost w n) := by
  have HS := Lib.hid (NbAt.start H)
  have HR := Lib.hid (right_any h n _ HS.out.nd)
  obtain ⟨c0, c1, c2, c3, c4⟩ := HS.out.cells
  cases hr : rightB n with
  | false =>
    rw [hr] at HR
    have HE : Hid (encErr n = 1) := Lib.hid (by unfold encErr; rw [hr]; rfl)
    clear hr
    go_enter Try.func8, Try.ntmps8
    go_wp2_with fail
    refine HR.out.mono ?_
    rintro e w1 ⟨rfl, ho⟩
    have HO := Lib.hid (HS.out.keep ho)
    clear ho HR
    go_wp2_with fail
    go_ret2
    exact enc_post_no HE.out (by decide) HO.out.only
  | true =>
    have HL := Lib.hid (encN_len hr hw)
    have HRT := Lib.hid hr
    have HND := Lib.hid H
    rw [hr] at HR
    clear hr
    go_enter Try.func8, Try.ntmps8
    go_wp2_with fail
    refine HR.out.mono ?_
    rintro e w1 ⟨rfl, ho⟩
    have HO := Lib.hid (HS.out.keep ho)
    clear ho HR c0 c1 c2 c3 c4
    have hk : Own w w1 (Blk w.heap.size (.cells (ndc h n) 27 (0, 0))) := ⟨fun k => k = w.heap.size, ⟨HO.out.blk, fun k => Iff.rfl⟩, fun k e => by omega, HO.out.only⟩
    have H2 := Lib.hid (((own_outnew hk).alloc (.cells #[.pointer (some ⟨w1.heap.size, 0, none⟩)] 52)).ac (by ac_rfl) : Own w ((w1.alloc (.cells #[.slice none 0 0] 50)).alloc (.cells #[.pointer (some ⟨w1.heap.size, 0, none⟩)] 52)) (Sep (OutR w1.heap.size []) (Sep (Blk (w1.alloc (.cells #[.slice none 0 0] 50)).heap.size (.cells #[.pointer (some ⟨w1.heap.size, 0, none⟩)] 52 (0, 0))) (Blk w.heap.size (.cells (ndc h n) 27 (0, 0))))))
    rw [World.size_alloc] at H2
    have HPN := Lib.hid (pnode_any H2.out h n HND.out HRT.out hw)
    obtain ⟨c0, c1, c2, c3, c4⟩ := nod_cells H2.out.snd.snd.blk1
    have ha := blk_cell H2.out.snd.held 0 rfl
    have HEN : Hid (encErr n = if 32768 < (encN n).length then 7 else 0) := Lib.hid (by unfold encErr; rw [if_pos HRT.out])
    have hlen : (encN n).length ≤ 110000000 := HL.out
    obtain ⟨E, hE⟩ : ∃ E, encN n = E := ⟨_, rfl⟩
    have HEE := Lib.hid hE
    rw [hE] at HPN HEN hlen
    clear hE H hw hk HL
    go_wp2_with fail
    refine HPN.out.mono ?_
    rintro r w3 ⟨rfl, h3⟩
    have H3 := Lib.hid h3
    clear h3 HPN H2 ha c0 c1 c2 c3 c4
    have ha := blk_cell H3.out.snd.held 0 rfl
    go_wp2_with fail
    refine (own_outBytes H3.out (by omega)).mono ?_
    rintro r w4 ⟨v, rfl, h4⟩
    obtain ⟨ao, cap, rfl⟩ := own_shapeN h4.owns
    obtain ⟨m, hm⟩ : ∃ m, E.length = m := ⟨_, rfl⟩
    rw [hm] at hlen
    have H4 := Lib.hid h4.fst
    have HM := Lib.hid hm
    have HO4 := Lib.hid h4.only
    rw [hm]
    rw [hm] at HEN
    clear h4 H3 ha hm
    by_cases hb : 32768 < m
    · have hI : (32768 : Int) < (m : Int) := by omega
      have HE7 : Hid (encErr n = 7) := Lib.hid (by rw [HEN.out, if_pos hb])
      clear hb
      go_wp2_with fail
      go_ret2
      exact enc_post_no HE7.out (by decide) HO4.out
    · have hI : ¬ (32768 : Int) < (m : Int) := by omega
      have HE0 : Hid (encErr n = 0) := Lib.hid (by rw [HEN.out, if_neg hb])
      clear hb
      go_wp2_with fail
      go_ret2
      refine ⟨.slice ao m cap, by rw [HE0.out]; rfl, ?_⟩
      unfold encOut
      rw [if_pos HE0.out, HEE.out, HM.out]
      have := H4.out
      rwa [HM.out] at this

end Go.Proofs.Ytookbmpaoljelaa
