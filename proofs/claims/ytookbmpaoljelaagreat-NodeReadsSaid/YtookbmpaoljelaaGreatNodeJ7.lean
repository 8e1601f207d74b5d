/-
  Joined: Node9 NodeQ5 NodeQ6 NodeRaw NodeSt2 NodeSt3.
-/
import Derived.Test.YtookbmpaoljelaaGreatNodeJ6

namespace Go.Proofs.YtookbmpaoljelaaGreat
open Go Go.RowKit
set_option linter.unusedVariables false
set_option linter.unusedSimpArgs false
set_option maxRecDepth 100000
set_option linter.unusedSimpArgs false
set_option maxRecDepth 100000

/-! ### What is known of a right node -/
theorem entry_fit {e : En} (h : entryB e = true) (hx : NumW e.x) : EnF e := by
  unfold entryB at h
  simp only [Bool.and_eq_true, decide_eq_true_eq] at h
  obtain ⟨⟨⟨⟨⟨⟨h1, h2⟩, h3⟩, _⟩, _⟩, _⟩, _⟩ := h
  exact ⟨by omega, h2, h3, hx⟩
theorem check_fit {m : Ms} (h : checkE m = 0) (hw : MsW m) : MsF m := by
  rw [checkE_eq] at h
  by_cases h1 : m.K < 1 ∨ 6 < m.K
  · rw [if_pos h1] at h; cases h
  rw [if_neg h1] at h
  by_cases h2 : 256 < m.k.size ∨ 512 < m.v.size
  · rw [if_pos h2] at h; cases h
  rw [if_neg h2] at h
  by_cases h3 : fieldB m = true
  rotate_left
  · rw [if_neg h3] at h; cases h
  have ho : 0 ≤ m.off ∧ m.off < 65536 := by
    unfold fieldB at h3
    split at h3
    · have := of_decide_eq_true h3; omega
    · split at h3
      · have := of_decide_eq_true h3; omega
      · split at h3
        · have := of_decide_eq_true h3; omega
        · split at h3
          · have := of_decide_eq_true h3; omega
          · have := of_decide_eq_true h3; omega
  exact ⟨by omega, by omega, hw, by omega, by omega, ho.1, ho.2⟩
structure LeafF (n : Nd) : Prop where
  e : ∀ e ∈ n.es, EnF e
  l : n.es.length ≤ 255
  p : n.ps.length = 0
  k : n.ks.length = 0
  b : n.bs.length = 0
structure InnF (n : Nd) : Prop where
  k : ∀ k ∈ n.ks, NumW k
  p : ∀ p ∈ n.ps, p.size ≤ 512
  m : ∀ l ∈ n.bs, ∀ m ∈ l, MsF m
  l : ∀ l ∈ n.bs, l.length ≤ 1024
  lk : n.ks.length ≤ 64
  lp : n.ps.length ≤ 64
  lb : n.bs.length ≤ 64
  le : n.es.length = 0
theorem leaf_fit {n : Nd} (h : leafB n = true) (hw : NdW n) : LeafF n := by
  unfold leafB at h
  simp only [Bool.and_eq_true, decide_eq_true_eq] at h
  obtain ⟨⟨⟨⟨⟨h1, h2⟩, h3⟩, h4⟩, _⟩, h6⟩ := h
  rw [List.all_eq_true] at h6
  exact ⟨fun e he => entry_fit (h6 e he) (hw.e e he), h4, h1, h2, h3⟩
theorem mem_wait {l : List Ms} : ∀ {bs : List (List Ms)}, l ∈ bs → l.length ≤ waitN bs
  | [], h => by cases h
  | x :: r, h => by
    have e : waitN (x :: r) = x.length + waitN r := by simp [waitN]
    rw [e]
    rcases List.mem_cons.1 h with rfl | h
    · omega
    · have := mem_wait h
      omega
theorem inner_fit {n : Nd} (h : innerB n = true) (hw : NdW n) : InnF n := by
  unfold innerB at h
  simp only [Bool.and_eq_true, decide_eq_true_eq] at h
  obtain ⟨⟨⟨⟨⟨h1, h2⟩, h3⟩, h4⟩, h5⟩, h6⟩ := h
  obtain ⟨b1, b2, b3, b4, b5⟩ := shape_yes h1
  rw [List.all_eq_true] at h4
  rw [bufs_iff] at h6
  refine ⟨hw.k, fun p hp => ?_, fun l hl m hm => ?_, fun l hl => ?_, b2, by omega, by omega, b5⟩
  · have := of_decide_eq_true (h4 p hp); omega
  · obtain ⟨i, hi, rfl⟩ := List.mem_iff_getElem.1 hl
    have h7 := h6 i hi
    rw [show n.bs.getD i default = n.bs[i] by simp [hi]] at h7
    unfold bufB at h7
    rw [Bool.and_eq_true, List.all_eq_true] at h7
    have h8 := h7.2 m hm
    unfold waitB at h8
    rw [Bool.and_eq_true, decide_eq_true_eq] at h8
    exact check_fit h8.1 (hw.m _ hl m hm)
  · have := mem_wait hl
    omega
theorem encLeaf_eq {n : Nd} (h : n.leaf = true) : encN n = flagB true ++ (beB 2 n.es.length ++ n.es.flatMap encE) := by unfold encN; rw [h]; rfl
theorem encInner_eq {n : Nd} (h : n.leaf = false) : encN n = flagB false ++ (beB 2 n.ks.length ++ (n.ks.flatMap encK ++ (n.ps.flatMap encP ++ n.bs.flatMap encL))) := by unfold encN; rw [h]; rfl
theorem encN_len {n : Nd} (h : rightB n = true) (hw : NdW n) : (encN n).length ≤ 110000000 := by
  unfold rightB at h
  cases hl : n.leaf with
  | true =>
    rw [hl, if_pos rfl] at h
    have hf := leaf_fit h hw
    have h1 := flat_len (f := encE) n.es (fun e he => encE_len (hf.e e he))
    have h2 := hf.l
    rw [encLeaf_eq hl]
    simp only [List.length_append, beB_length, flagB_len]
    omega
  | false =>
    rw [hl, if_neg (by decide)] at h
    have hf := inner_fit h hw
    have h1 := flat_len (f := encK) n.ks (fun e he => encK_len (hf.k e he))
    have h2 := flat_len (f := encP) n.ps (fun e he => encP_len (hf.p e he))
    have h3 := flat_len (f := encL) n.bs (fun e he => encL_len (hf.m e he) (hf.l e he))
    have h4 := hf.lk
    have h5 := hf.lp
    have h6 := hf.lb
    rw [encInner_eq hl]
    simp only [List.length_append, beB_length, flagB_len]
    omega

/-! ### Laying a node -/
abbrev NodB (b : Nat) (h : Nh) (n : Nd) : Res := Blk b (.cells (ndc h n) 30 (0, 0))
theorem nod_cells {w : World} {b : Nat} {h : Nh} {n : Nd} (H : w.heap[b]? = some (.cells (ndc h n) 30 (0, 0))) : w.cell? ⟨b, 0, none⟩ = some (.bool n.leaf) ∧ w.cell? ⟨b, 1, none⟩ = some (.slice h.eo n.es.length h.ec) ∧ w.cell? ⟨b, 2, none⟩ = some (.slice h.po n.ps.length h.pc) ∧
    w.cell? ⟨b, 3, none⟩ = some (.slice h.ko n.ks.length h.kc) ∧ w.cell? ⟨b, 4, none⟩ = some (.slice h.bo n.bs.length h.bc) := by
  simp [World.cell?, H]
theorem Own.blk1 {w0 w : World} {k : Nat} {o : Obj} (h : Own w0 w (Blk k o)) : w.heap[k]? = some o := by
  obtain ⟨F, h1, _⟩ := h
  exact h1.1
set_option maxHeartbeats 4000000 in
theorem pnode_any {w0 w : World} {p : Nat} {J : Res} [Stab J] (h : Own w0 w (Sep (OutR p []) J)) (H : Nh) (n : Nd) (hn : NdAt w0 H n) (hr : rightB n = true) (hw : NdW n) :
    Calls Tryz.prog 28 #[putv p, ndv H n] w fun r w' => r = .returned (.tuple #[]) ∧ Own w0 w' (Sep (OutR p (encN n)) J) := by
  have HND := Lib.hid hn
  have H0 := Lib.hid (((h.alloc (.cells #[.pointer (some ⟨p, 0, none⟩)] 65)).alloc (.cells (ndc H n) 30)).ac (by ac_rfl) : Own w0 ((w.alloc (.cells #[.pointer (some ⟨p, 0, none⟩)] 65)).alloc (.cells (ndc H n) 30)) (Sep (OutR p []) (Sep (Blk w.heap.size (.cells #[.pointer (some ⟨p, 0, none⟩)] 65 (0, 0))) (Sep (Blk (w.alloc (.cells #[.pointer (some ⟨p, 0, none⟩)] 65)).heap.size (.cells (ndc H n) 30 (0, 0))) J))))
  rw [World.size_alloc] at H0
  obtain ⟨E, hE⟩ : ∃ E, encN n = E := ⟨_, rfl⟩
  rw [hE]
  have HE := Lib.hid hE
  clear h hE hn
  have ha := blk_cell H0.out.snd.held 0 rfl
  obtain ⟨c0, c1, c2, c3, c4⟩ := nod_cells H0.out.snd.snd.held
  unfold rightB at hr
  cases hl : n.leaf with
  | true =>
    rw [hl, if_pos rfl] at hr
    have HF := Lib.hid (leaf_fit hr hw)
    have HLF := Lib.hid hl
    obtain ⟨q, hq⟩ : ∃ q, q = n.es.length := ⟨_, rfl⟩
    have hq255 : q ≤ 255 := by rw [hq]; exact HF.out.l
    have HQ := Lib.hid hq
    rw [hl] at c0
    rw [← hq] at c1
    clear hr hw hl hq c2 c3 c4
    go_enter Tryz.func28, Tryz.ntmps28
    go_wp2_with fail
    refine (own_outFlag H0.out true (by simp)).mono ?_
    rintro r w1 ⟨rfl, h1⟩
    have H1 := Lib.hid h1
    clear h1 H0 ha c0 c1
    have ha := blk_cell H1.out.snd.held 0 rfl
    obtain ⟨c0, c1, c2, c3, c4⟩ := nod_cells H1.out.snd.snd.held
    rw [HLF.out] at c0
    rw [← HQ.out] at c1
    clear c2 c3 c4
    go_wp2_with fail
    refine (pcount_any H1.out q (by omega) (by simp [flagB])).mono ?_
    rintro r w2 ⟨rfl, h2⟩
    have H2 := Lib.hid h2
    clear h2 H1 ha c0 c1
    have ha := blk_cell H2.out.snd.held 0 rfl
    obtain ⟨c0, c1, c2, c3, c4⟩ := nod_cells H2.out.snd.snd.held
    rw [← HQ.out] at c1
    clear c2 c3 c4 c0
    go_wp2_with fail
    refine (each_e H2.out H.eo q H.ec n.es HND.out.e HQ.out HF.out.e (by omega) (by simp [flagB, beB_length])).mono ?_
    rintro r w3 ⟨rfl, h3⟩
    have H3 := Lib.hid h3.drop2.drop2
    clear h3 H2 ha c1
    go_wp2_with fail
    refine bodyPost_ret (v := .tuple #[]) (results_none rfl _ _ _) rfl (And.intro rfl ?_)
    have := H3.out
    rw [← HE.out, encLeaf_eq HLF.out, ← HQ.out]
    simpa using this
  | false =>
    rw [hl, if_neg (by decide)] at hr
    have HF := Lib.hid (inner_fit hr hw)
    have HLF := Lib.hid hl
    obtain ⟨q, hq⟩ : ∃ q, q = n.ks.length := ⟨_, rfl⟩
    obtain ⟨qp, hqp⟩ : ∃ q, q = n.ps.length := ⟨_, rfl⟩
    obtain ⟨qb, hqb⟩ : ∃ q, q = n.bs.length := ⟨_, rfl⟩
    have hq64 : q ≤ 64 := by rw [hq]; exact HF.out.lk
    have hp64 : qp ≤ 64 := by rw [hqp]; exact HF.out.lp
    have hb64 : qb ≤ 64 := by rw [hqb]; exact HF.out.lb
    have HQ := Lib.hid hq
    have HQP := Lib.hid hqp
    have HQB := Lib.hid hqb
    rw [hl] at c0
    clear hr hw hl hq hqp hqb c1 c2 c3 c4
    go_enter Tryz.func28, Tryz.ntmps28
    go_wp2_with fail
    refine (own_outFlag H0.out false (by simp)).mono ?_
    rintro r w1 ⟨rfl, h1⟩
    have H1 := Lib.hid h1
    clear h1 H0 ha c0
    have ha := blk_cell H1.out.snd.held 0 rfl
    obtain ⟨c0, c1, c2, c3, c4⟩ := nod_cells H1.out.snd.snd.held
    rw [HLF.out] at c0
    rw [← HQ.out] at c3
    clear c2 c1 c4
    go_wp2_with fail
    refine (pcount_any H1.out q (by omega) (by simp [flagB])).mono ?_
    rintro r w2 ⟨rfl, h2⟩
    have H2 := Lib.hid h2
    clear h2 H1 ha c0 c3
    have ha := blk_cell H2.out.snd.held 0 rfl
    obtain ⟨c0, c1, c2, c3, c4⟩ := nod_cells H2.out.snd.snd.held
    rw [← HQ.out] at c3
    clear c2 c1 c4 c0
    go_wp2_with fail
    refine (each_k H2.out H.ko q H.kc n.ks HND.out.k HQ.out HF.out.k (by omega) (by simp [flagB, beB_length])).mono ?_
    rintro r w3 ⟨rfl, h3⟩
    have HX3 : Hid (([] ++ flagB false ++ beB 2 q ++ n.ks.flatMap encK).length ≤ 200000) := Lib.hid (by
      have h1 := flat_len (f := encK) n.ks (fun e he => encK_len (HF.out.k e he))
      have h2 := HQ.out
      simp only [List.length_append, beB_length, flagB_len, List.length_nil]
      omega)
    obtain ⟨x3, hx3⟩ : ∃ x, [] ++ flagB false ++ beB 2 q ++ n.ks.flatMap encK = x := ⟨_, rfl⟩
    rw [hx3] at h3 HX3
    have H3 := Lib.hid h3
    have HY3 := Lib.hid hx3
    clear h3 H2 ha c3 hx3
    have ha := blk_cell H3.out.snd.held 0 rfl
    obtain ⟨c0, c1, c2, c3, c4⟩ := nod_cells H3.out.snd.snd.held
    rw [← HQP.out] at c2
    clear c0 c1 c3 c4
    go_wp2_with fail
    refine (each_p H3.out H.po qp H.pc n.ps HND.out.p HQP.out HF.out.p (by omega) (by have := HX3.out; omega)).mono ?_
    rintro r w4 ⟨rfl, h4⟩
    have HX4 : Hid ((x3 ++ n.ps.flatMap encP).length ≤ 400000) := Lib.hid (by
      have h1 := flat_len (f := encP) n.ps (fun e he => encP_len (HF.out.p e he))
      have h2 := HQP.out
      have h3 := HX3.out
      rw [List.length_append]
      omega)
    obtain ⟨x4, hx4⟩ : ∃ x, x3 ++ n.ps.flatMap encP = x := ⟨_, rfl⟩
    rw [hx4] at h4 HX4
    have H4 := Lib.hid h4
    have HY4 := Lib.hid hx4
    clear h4 H3 ha c2 hx4 HX3
    have ha := blk_cell H4.out.snd.held 0 rfl
    obtain ⟨c0, c1, c2, c3, c4⟩ := nod_cells H4.out.snd.snd.held
    rw [← HQB.out] at c4
    clear c0 c1 c2 c3
    go_wp2_with fail
    refine (each_l H4.out H.bo qb H.bc n.bs HND.out.b HQB.out HF.out.m HF.out.l (by omega) (by have := HX4.out; omega)).mono ?_
    rintro r w5 ⟨rfl, h5⟩
    have H5 := Lib.hid h5.drop2.drop2
    clear h5 H4 ha c4
    go_wp2_with fail
    refine bodyPost_end (results_none rfl _ _ _) rfl ⟨rfl, ?_⟩
    have := H5.out
    rw [← HE.out, encInner_eq HLF.out, ← HQ.out]
    rw [← HY4.out, ← HY3.out] at this
    simpa using this

/-- What Encode answers. -/
def encErr (n : Nd) : Int := if rightB n = true then (if 32768 < (encN n).length then 7 else 0) else 1
def encOut (n : Nd) : List UInt8 := if encErr n = 0 then encN n else []
def EncPost (w : World) (n : Nd) (e : Ending) (w' : World) : Prop := ∃ v, e = .returned (.tuple #[v, .int .i64 (encErr n)]) ∧ Own w w' (RowV 5 1 v (encOut n).length (u8s (encOut n)))
theorem enc_post_no {w w' : World} {n : Nd} {er : Int} (h : encErr n = er) (h0 : er ≠ 0) (ho : Only (fun _ => False) w w') : EncPost w n (.returned (.tuple #[.slice none 0 0, .int .i64 er])) w' := by
  refine ⟨_, by rw [h], ?_⟩
  unfold encOut
  rw [h, if_neg h0]
  exact ⟨fun _ => False, RowV.nil _ _ _, (fun k hk => hk.elim), ho⟩
set_option maxHeartbeats 2000000 in
theorem encode_any (h : Nh) (n : Nd) (w : World) (H : NdAt w h n) (hw : NdW n) : Calls Tryz.prog 10 #[ndv h n] w (EncPost w n) := by
  have HS := Lib.hid (NbAt.start H)
  have HR := Lib.hid (right_any h n _ HS.out.nd)
  obtain ⟨c0, c1, c2, c3, c4⟩ := HS.out.cells
  cases hr : rightB n with
  | false =>
    rw [hr] at HR
    have HE : Hid (encErr n = 1) := Lib.hid (by unfold encErr; rw [hr]; rfl)
    clear hr
    go_enter Tryz.func10, Tryz.ntmps10
    go_wp2_with fail
    refine HR.out.mono ?_
    rintro e w1 ⟨rfl, ho⟩
    have HO := Lib.hid (HS.out.keep ho)
    clear ho HR
    go_wp2_with fail
    go_ret2
    exact enc_post_no HE.out (by decide) HO.out.only
  | true =>
    have HL := Lib.hid (encN_len hr hw)
    have HRT := Lib.hid hr
    have HND := Lib.hid H
    rw [hr] at HR
    clear hr
    go_enter Tryz.func10, Tryz.ntmps10
    go_wp2_with fail
    refine HR.out.mono ?_
    rintro e w1 ⟨rfl, ho⟩
    have HO := Lib.hid (HS.out.keep ho)
    clear ho HR c0 c1 c2 c3 c4
    have hk : Own w w1 (Blk w.heap.size (.cells (ndc h n) 30 (0, 0))) := ⟨fun k => k = w.heap.size, ⟨HO.out.blk, fun k => Iff.rfl⟩, fun k e => by omega, HO.out.only⟩
    have H2 := Lib.hid (((own_outnew hk).alloc (.cells #[.pointer (some ⟨w1.heap.size, 0, none⟩)] 65)).ac (by ac_rfl) : Own w ((w1.alloc (.cells #[.slice none 0 0] 63)).alloc (.cells #[.pointer (some ⟨w1.heap.size, 0, none⟩)] 65)) (Sep (OutR w1.heap.size []) (Sep (Blk (w1.alloc (.cells #[.slice none 0 0] 63)).heap.size (.cells #[.pointer (some ⟨w1.heap.size, 0, none⟩)] 65 (0, 0))) (Blk w.heap.size (.cells (ndc h n) 30 (0, 0))))))
    rw [World.size_alloc] at H2
    have HPN := Lib.hid (pnode_any H2.out h n HND.out HRT.out hw)
    obtain ⟨c0, c1, c2, c3, c4⟩ := nod_cells H2.out.snd.snd.blk1
    have ha := blk_cell H2.out.snd.held 0 rfl
    have HEN : Hid (encErr n = if 32768 < (encN n).length then 7 else 0) := Lib.hid (by unfold encErr; rw [if_pos HRT.out])
    have hlen : (encN n).length ≤ 110000000 := HL.out
    obtain ⟨E, hE⟩ : ∃ E, encN n = E := ⟨_, rfl⟩
    have HEE := Lib.hid hE
    rw [hE] at HPN HEN hlen
    clear hE H hw hk HL
    go_wp2_with fail
    refine HPN.out.mono ?_
    rintro r w3 ⟨rfl, h3⟩
    have H3 := Lib.hid h3
    clear h3 HPN H2 ha c0 c1 c2 c3 c4
    have ha := blk_cell H3.out.snd.held 0 rfl
    go_wp2_with fail
    refine (own_outBytes H3.out (by omega)).mono ?_
    rintro r w4 ⟨v, rfl, h4⟩
    obtain ⟨ao, cap, rfl⟩ := own_shapeN h4.owns
    obtain ⟨m, hm⟩ : ∃ m, E.length = m := ⟨_, rfl⟩
    rw [hm] at hlen
    have H4 := Lib.hid h4.fst
    have HM := Lib.hid hm
    have HO4 := Lib.hid h4.only
    rw [hm]
    rw [hm] at HEN
    clear h4 H3 ha hm
    by_cases hb : 32768 < m
    · have hI : (32768 : Int) < (m : Int) := by omega
      have HE7 : Hid (encErr n = 7) := Lib.hid (by rw [HEN.out, if_pos hb])
      clear hb
      go_wp2_with fail
      go_ret2
      exact enc_post_no HE7.out (by decide) HO4.out
    · have hI : ¬ (32768 : Int) < (m : Int) := by omega
      have HE0 : Hid (encErr n = 0) := Lib.hid (by rw [HEN.out, if_neg hb])
      clear hb
      go_wp2_with fail
      go_ret2
      refine ⟨.slice ao m cap, by rw [HE0.out]; rfl, ?_⟩
      unfold encOut
      rw [if_pos HE0.out, HEE.out, HM.out]
      have := H4.out
      rwa [HM.out] at this

end Go.Proofs.YtookbmpaoljelaaGreat

namespace Go.Proofs.YtookbmpaoljelaaGreat
open Go Go.RowKit
set_option linter.unusedVariables false
set_option linter.unusedSimpArgs false
set_option maxRecDepth 100000
set_option linter.unusedSimpArgs false
set_option maxRecDepth 100000

def BytesPost (w : World) (n : Nd) (e : Ending) (w' : World) : Prop := ∃ v, e = .returned v ∧ Own w w' (RowV 5 1 v (encN n).length (u8s (encN n)))
theorem num_of (n : Nat) (h : n < 18446744073709551616) : NumW (n : Int) := ⟨by omega, by omega⟩
theorem u64w {z : Int} (h : NumW z) : IntKind.u64.wrap z = z := by
  have h1 := h.1
  have h2 := h.2
  rw [IntKind.wrap_u64]
  omega
abbrev enc6 (a : En) : Array Value := #[.string a.k, .bool a.h, .string a.v, .int .u64 a.x, .bool a.n, .string a.nv]
set_option maxHeartbeats 8000000 in
theorem qbytes_leaf (h : Nh) (n : Nd) (w : World) (H : NdAt w h n) (hlf : n.leaf = true) (hf : LeafF n) :
    Calls Tryz.prog 24 #[ndv h n] w (BytesPost w n) := by
  have H0 := Lib.hid (R.own_outnew ((Own.start w).alloc (.cells (ndc h n) 30)))
  have HND := Lib.hid H
  have HF := Lib.hid hf
  have HEN := Lib.hid (encLeaf_eq hlf)
  have HLE := Lib.hid hf.l
  have HLF := Lib.hid hlf
  obtain ⟨E, hE⟩ : ∃ E, n.es.length = E := ⟨_, rfl⟩
  have HE := Lib.hid hE
  have hE255 : E ≤ 255 := by rw [← hE]; exact hf.l
  have hwE : IntKind.u64.wrap (E : Int) = (E : Int) := u64w (num_of E (by omega))
  obtain ⟨c0, c1, c2, c3, c4⟩ := nod_cells H0.out.snd.held
  rw [hE] at c1
  rw [hlf] at c0
  clear H hf hlf hE
  rw [World.size_alloc] at H0
  go_enter Tryz.func24, Tryz.ntmps24
  go_upto_region 2 with fail
  generalize (w.alloc (.cells (ndc h n) 30)).alloc (.cells #[.slice none 0 0] 85) = w0 at *
  generalize w.heap.size + 1 = p at *
  generalize w.heap.size = pn at *
  have ly0 : ([] : List UInt8).length ≤ 0 := Nat.le_refl _
  go_wp2_with fail
  refine (R.own_flag H0.out true (by simp)).mono ?_
  rintro r w1 ⟨rfl, h1⟩
  have H1 := Lib.hid h1
  clear h1 H0
  clear c0 c1 c2 c3 c4
  obtain ⟨c0, c1, c2, c3, c4⟩ := nod_cells H1.out.snd.held
  rw [HE.out] at c1
  rw [HLF.out] at c0
  go_wp2_with fail
  try rw [hwE]
  refine (R.own_num H1.out (E : Int) 2 (num_of E (by omega)) (by decide) (by rw [List.length_append, flagB_len]; simp)).mono ?_
  rintro r w2 ⟨rfl, h1⟩
  have H2 := Lib.hid h1
  clear h1 H1
  clear c0 c1 c2 c3 c4
  obtain ⟨c0, c1, c2, c3, c4⟩ := nod_cells H2.out.snd.held
  rw [HE.out] at c1
  rw [HLF.out] at c0
  obtain ⟨x2, hx2⟩ : ∃ x, ([] ++ flagB true ++ beB 2 (E : Int).toNat : List UInt8) = x := ⟨_, rfl⟩
  have HX2 : Hid (x2.length ≤ 3) := Lib.hid (by rw [← hx2]; simp [flagB_len, beB_length])
  rw [hx2] at H2
  have HE2 := Lib.hid hx2
  clear hx2 hwE
  go_wp2_with fail
  go_loopw [4] (fun i wr => ∃ k : Nat, (k ≤ E) ∧ i = .int .i64 (k : Int) ∧ Hid (Own w wr (Sep (R.OutR p (x2 ++ (n.es.take k).flatMap encE)) (Sep (Blk pn (.cells (ndc h n) 30 (0, 0))) Emp)))) (fun i _ => E - (intOf i).toNat)
  case atStart => exact ⟨0, Nat.zero_le _, rfl, Lib.hid (by rw [List.take_zero, List.flatMap_nil, List.append_nil]; exact H2.out)⟩
  case round =>
    clear H2 c0 c1 c2 c3 c4
    obtain ⟨k, hk, rfl, HO⟩ := hrel
    obtain ⟨c0, c1, c2, c3, c4⟩ := nod_cells HO.out.snd.held
    rw [HE.out] at c1
    rw [HLF.out] at c0
    by_cases hlt : k < E
    · have hkl : k < n.es.length := by rw [HE.out]; exact hlt
      obtain ⟨g, off, he, y0, y1, y2, y3, y4, y5⟩ := (HND.out.keep HO.out.only).e.en (j := k) hkl
      rw [he] at c1
      have HEO := Lib.hid he
      have HST := Lib.hid (flat_step (f := encE) hkl)
      have HOK := Lib.hid (HF.out.e _ (getD_mem hkl))
      have HXL : Hid ((x2 ++ (n.es.take k).flatMap encE).length ≤ 900000000) := Lib.hid (by
        have h1 := take_flat_len (f := encE) (k := k) (fun a ha => encE_len (HF.out.e a ha))
        have h2 := HX2.out
        have h3 := HE.out
        rw [List.length_append]
        omega)
      generalize n.es.getD k default = a at *
      obtain ⟨zs, hzs⟩ : ∃ zs, x2 ++ (n.es.take k).flatMap encE = zs := ⟨_, rfl⟩
      have HNX : Hid (x2 ++ (n.es.take (k + 1)).flatMap encE = zs ++ encE a) := Lib.hid (by rw [HST.out, ← hzs, List.append_assoc])
      rw [hzs] at HO HXL
      have yq0 := HXL.out
      have ks := HOK.out.k
      have vs := HOK.out.v
      have ns := HOK.out.n
      have HQ0 := Lib.hid (HO.out.lend (.cells (enc6 a) 41))
      have hltI : (k : Int) < (E : Int) := by omega
      have h0 : (0 : Int) ≤ (k : Int) := by omega
      clear he hkl hzs HST HO
      go_upto_region 9 with fail
      generalize wr.alloc (.cells (enc6 a) 41) = wq0 at *
      generalize wr.heap.size = pe at *
      clear y0 y1 y2 y3 y4 y5 c0 c1 c2 c3 c4
      have Q0 := HQ0
      clear HQ0
      obtain ⟨yQ0, hyq⟩ : ∃ y, zs = y := ⟨_, rfl⟩
      rw [hyq] at Q0 yq0 HNX
      have lQ0 := yq0
      clear hyq yq0 HXL
      have e0 := blk_cell Q0.out.snd.held 0 rfl
      have e1 := blk_cell Q0.out.snd.held 1 rfl
      have e2 := blk_cell Q0.out.snd.held 2 rfl
      have e3 := blk_cell Q0.out.snd.held 3 rfl
      have e4 := blk_cell Q0.out.snd.held 4 rfl
      have e5 := blk_cell Q0.out.snd.held 5 rfl
      go_wp2_with fail
      refine (R.own_text Q0.out a.k (by omega) (by omega)).mono ?_
      rintro r wQ1 ⟨rfl, h1⟩
      obtain ⟨yQ1, hys⟩ : ∃ ys, yQ0 ++ txtB a.k.toList = ys := ⟨_, rfl⟩
      have lQ1 : yQ1.length ≤ 900000600 := by rw [← hys, List.length_append, txtB_len]; omega
      rw [hys] at h1
      have HYQ1 := Lib.hid hys
      have Q1 := Lib.hid h1
      clear h1 hys Q0
      clear e0 e1 e2 e3 e4 e5
      have e0 := blk_cell Q1.out.snd.held 0 rfl
      have e1 := blk_cell Q1.out.snd.held 1 rfl
      have e2 := blk_cell Q1.out.snd.held 2 rfl
      have e3 := blk_cell Q1.out.snd.held 3 rfl
      have e4 := blk_cell Q1.out.snd.held 4 rfl
      have e5 := blk_cell Q1.out.snd.held 5 rfl
      go_wp2_with fail
      refine (R.own_flag Q1.out a.h (by omega)).mono ?_
      rintro r wQ2 ⟨rfl, h1⟩
      obtain ⟨yQ2, hys⟩ : ∃ ys, yQ1 ++ flagB a.h = ys := ⟨_, rfl⟩
      have lQ2 : yQ2.length ≤ 900001200 := by rw [← hys, List.length_append, flagB_len]; omega
      rw [hys] at h1
      have HYQ2 := Lib.hid hys
      have Q2 := Lib.hid h1
      clear h1 hys Q1
      clear e0 e1 e2 e3 e4 e5
      have e0 := blk_cell Q2.out.snd.held 0 rfl
      have e1 := blk_cell Q2.out.snd.held 1 rfl
      have e2 := blk_cell Q2.out.snd.held 2 rfl
      have e3 := blk_cell Q2.out.snd.held 3 rfl
      have e4 := blk_cell Q2.out.snd.held 4 rfl
      have e5 := blk_cell Q2.out.snd.held 5 rfl
      go_wp2_with fail
      refine (R.own_text Q2.out a.v (by omega) (by omega)).mono ?_
      rintro r wQ3 ⟨rfl, h1⟩
      obtain ⟨yQ3, hys⟩ : ∃ ys, yQ2 ++ txtB a.v.toList = ys := ⟨_, rfl⟩
      have lQ3 : yQ3.length ≤ 900001800 := by rw [← hys, List.length_append, txtB_len]; omega
      rw [hys] at h1
      have HYQ3 := Lib.hid hys
      have Q3 := Lib.hid h1
      clear h1 hys Q2
      clear e0 e1 e2 e3 e4 e5
      have e0 := blk_cell Q3.out.snd.held 0 rfl
      have e1 := blk_cell Q3.out.snd.held 1 rfl
      have e2 := blk_cell Q3.out.snd.held 2 rfl
      have e3 := blk_cell Q3.out.snd.held 3 rfl
      have e4 := blk_cell Q3.out.snd.held 4 rfl
      have e5 := blk_cell Q3.out.snd.held 5 rfl
      go_wp2_with fail
      refine (R.own_num Q3.out a.x 8 HOK.out.x (by decide) (by omega)).mono ?_
      rintro r wQ4 ⟨rfl, h1⟩
      obtain ⟨yQ4, hys⟩ : ∃ ys, yQ3 ++ beB 8 a.x.toNat = ys := ⟨_, rfl⟩
      have lQ4 : yQ4.length ≤ 900002400 := by rw [← hys, List.length_append, beB_length]; omega
      rw [hys] at h1
      have HYQ4 := Lib.hid hys
      have Q4 := Lib.hid h1
      clear h1 hys Q3
      clear e0 e1 e2 e3 e4 e5
      have e0 := blk_cell Q4.out.snd.held 0 rfl
      have e1 := blk_cell Q4.out.snd.held 1 rfl
      have e2 := blk_cell Q4.out.snd.held 2 rfl
      have e3 := blk_cell Q4.out.snd.held 3 rfl
      have e4 := blk_cell Q4.out.snd.held 4 rfl
      have e5 := blk_cell Q4.out.snd.held 5 rfl
      go_wp2_with fail
      refine (R.own_flag Q4.out a.n (by omega)).mono ?_
      rintro r wQ5 ⟨rfl, h1⟩
      obtain ⟨yQ5, hys⟩ : ∃ ys, yQ4 ++ flagB a.n = ys := ⟨_, rfl⟩
      have lQ5 : yQ5.length ≤ 900003000 := by rw [← hys, List.length_append, flagB_len]; omega
      rw [hys] at h1
      have HYQ5 := Lib.hid hys
      have Q5 := Lib.hid h1
      clear h1 hys Q4
      clear e0 e1 e2 e3 e4 e5
      have e0 := blk_cell Q5.out.snd.held 0 rfl
      have e1 := blk_cell Q5.out.snd.held 1 rfl
      have e2 := blk_cell Q5.out.snd.held 2 rfl
      have e3 := blk_cell Q5.out.snd.held 3 rfl
      have e4 := blk_cell Q5.out.snd.held 4 rfl
      have e5 := blk_cell Q5.out.snd.held 5 rfl
      go_wp2_with fail
      refine (R.own_text Q5.out a.nv (by omega) (by omega)).mono ?_
      rintro r wQ6 ⟨rfl, h1⟩
      obtain ⟨yQ6, hys⟩ : ∃ ys, yQ5 ++ txtB a.nv.toList = ys := ⟨_, rfl⟩
      have lQ6 : yQ6.length ≤ 900003600 := by rw [← hys, List.length_append, txtB_len]; omega
      rw [hys] at h1
      have HYQ6 := Lib.hid hys
      have Q6 := Lib.hid h1
      clear h1 hys Q5
      clear e0 e1 e2 e3 e4 e5
      have HFI : x2 ++ (n.es.take (k + 1)).flatMap encE = yQ6 := by rw [HNX.out, ← HYQ6.out, ← HYQ5.out, ← HYQ4.out, ← HYQ3.out, ← HYQ2.out, ← HYQ1.out]; simp [encE]
      have HR1 : Hid (Own w wQ6 (Sep (R.OutR p (x2 ++ (n.es.take (k + 1)).flatMap encE)) (Sep (Blk pn (.cells (ndc h n) 30 (0, 0))) Emp))) := Lib.hid (by rw [HFI]; exact Q6.out.drop2)
      clear Q6 HFI
      go_wp2_with fail
      go_roundw
      case rel => exact ⟨k + 1, by omega, by go_num, HR1⟩
      case measure => simp [intOf]; omega
    · have hltI : ¬ (k : Int) < (E : Int) := by omega
      have HFI : Hid (x2 ++ (n.es.take k).flatMap encE = encN n) := Lib.hid (by
        rw [List.take_of_length_le (by rw [HE.out]; omega), HEN.out, ← HE2.out, HE.out]
        simp)
      rw [HFI.out] at HO
      obtain ⟨v, hc, ho⟩ := R.own_get HO.out
      have HG := Lib.hid ho
      clear ho HO
      go_wp2_with fail
      go_ret
      exact ⟨_, rfl, HG.out⟩

end Go.Proofs.YtookbmpaoljelaaGreat

namespace Go.Proofs.YtookbmpaoljelaaGreat
open Go Go.RowKit
set_option linter.unusedVariables false
set_option linter.unusedSimpArgs false
set_option maxRecDepth 100000
set_option linter.unusedSimpArgs false
set_option maxRecDepth 100000

set_option maxHeartbeats 16000000 in
theorem qbytes_inner (h : Nh) (n : Nd) (w : World) (H : NdAt w h n) (hlf : n.leaf = false) (hf : InnF n) :
    Calls Tryz.prog 24 #[ndv h n] w (BytesPost w n) := by
  have H0 := Lib.hid (R.own_outnew ((Own.start w).alloc (.cells (ndc h n) 30)))
  have HND := Lib.hid H
  have HF := Lib.hid hf
  have HEN := Lib.hid (encInner_eq hlf)
  have HLF := Lib.hid hlf
  obtain ⟨K, hK⟩ : ∃ K, n.ks.length = K := ⟨_, rfl⟩
  obtain ⟨P, hP⟩ : ∃ P, n.ps.length = P := ⟨_, rfl⟩
  obtain ⟨B, hB⟩ : ∃ B, n.bs.length = B := ⟨_, rfl⟩
  have HK := Lib.hid hK
  have HP := Lib.hid hP
  have HB := Lib.hid hB
  have hK64 : K ≤ 64 := by rw [← hK]; exact hf.lk
  have hP64 : P ≤ 64 := by rw [← hP]; exact hf.lp
  have hB64 : B ≤ 64 := by rw [← hB]; exact hf.lb
  have hwE : IntKind.u64.wrap (K : Int) = (K : Int) := u64w (num_of K (by omega))
  obtain ⟨c0, c1, c2, c3, c4⟩ := nod_cells H0.out.snd.held
  rw [hK] at c3
  rw [hlf] at c0
  clear H hf hlf hK hP hB
  rw [World.size_alloc] at H0
  go_enter Tryz.func24, Tryz.ntmps24
  go_upto_region 2 with fail
  generalize (w.alloc (.cells (ndc h n) 30)).alloc (.cells #[.slice none 0 0] 85) = w0 at *
  generalize w.heap.size + 1 = p at *
  generalize w.heap.size = pn at *
  go_wp2_with fail
  refine (R.own_flag H0.out false (by simp)).mono ?_
  rintro r w1 ⟨rfl, h1⟩
  have H1 := Lib.hid h1
  clear h1 H0
  clear c0 c1 c2 c3 c4
  obtain ⟨c0, c1, c2, c3, c4⟩ := nod_cells H1.out.snd.held
  rw [HK.out] at c3
  rw [HLF.out] at c0
  go_wp2_with fail
  try rw [hwE]
  refine (R.own_num H1.out (K : Int) 2 (num_of K (by omega)) (by decide) (by rw [List.length_append, flagB_len]; simp)).mono ?_
  rintro r w2 ⟨rfl, h1⟩
  have H2 := Lib.hid h1
  clear h1 H1
  clear c0 c1 c2 c3 c4
  obtain ⟨c0, c1, c2, c3, c4⟩ := nod_cells H2.out.snd.held
  rw [HK.out] at c3
  rw [HLF.out] at c0
  obtain ⟨x2, hx2⟩ : ∃ x, ([] ++ flagB false ++ beB 2 (K : Int).toNat : List UInt8) = x := ⟨_, rfl⟩
  have HX2 : Hid (x2.length ≤ 3) := Lib.hid (by rw [← hx2]; simp [flagB_len, beB_length])
  rw [hx2] at H2
  have HE2 := Lib.hid hx2
  clear hx2 hwE
  go_wp2_with fail
  go_loopw [6] (fun i wr => ∃ k : Nat, (k ≤ K) ∧ i = .int .i64 (k : Int) ∧ Hid (Own w wr (Sep (R.OutR p (x2 ++ (n.ks.take k).flatMap encK)) (Sep (Blk pn (.cells (ndc h n) 30 (0, 0))) Emp)))) (fun i _ => K - (intOf i).toNat)
  case atStart => exact ⟨0, Nat.zero_le _, rfl, Lib.hid (by rw [List.take_zero, List.flatMap_nil, List.append_nil]; exact H2.out)⟩
  case round =>
    clear H2 c0 c1 c2 c3 c4
    obtain ⟨k, hk, rfl, HO⟩ := hrel
    obtain ⟨c0, c1, c2, c3, c4⟩ := nod_cells HO.out.snd.held
    rw [HK.out] at c3
    by_cases hlt : k < K
    · have hkl : k < n.ks.length := by rw [HK.out]; exact hlt
      obtain ⟨g, off, he, y0⟩ := (HND.out.keep HO.out.only).k.nu (j := k) hkl
      rw [he] at c3
      have HST := Lib.hid (flat_step (f := encK) hkl)
      have HOK := Lib.hid (HF.out.k _ (getD_mem hkl))
      have HXL : Hid ((x2 ++ (n.ks.take k).flatMap encK).length ≤ 900000000) := Lib.hid (by
        have h1 := take_flat_len (f := encK) (k := k) (fun a ha => encK_len (HF.out.k a ha))
        have h2 := HX2.out
        have h3 := HK.out
        rw [List.length_append]
        omega)
      generalize n.ks.getD k default = a at *
      obtain ⟨zs, hzs⟩ : ∃ zs, x2 ++ (n.ks.take k).flatMap encK = zs := ⟨_, rfl⟩
      have HNX : Hid (x2 ++ (n.ks.take (k + 1)).flatMap encK = zs ++ encK a) := Lib.hid (by rw [HST.out, ← hzs, List.append_assoc])
      rw [hzs] at HO HXL
      have HC := Lib.hid (R.own_num HO.out a 8 HOK.out (by decide) (by have := HXL.out; omega))
      have hltI : (k : Int) < (K : Int) := by omega
      have h0 : (0 : Int) ≤ (k : Int) := by omega
      clear he hkl hzs HST HO
      go_wp2_with fail
      refine HC.out.mono ?_
      rintro r w1 ⟨rfl, h1⟩
      have HR1 : Hid (Own w w1 (Sep (R.OutR p (x2 ++ (n.ks.take (k + 1)).flatMap encK)) (Sep (Blk pn (.cells (ndc h n) 30 (0, 0))) Emp))) := Lib.hid (by rw [HNX.out]; exact h1)
      clear h1 HC y0 c0 c1 c2 c3 c4
      go_wp2_with fail
      go_roundw
      case rel => exact ⟨k + 1, by omega, by go_num, HR1⟩
      case measure => simp [intOf]; omega
    · have hltI : ¬ (k : Int) < (K : Int) := by omega
      obtain ⟨x3, hx3⟩ : ∃ x, x2 ++ n.ks.flatMap encK = x := ⟨_, rfl⟩
      have HX3 : Hid (x3.length ≤ 200000) := Lib.hid (by
        have h1 := flat_len (f := encK) n.ks (fun a ha => encK_len (HF.out.k a ha))
        have h2 := HX2.out
        have h3 := HK.out
        rw [← hx3, List.length_append]
        omega)
      have H3 : Hid (Own w wr (Sep (R.OutR p x3) (Sep (Blk pn (.cells (ndc h n) 30 (0, 0))) Emp))) := Lib.hid (by
        have := HO.out
        rwa [List.take_of_length_le (by rw [HK.out]; omega), hx3] at this)
      have HE3 := Lib.hid hx3
      clear HO hx3
      go_wp2_with fail
      clear hltI hk hlt c0 c1 c2 c3 c4
      go_loopw [7] (fun i wr => ∃ k : Nat, (k ≤ P) ∧ i = .int .i64 (k : Int) ∧ Hid (Own w wr (Sep (R.OutR p (x3 ++ (n.ps.take k).flatMap encP)) (Sep (Blk pn (.cells (ndc h n) 30 (0, 0))) Emp)))) (fun i _ => P - (intOf i).toNat)
      case atStart => exact ⟨0, Nat.zero_le _, rfl, Lib.hid (by rw [List.take_zero, List.flatMap_nil, List.append_nil]; exact H3.out)⟩
      case round =>
        clear H3
        obtain ⟨k, hk, rfl, HO⟩ := hrel
        obtain ⟨c0, c1, c2, c3, c4⟩ := nod_cells HO.out.snd.held
        rw [HP.out] at c2
        by_cases hlt : k < P
        · have hkl : k < n.ps.length := by rw [HP.out]; exact hlt
          obtain ⟨g, off, he, y0⟩ := (HND.out.keep HO.out.only).p.st (j := k) hkl
          rw [he] at c2
          have HST := Lib.hid (flat_step (f := encP) hkl)
          have HOK := Lib.hid (HF.out.p _ (getD_mem hkl))
          have HXL : Hid ((x3 ++ (n.ps.take k).flatMap encP).length ≤ 900000000) := Lib.hid (by
            have h1 := take_flat_len (f := encP) (k := k) (fun a ha => encP_len (HF.out.p a ha))
            have h2 := HX3.out
            have h3 := HP.out
            rw [List.length_append]
            omega)
          generalize n.ps.getD k default = a at *
          obtain ⟨zs, hzs⟩ : ∃ zs, x3 ++ (n.ps.take k).flatMap encP = zs := ⟨_, rfl⟩
          have HNX : Hid (x3 ++ (n.ps.take (k + 1)).flatMap encP = zs ++ encP a) := Lib.hid (by rw [HST.out, ← hzs, List.append_assoc])
          rw [hzs] at HO HXL
          have HC := Lib.hid (R.own_text HO.out a (by have := HOK.out; omega) (by have := HXL.out; have := HOK.out; omega))
          have hltI : (k : Int) < (P : Int) := by omega
          have h0 : (0 : Int) ≤ (k : Int) := by omega
          clear he hkl hzs HST HO
          go_wp2_with fail
          refine HC.out.mono ?_
          rintro r w1 ⟨rfl, h1⟩
          have HR1 : Hid (Own w w1 (Sep (R.OutR p (x3 ++ (n.ps.take (k + 1)).flatMap encP)) (Sep (Blk pn (.cells (ndc h n) 30 (0, 0))) Emp))) := Lib.hid (by rw [HNX.out]; exact h1)
          clear h1 HC y0 c0 c1 c2 c3 c4
          go_wp2_with fail
          go_roundw
          case rel => exact ⟨k + 1, by omega, by go_num, HR1⟩
          case measure => simp [intOf]; omega
        · have hltI : ¬ (k : Int) < (P : Int) := by omega
          obtain ⟨x4, hx4⟩ : ∃ x, x3 ++ n.ps.flatMap encP = x := ⟨_, rfl⟩
          have HX4 : Hid (x4.length ≤ 400000) := Lib.hid (by
            have h1 := flat_len (f := encP) n.ps (fun a ha => encP_len (HF.out.p a ha))
            have h2 := HX3.out
            have h3 := HP.out
            rw [← hx4, List.length_append]
            omega)
          have H4 : Hid (Own w wr (Sep (R.OutR p x4) (Sep (Blk pn (.cells (ndc h n) 30 (0, 0))) Emp))) := Lib.hid (by
            have := HO.out
            rwa [List.take_of_length_le (by rw [HP.out]; omega), hx4] at this)
          have HE4 := Lib.hid hx4
          clear HO hx4
          go_wp2_with fail
          clear hltI hk hlt c0 c1 c2 c3 c4
          go_loopw [8] (fun i wr => ∃ k : Nat, (k ≤ B) ∧ i = .int .i64 (k : Int) ∧ Hid (Own w wr (Sep (R.OutR p (x4 ++ (n.bs.take k).flatMap encL)) (Sep (Blk pn (.cells (ndc h n) 30 (0, 0))) Emp)))) (fun i _ => B - (intOf i).toNat)
          case atStart => exact ⟨0, Nat.zero_le _, rfl, Lib.hid (by rw [List.take_zero, List.flatMap_nil, List.append_nil]; exact H4.out)⟩
          case round =>
            clear H4
            obtain ⟨i, hi, rfl, HO⟩ := hrel
            obtain ⟨c0, c1, c2, c3, c4⟩ := nod_cells HO.out.snd.held
            rw [HB.out] at c4
            by_cases hlt : i < B
            · have hil : i < n.bs.length := by rw [HB.out]; exact hlt
              obtain ⟨g, off, ao, c, he, hb0, hsl, _⟩ := HND.out.b i hil
              rw [he] at c4
              have HBO := Lib.hid he
              have HST := Lib.hid (flat_step (f := encL) hil)
              have HOK := Lib.hid (HF.out.m _ (getD_mem hil))
              have HLL := Lib.hid (HF.out.l _ (getD_mem hil))
              have HXL : Hid ((x4 ++ (n.bs.take i).flatMap encL).length ≤ 500000000) := Lib.hid (by
                have h1 := take_flat_len (f := encL) (k := i) (fun a ha => encL_len (HF.out.m a ha) (HF.out.l a ha))
                have h2 := HX4.out
                have h3 := HB.out
                rw [List.length_append]
                omega)
              have hb := HO.out.only.cellq hb0
              have HB0 := Lib.hid hb0
              have HSL := Lib.hid hsl
              generalize n.bs.getD i default = l at *
              obtain ⟨q, hq⟩ : ∃ q, l.length = q := ⟨_, rfl⟩
              have HQ := Lib.hid hq
              have hq1 : q ≤ 1024 := by rw [← hq]; exact HLL.out
              rw [hq] at hb HB0
              have hwq : IntKind.u64.wrap (q : Int) = (q : Int) := u64w (num_of q (by omega))
              obtain ⟨zs, hzs⟩ : ∃ zs, x4 ++ (n.bs.take i).flatMap encL = zs := ⟨_, rfl⟩
              have HNX : Hid (x4 ++ (n.bs.take (i + 1)).flatMap encL = zs ++ encL l) := Lib.hid (by rw [HST.out, ← hzs, List.append_assoc])
              rw [hzs] at HO HXL
              have HC := Lib.hid (R.own_num HO.out (q : Int) 2 (num_of q (by omega)) (by decide) (by have := HXL.out; omega))
              have hltI : (i : Int) < (B : Int) := by omega
              have h0 : (0 : Int) ≤ (i : Int) := by omega
              clear he hil hzs HST HO hb0 hsl hq
              go_wp2_with fail
              try rw [hwq]
              refine HC.out.mono ?_
              rintro r w1 ⟨rfl, h1⟩
              obtain ⟨z1, hz1⟩ : ∃ z, zs ++ beB 2 (q : Int).toNat = z := ⟨_, rfl⟩
              have HZ1 : Hid (z1.length ≤ 500000002) := Lib.hid (by rw [← hz1, List.length_append, beB_length]; have := HXL.out; omega)
              rw [hz1] at h1
              have HZE := Lib.hid hz1
              have H5 := Lib.hid h1
              clear h1 hz1 HC hb hwq c0 c1 c2 c3 c4
              go_wp2_with fail
              go_loopw [9] (fun kk wz => ∃ k : Nat, (k ≤ q) ∧ kk = .int .i64 (k : Int) ∧ Hid (Own w wz (Sep (R.OutR p (z1 ++ (l.take k).flatMap encM)) (Sep (Blk pn (.cells (ndc h n) 30 (0, 0))) Emp)))) (fun kk _ => q - (intOf kk).toNat)
              case atStart => exact ⟨0, Nat.zero_le _, rfl, Lib.hid (by rw [List.take_zero, List.flatMap_nil, List.append_nil]; exact H5.out)⟩
              case round =>
                clear H5
                obtain ⟨k, hk, rfl, HO⟩ := hrel
                obtain ⟨c0, c1, c2, c3, c4⟩ := nod_cells HO.out.snd.held
                rw [HB.out, HBO.out] at c4
                have hb := HO.out.only.cellq HB0.out
                by_cases hlk : k < q
                · have hkl : k < l.length := by rw [HQ.out]; exact hlk
                  obtain ⟨g3, off3, ha3, y0, y1, y2, y3, y4, y5, y6⟩ := (HSL.out.keep HO.out.only).ms (j := k) hkl
                  rw [ha3] at hb
                  have HST2 := Lib.hid (flat_step (f := encM) hkl)
                  have HMK := Lib.hid (HOK.out _ (getD_mem hkl))
                  have HXM : Hid ((z1 ++ (l.take k).flatMap encM).length ≤ 900000000) := Lib.hid (by
                    have h1 := take_flat_len (f := encM) (k := k) (fun a ha => encM_len (HOK.out a ha))
                    have h2 := HZ1.out
                    have h3 := HQ.out
                    rw [List.length_append]
                    omega)
                  generalize l.getD k default = a at *
                  obtain ⟨zs2, hzs⟩ : ∃ zs, z1 ++ (l.take k).flatMap encM = zs := ⟨_, rfl⟩
                  have HNX2 : Hid (z1 ++ (l.take (k + 1)).flatMap encM = zs2 ++ encM a) := Lib.hid (by rw [HST2.out, ← hzs, List.append_assoc])
                  rw [hzs] at HO HXM
                  have yq0 := HXM.out
                  have ks := HMK.out.k
                  have vs := HMK.out.v
                  have hwK : IntKind.u64.wrap a.K = a.K := u64w ⟨HMK.out.K0, by have := HMK.out.K1; omega⟩
                  have hwO : IntKind.u64.wrap a.off = a.off := u64w ⟨HMK.out.o0, by have := HMK.out.o1; omega⟩
                  have HWW := Lib.hid HMK.out.w
                  have HQ0 := Lib.hid (HO.out.lend (.cells (msc a) 80))
                  have hltI : (k : Int) < (q : Int) := by omega
                  have hk0 : (0 : Int) ≤ (k : Int) := by omega
                  clear ha3 hkl hzs HST2 HO
                  go_upto_region 33 with fail
                  generalize wr.alloc (.cells (msc a) 80) = wq0 at *
                  generalize wr.heap.size = pe at *
                  clear y0 y1 y2 y3 y4 y5 y6 hb c0 c1 c2 c3 c4
                  have Q0 := HQ0
                  clear HQ0
                  obtain ⟨yQ0, hyq⟩ : ∃ y, zs2 = y := ⟨_, rfl⟩
                  rw [hyq] at Q0 yq0 HNX2
                  have lQ0 := yq0
                  clear hyq yq0 HXM
                  have e0 := blk_cell Q0.out.snd.held 0 rfl
                  have e1 := blk_cell Q0.out.snd.held 1 rfl
                  have e2 := blk_cell Q0.out.snd.held 2 rfl
                  have e3 := blk_cell Q0.out.snd.held 3 rfl
                  have e4 := blk_cell Q0.out.snd.held 4 rfl
                  have e5 := blk_cell Q0.out.snd.held 5 rfl
                  have e6 := blk_cell Q0.out.snd.held 6 rfl
                  go_wp2_with fail
                  refine (R.own_num Q0.out a.sq 8 ⟨HWW.out.s0, HWW.out.s1⟩ (by decide) (by omega)).mono ?_
                  rintro r wQ1 ⟨rfl, h1⟩
                  obtain ⟨yQ1, hys⟩ : ∃ ys, yQ0 ++ beB 8 a.sq.toNat = ys := ⟨_, rfl⟩
                  have lQ1 : yQ1.length ≤ 900000600 := by rw [← hys, List.length_append, beB_length]; omega
                  rw [hys] at h1
                  have HYQ1 := Lib.hid hys
                  have Q1 := Lib.hid h1
                  clear h1 hys Q0
                  clear e0 e1 e2 e3 e4 e5 e6
                  have e0 := blk_cell Q1.out.snd.held 0 rfl
                  have e1 := blk_cell Q1.out.snd.held 1 rfl
                  have e2 := blk_cell Q1.out.snd.held 2 rfl
                  have e3 := blk_cell Q1.out.snd.held 3 rfl
                  have e4 := blk_cell Q1.out.snd.held 4 rfl
                  have e5 := blk_cell Q1.out.snd.held 5 rfl
                  have e6 := blk_cell Q1.out.snd.held 6 rfl
                  go_wp2_with fail
                  try rw [hwK]
                  refine (R.own_num Q1.out a.K 1 ⟨HMK.out.K0, by have := HMK.out.K1; omega⟩ (by decide) (by omega)).mono ?_
                  rintro r wQ2 ⟨rfl, h1⟩
                  obtain ⟨yQ2, hys⟩ : ∃ ys, yQ1 ++ beB 1 a.K.toNat = ys := ⟨_, rfl⟩
                  have lQ2 : yQ2.length ≤ 900001200 := by rw [← hys, List.length_append, beB_length]; omega
                  rw [hys] at h1
                  have HYQ2 := Lib.hid hys
                  have Q2 := Lib.hid h1
                  clear h1 hys Q1
                  clear e0 e1 e2 e3 e4 e5 e6
                  have e0 := blk_cell Q2.out.snd.held 0 rfl
                  have e1 := blk_cell Q2.out.snd.held 1 rfl
                  have e2 := blk_cell Q2.out.snd.held 2 rfl
                  have e3 := blk_cell Q2.out.snd.held 3 rfl
                  have e4 := blk_cell Q2.out.snd.held 4 rfl
                  have e5 := blk_cell Q2.out.snd.held 5 rfl
                  have e6 := blk_cell Q2.out.snd.held 6 rfl
                  go_wp2_with fail
                  refine (R.own_text Q2.out a.k (by omega) (by omega)).mono ?_
                  rintro r wQ3 ⟨rfl, h1⟩
                  obtain ⟨yQ3, hys⟩ : ∃ ys, yQ2 ++ txtB a.k.toList = ys := ⟨_, rfl⟩
                  have lQ3 : yQ3.length ≤ 900001800 := by rw [← hys, List.length_append, txtB_len]; omega
                  rw [hys] at h1
                  have HYQ3 := Lib.hid hys
                  have Q3 := Lib.hid h1
                  clear h1 hys Q2
                  clear e0 e1 e2 e3 e4 e5 e6
                  have e0 := blk_cell Q3.out.snd.held 0 rfl
                  have e1 := blk_cell Q3.out.snd.held 1 rfl
                  have e2 := blk_cell Q3.out.snd.held 2 rfl
                  have e3 := blk_cell Q3.out.snd.held 3 rfl
                  have e4 := blk_cell Q3.out.snd.held 4 rfl
                  have e5 := blk_cell Q3.out.snd.held 5 rfl
                  have e6 := blk_cell Q3.out.snd.held 6 rfl
                  go_wp2_with fail
                  refine (R.own_num Q3.out a.x 8 ⟨HWW.out.x0, HWW.out.x1⟩ (by decide) (by omega)).mono ?_
                  rintro r wQ4 ⟨rfl, h1⟩
                  obtain ⟨yQ4, hys⟩ : ∃ ys, yQ3 ++ beB 8 a.x.toNat = ys := ⟨_, rfl⟩
                  have lQ4 : yQ4.length ≤ 900002400 := by rw [← hys, List.length_append, beB_length]; omega
                  rw [hys] at h1
                  have HYQ4 := Lib.hid hys
                  have Q4 := Lib.hid h1
                  clear h1 hys Q3
                  clear e0 e1 e2 e3 e4 e5 e6
                  have e0 := blk_cell Q4.out.snd.held 0 rfl
                  have e1 := blk_cell Q4.out.snd.held 1 rfl
                  have e2 := blk_cell Q4.out.snd.held 2 rfl
                  have e3 := blk_cell Q4.out.snd.held 3 rfl
                  have e4 := blk_cell Q4.out.snd.held 4 rfl
                  have e5 := blk_cell Q4.out.snd.held 5 rfl
                  have e6 := blk_cell Q4.out.snd.held 6 rfl
                  go_wp2_with fail
                  refine (R.own_text Q4.out a.v (by omega) (by omega)).mono ?_
                  rintro r wQ5 ⟨rfl, h1⟩
                  obtain ⟨yQ5, hys⟩ : ∃ ys, yQ4 ++ txtB a.v.toList = ys := ⟨_, rfl⟩
                  have lQ5 : yQ5.length ≤ 900003000 := by rw [← hys, List.length_append, txtB_len]; omega
                  rw [hys] at h1
                  have HYQ5 := Lib.hid hys
                  have Q5 := Lib.hid h1
                  clear h1 hys Q4
                  clear e0 e1 e2 e3 e4 e5 e6
                  have e0 := blk_cell Q5.out.snd.held 0 rfl
                  have e1 := blk_cell Q5.out.snd.held 1 rfl
                  have e2 := blk_cell Q5.out.snd.held 2 rfl
                  have e3 := blk_cell Q5.out.snd.held 3 rfl
                  have e4 := blk_cell Q5.out.snd.held 4 rfl
                  have e5 := blk_cell Q5.out.snd.held 5 rfl
                  have e6 := blk_cell Q5.out.snd.held 6 rfl
                  go_wp2_with fail
                  try rw [hwO]
                  refine (R.own_num Q5.out a.off 2 ⟨HMK.out.o0, by have := HMK.out.o1; omega⟩ (by decide) (by omega)).mono ?_
                  rintro r wQ6 ⟨rfl, h1⟩
                  obtain ⟨yQ6, hys⟩ : ∃ ys, yQ5 ++ beB 2 a.off.toNat = ys := ⟨_, rfl⟩
                  have lQ6 : yQ6.length ≤ 900003600 := by rw [← hys, List.length_append, beB_length]; omega
                  rw [hys] at h1
                  have HYQ6 := Lib.hid hys
                  have Q6 := Lib.hid h1
                  clear h1 hys Q5
                  clear e0 e1 e2 e3 e4 e5 e6
                  have e0 := blk_cell Q6.out.snd.held 0 rfl
                  have e1 := blk_cell Q6.out.snd.held 1 rfl
                  have e2 := blk_cell Q6.out.snd.held 2 rfl
                  have e3 := blk_cell Q6.out.snd.held 3 rfl
                  have e4 := blk_cell Q6.out.snd.held 4 rfl
                  have e5 := blk_cell Q6.out.snd.held 5 rfl
                  have e6 := blk_cell Q6.out.snd.held 6 rfl
                  go_wp2_with fail
                  refine (R.own_num Q6.out a.num 8 ⟨HWW.out.n0, HWW.out.n1⟩ (by decide) (by omega)).mono ?_
                  rintro r wQ7 ⟨rfl, h1⟩
                  obtain ⟨yQ7, hys⟩ : ∃ ys, yQ6 ++ beB 8 a.num.toNat = ys := ⟨_, rfl⟩
                  have lQ7 : yQ7.length ≤ 900004200 := by rw [← hys, List.length_append, beB_length]; omega
                  rw [hys] at h1
                  have HYQ7 := Lib.hid hys
                  have Q7 := Lib.hid h1
                  clear h1 hys Q6
                  clear e0 e1 e2 e3 e4 e5 e6
                  have HFI : z1 ++ (l.take (k + 1)).flatMap encM = yQ7 := by rw [HNX2.out, ← HYQ7.out, ← HYQ6.out, ← HYQ5.out, ← HYQ4.out, ← HYQ3.out, ← HYQ2.out, ← HYQ1.out]; simp [encM]
                  have HR1 : Hid (Own w wQ7 (Sep (R.OutR p (z1 ++ (l.take (k + 1)).flatMap encM)) (Sep (Blk pn (.cells (ndc h n) 30 (0, 0))) Emp))) := Lib.hid (by rw [HFI]; exact Q7.out.drop2)
                  clear Q7 HFI
                  go_wp2_with fail
                  go_roundw
                  case rel => exact ⟨k + 1, by omega, by go_num, HR1⟩
                  case measure => simp [intOf]; omega
                · have hlkI : ¬ (k : Int) < (q : Int) := by omega
                  have HR1 : Hid (Own w wr (Sep (R.OutR p (x4 ++ (n.bs.take (i + 1)).flatMap encL)) (Sep (Blk pn (.cells (ndc h n) 30 (0, 0))) Emp))) := Lib.hid (by
                    have := HO.out
                    rw [List.take_of_length_le (by rw [HQ.out]; omega)] at this
                    rw [HNX.out]
                    rw [← HZE.out] at this
                    unfold encL
                    rw [HQ.out, ← List.append_assoc]
                    rwa [Int.toNat_natCast] at this)
                  clear HO
                  go_wp2_with fail
                  go_roundw
                  case rel => exact ⟨i + 1, by omega, by go_num, HR1⟩
                  case measure => simp [intOf]; omega
            · have hltI : ¬ (i : Int) < (B : Int) := by omega
              have HFI : Hid (x4 ++ (n.bs.take i).flatMap encL = encN n) := Lib.hid (by
                rw [List.take_of_length_le (by rw [HB.out]; omega), HEN.out, ← HE4.out, ← HE3.out, ← HE2.out, HK.out]
                simp)
              rw [HFI.out] at HO
              obtain ⟨v, hc, ho⟩ := R.own_get HO.out
              have HG := Lib.hid ho
              clear ho HO
              go_wp2_with fail
              go_ret
              exact ⟨_, rfl, HG.out⟩
theorem qbytes_any (h : Nh) (n : Nd) (w : World) (H : NdAt w h n) (hr : rightB n = true) (hw : NdW n) :
    Calls Tryz.prog 24 #[ndv h n] w (BytesPost w n) := by
  unfold rightB at hr
  cases hl : n.leaf with
  | true =>
    rw [hl, if_pos rfl] at hr
    exact qbytes_leaf h n w H hl (leaf_fit hr hw)
  | false =>
    rw [hl, if_neg (by decide)] at hr
    exact qbytes_inner h n w H hl (inner_fit hr hw)


end Go.Proofs.YtookbmpaoljelaaGreat

namespace Go.Proofs.YtookbmpaoljelaaGreat
open Go Go.RowKit
set_option linter.unusedVariables false
set_option linter.unusedSimpArgs false
set_option maxRecDepth 100000
set_option linter.unusedSimpArgs false
set_option maxRecDepth 100000

theorem bytes_any (a b : Value) (xs ys : List UInt8) (w : World) (ha : SlC w a xs) (hb : SlC w b ys) : Calls Tryz.prog 11 #[a, b] w fun e w' => e = .returned (.bool (xs == ys)) ∧ w = w' := by
  have h1 := run_strC ha
  have h2 := run_strC hb
  have HT : Hid (∀ l : List UInt8, (ByteArray.mk l.toArray).toList = l) := Lib.hid ByteArray.toList_mk
  go_enter Tryz.func11, Tryz.ntmps11
  go_wp2_with fail
  go_ret
  exact ⟨by simp [HT.out], rfl⟩
theorem take_of {α : Type} [Inhabited α] {l : List α} {k : Nat} (h : k < l.length) : l.take (k + 1) = l.take k ++ [l.getD k default] := by
  rw [List.take_succ_eq_append_getElem h]
  simp [h]
/-- What a comparison of two lists answers. -/
def EqPost {α : Type} (xs ys : List α) (w : World) (e : Ending) (w' : World) : Prop := ∃ r : Bool, e = .returned (.bool r) ∧ (r = true ↔ xs = ys) ∧ Only (fun _ => False) w w'
theorem eq_no {α : Type} {xs ys : List α} {w w' : World} (h : xs ≠ ys) (ho : Only (fun _ => False) w w') : EqPost xs ys w (.returned (.bool false)) w' := ⟨false, rfl, ⟨(fun h => by cases h), fun e => absurd e h⟩, ho⟩
theorem eq_yes {α : Type} {xs ys : List α} {w w' : World} (h : xs = ys) (ho : Only (fun _ => False) w w') : EqPost xs ys w (.returned (.bool true)) w' := ⟨true, rfl, ⟨fun _ => h, fun _ => rfl⟩, ho⟩
theorem e_ways (a b : En) : a = b ∨ (a ≠ b ∧ (a.k.toList == b.k.toList) = false) ∨ (a ≠ b ∧ a.k = b.k ∧ (a.h == b.h) = false) ∨ (a ≠ b ∧ a.k = b.k ∧ a.h = b.h ∧ (a.v.toList == b.v.toList) = false) ∨ (a ≠ b ∧ a.k = b.k ∧ a.h = b.h ∧ a.v = b.v ∧ (a.x == b.x) = false) ∨ (a ≠ b ∧ a.k = b.k ∧ a.h = b.h ∧ a.v = b.v ∧ a.x = b.x ∧ (a.n == b.n) = false) ∨ (a ≠ b ∧ a.k = b.k ∧ a.h = b.h ∧ a.v = b.v ∧ a.x = b.x ∧ a.n = b.n ∧ (a.nv.toList == b.nv.toList) = false) := by
  obtain ⟨a0, a1, a2, a3, a4, a5⟩ := a
  obtain ⟨b0, b1, b2, b3, b4, b5⟩ := b
  by_cases h0 : a0.toList = b0.toList
  · obtain rfl := ba_ext h0
    by_cases h1 : a1 = b1
    · subst h1
      by_cases h2 : a2.toList = b2.toList
      · obtain rfl := ba_ext h2
        by_cases h3 : a3 = b3
        · subst h3
          by_cases h4 : a4 = b4
          · subst h4
            by_cases h5 : a5.toList = b5.toList
            · obtain rfl := ba_ext h5
              exact .inl rfl
            · exact .inr (.inr (.inr (.inr (.inr (.inr (⟨fun e => h5 (by injection e with _ _ _ _ _ e1; all_goals rw [e1]), rfl, rfl, rfl, rfl, rfl, by simpa using h5⟩))))))
          · exact .inr (.inr (.inr (.inr (.inr (.inl ⟨fun e => h4 (by injection e with _ _ _ _ e1 _; all_goals exact e1), rfl, rfl, rfl, rfl, by simpa using h4⟩)))))
        · exact .inr (.inr (.inr (.inr (.inl ⟨fun e => h3 (by injection e with _ _ _ e1 _ _; all_goals exact e1), rfl, rfl, rfl, by simpa using h3⟩))))
      · exact .inr (.inr (.inr (.inl ⟨fun e => h2 (by injection e with _ _ e1 _ _ _; all_goals rw [e1]), rfl, rfl, by simpa using h2⟩)))
    · exact .inr (.inr (.inl ⟨fun e => h1 (by injection e with _ e1 _ _ _ _; all_goals exact e1), rfl, by simpa using h1⟩))
  · exact .inr (.inl ⟨fun e => h0 (by injection e with e1 _ _ _ _ _; all_goals rw [e1]), by simpa using h0⟩)
set_option maxHeartbeats 4000000 in
theorem eql_e (ao bo : Option Addr) (n c m d : Nat) (xs ys : List En) (w : World) (ha : SlG w ao xs) (hb : SlG w bo ys) (hn : n = xs.length) (hm : m = ys.length) (hn47 : n ≤ 140737488351232) (hm47 : m ≤ 140737488351232) :
    Calls Tryz.prog 25 #[.slice ao n c, .slice bo m d] w (EqPost xs ys w) := by
  have HA := Lib.hid ha
  have HB := Lib.hid hb
  have HN := Lib.hid hn
  have HM := Lib.hid hm
  clear ha hb hn hm
  by_cases hnm : m = n
  · subst hnm
    go_enter Tryz.func25, Tryz.ntmps25
    go_wp2_with fail
    go_loopw [5] (fun i wr => ∃ (k : Nat), k ≤ m ∧ i = .int .i64 (k : Int) ∧ Hid (xs.take k = ys.take k) ∧ Hid (Only (fun _ => False) w wr)) (fun i _ => m - (intOf i).toNat)
    case atStart => exact ⟨0, Nat.zero_le _, rfl, Lib.hid rfl, Lib.hid (Only.refl _ _)⟩
    case round =>
      obtain ⟨k, hk, rfl, HS, HO⟩ := hrel
      by_cases hlt : k < m
      · have HKA : Hid (k < xs.length) := Lib.hid (by rw [← HN.out]; exact hlt)
        have HKB : Hid (k < ys.length) := Lib.hid (by rw [← HM.out]; exact hlt)
        obtain ⟨g, off, rfl, y0, y1, y2, y3, y4, y5⟩ := (HA.out.keep HO.out).en HKA.out
        obtain ⟨g2, off2, rfl, x0, x1, x2, x3, x4, x5⟩ := (HB.out.keep HO.out).en HKB.out
        have HTA := Lib.hid (take_of HKA.out)
        have HTB := Lib.hid (take_of HKB.out)
        generalize xs.getD k default = v at *
        generalize ys.getD k default = u at *
        have hltI : (k : Int) < (m : Int) := by omega
        have h0 : (0 : Int) ≤ (k : Int) := by omega
        have HNE : Hid (v ≠ u → xs ≠ ys) := Lib.hid (fun h e => h (by
          have e1 : xs.take (k + 1) = ys.take (k + 1) := by rw [e]
          rw [HTA.out, HTB.out, HS.out] at e1
          simpa using List.append_cancel_left e1))
        rcases e_ways v u with rfl | ⟨hne, f0⟩ | ⟨hne, f0, f1⟩ | ⟨hne, f0, f1, f2⟩ | ⟨hne, f0, f1, f2, f3⟩ | ⟨hne, f0, f1, f2, f3, f4⟩ | ⟨hne, f0, f1, f2, f3, f4, f5⟩
        · go_wp2_with fail
          go_quiet (fail)
          clear y0 x0 y1 x1 y2 x2 y3 x3 y4 x4 y5 x5
          have H2 := Lib.hid (HO.out.drewN nq)
          go_wp2_with fail
          go_roundw
          case rel => exact ⟨k + 1, by omega, by go_num, Lib.hid (by rw [HTA.out, HTB.out, HS.out]), H2⟩
          case measure => simp [intOf]; omega
        all_goals
          have HF := Lib.hid (HNE.out hne)
          clear hne HNE
          go_wp2_with fail
          go_quiet (fail)
          clear y0 x0 y1 x1 y2 x2 y3 x3 y4 x4 y5 x5
          have H2 := Lib.hid (HO.out.drewN nq)
          go_wp2_with fail
          go_ret
          exact eq_no HF.out H2.out
      · obtain rfl : k = m := by omega
        have HE : Hid (xs = ys) := Lib.hid (by
          have := HS.out
          rwa [List.take_of_length_le (by rw [HN.out]; exact Nat.le_refl _), List.take_of_length_le (by rw [HM.out]; exact Nat.le_refl _)] at this)
        have hltI : ¬ (k : Int) < (k : Int) := by omega
        go_wp2_with fail
        go_ret
        exact eq_yes HE.out HO.out
  · have hne : ((n : Int) != (m : Int)) = true := by simp; omega
    have HE : Hid (xs ≠ ys) := Lib.hid (fun h => hnm (by rw [HM.out, HN.out, h]))
    go_enter Tryz.func25, Tryz.ntmps25
    go_wp2
    go_ret
    exact eq_no HE.out (Only.refl _ _)
theorem m_ways (a b : Ms) : a = b ∨ (a ≠ b ∧ (a.sq == b.sq) = false) ∨ (a ≠ b ∧ a.sq = b.sq ∧ (a.K == b.K) = false) ∨ (a ≠ b ∧ a.sq = b.sq ∧ a.K = b.K ∧ (a.k.toList == b.k.toList) = false) ∨ (a ≠ b ∧ a.sq = b.sq ∧ a.K = b.K ∧ a.k = b.k ∧ (a.x == b.x) = false) ∨ (a ≠ b ∧ a.sq = b.sq ∧ a.K = b.K ∧ a.k = b.k ∧ a.x = b.x ∧ (a.v.toList == b.v.toList) = false) ∨ (a ≠ b ∧ a.sq = b.sq ∧ a.K = b.K ∧ a.k = b.k ∧ a.x = b.x ∧ a.v = b.v ∧ (a.off == b.off) = false) ∨ (a ≠ b ∧ a.sq = b.sq ∧ a.K = b.K ∧ a.k = b.k ∧ a.x = b.x ∧ a.v = b.v ∧ a.off = b.off ∧ (a.num == b.num) = false) := by
  obtain ⟨a0, a1, a2, a3, a4, a5, a6⟩ := a
  obtain ⟨b0, b1, b2, b3, b4, b5, b6⟩ := b
  by_cases h0 : a0 = b0
  · subst h0
    by_cases h1 : a1 = b1
    · subst h1
      by_cases h2 : a2.toList = b2.toList
      · obtain rfl := ba_ext h2
        by_cases h3 : a3 = b3
        · subst h3
          by_cases h4 : a4.toList = b4.toList
          · obtain rfl := ba_ext h4
            by_cases h5 : a5 = b5
            · subst h5
              by_cases h6 : a6 = b6
              · subst h6
                exact .inl rfl
              · exact .inr (.inr (.inr (.inr (.inr (.inr (.inr (⟨fun e => h6 (by injection e with _ _ _ _ _ _ e1; all_goals exact e1), rfl, rfl, rfl, rfl, rfl, rfl, by simpa using h6⟩)))))))
            · exact .inr (.inr (.inr (.inr (.inr (.inr (.inl ⟨fun e => h5 (by injection e with _ _ _ _ _ e1 _; all_goals exact e1), rfl, rfl, rfl, rfl, rfl, by simpa using h5⟩))))))
          · exact .inr (.inr (.inr (.inr (.inr (.inl ⟨fun e => h4 (by injection e with _ _ _ _ e1 _ _; all_goals rw [e1]), rfl, rfl, rfl, rfl, by simpa using h4⟩)))))
        · exact .inr (.inr (.inr (.inr (.inl ⟨fun e => h3 (by injection e with _ _ _ e1 _ _ _; all_goals exact e1), rfl, rfl, rfl, by simpa using h3⟩))))
      · exact .inr (.inr (.inr (.inl ⟨fun e => h2 (by injection e with _ _ e1 _ _ _ _; all_goals rw [e1]), rfl, rfl, by simpa using h2⟩)))
    · exact .inr (.inr (.inl ⟨fun e => h1 (by injection e with _ e1 _ _ _ _ _; all_goals exact e1), rfl, by simpa using h1⟩))
  · exact .inr (.inl ⟨fun e => h0 (by injection e with e1 _ _ _ _ _ _; all_goals exact e1), by simpa using h0⟩)
set_option maxHeartbeats 4000000 in
theorem eql_m (ao bo : Option Addr) (n c m d : Nat) (xs ys : List Ms) (w : World) (ha : SlG w ao xs) (hb : SlG w bo ys) (hn : n = xs.length) (hm : m = ys.length) (hn47 : n ≤ 140737488351232) (hm47 : m ≤ 140737488351232) :
    Calls Tryz.prog 27 #[.slice ao n c, .slice bo m d] w (EqPost xs ys w) := by
  have HA := Lib.hid ha
  have HB := Lib.hid hb
  have HN := Lib.hid hn
  have HM := Lib.hid hm
  clear ha hb hn hm
  by_cases hnm : m = n
  · subst hnm
    go_enter Tryz.func27, Tryz.ntmps27
    go_wp2_with fail
    go_loopw [5] (fun i wr => ∃ (k : Nat), k ≤ m ∧ i = .int .i64 (k : Int) ∧ Hid (xs.take k = ys.take k) ∧ Hid (Only (fun _ => False) w wr)) (fun i _ => m - (intOf i).toNat)
    case atStart => exact ⟨0, Nat.zero_le _, rfl, Lib.hid rfl, Lib.hid (Only.refl _ _)⟩
    case round =>
      obtain ⟨k, hk, rfl, HS, HO⟩ := hrel
      by_cases hlt : k < m
      · have HKA : Hid (k < xs.length) := Lib.hid (by rw [← HN.out]; exact hlt)
        have HKB : Hid (k < ys.length) := Lib.hid (by rw [← HM.out]; exact hlt)
        obtain ⟨g, off, rfl, y0, y1, y2, y3, y4, y5, y6⟩ := (HA.out.keep HO.out).ms HKA.out
        obtain ⟨g2, off2, rfl, x0, x1, x2, x3, x4, x5, x6⟩ := (HB.out.keep HO.out).ms HKB.out
        have HTA := Lib.hid (take_of HKA.out)
        have HTB := Lib.hid (take_of HKB.out)
        generalize xs.getD k default = v at *
        generalize ys.getD k default = u at *
        have hltI : (k : Int) < (m : Int) := by omega
        have h0 : (0 : Int) ≤ (k : Int) := by omega
        have HNE : Hid (v ≠ u → xs ≠ ys) := Lib.hid (fun h e => h (by
          have e1 : xs.take (k + 1) = ys.take (k + 1) := by rw [e]
          rw [HTA.out, HTB.out, HS.out] at e1
          simpa using List.append_cancel_left e1))
        rcases m_ways v u with rfl | ⟨hne, f0⟩ | ⟨hne, f0, f1⟩ | ⟨hne, f0, f1, f2⟩ | ⟨hne, f0, f1, f2, f3⟩ | ⟨hne, f0, f1, f2, f3, f4⟩ | ⟨hne, f0, f1, f2, f3, f4, f5⟩ | ⟨hne, f0, f1, f2, f3, f4, f5, f6⟩
        · go_wp2_with fail
          go_quiet (fail)
          clear y0 x0 y1 x1 y2 x2 y3 x3 y4 x4 y5 x5 y6 x6
          have H2 := Lib.hid (HO.out.drewN nq)
          go_wp2_with fail
          go_roundw
          case rel => exact ⟨k + 1, by omega, by go_num, Lib.hid (by rw [HTA.out, HTB.out, HS.out]), H2⟩
          case measure => simp [intOf]; omega
        all_goals
          have HF := Lib.hid (HNE.out hne)
          clear hne HNE
          go_wp2_with fail
          go_quiet (fail)
          clear y0 x0 y1 x1 y2 x2 y3 x3 y4 x4 y5 x5 y6 x6
          have H2 := Lib.hid (HO.out.drewN nq)
          go_wp2_with fail
          go_ret
          exact eq_no HF.out H2.out
      · obtain rfl : k = m := by omega
        have HE : Hid (xs = ys) := Lib.hid (by
          have := HS.out
          rwa [List.take_of_length_le (by rw [HN.out]; exact Nat.le_refl _), List.take_of_length_le (by rw [HM.out]; exact Nat.le_refl _)] at this)
        have hltI : ¬ (k : Int) < (k : Int) := by omega
        go_wp2_with fail
        go_ret
        exact eq_yes HE.out HO.out
  · have hne : ((n : Int) != (m : Int)) = true := by simp; omega
    have HE : Hid (xs ≠ ys) := Lib.hid (fun h => hnm (by rw [HM.out, HN.out, h]))
    go_enter Tryz.func27, Tryz.ntmps27
    go_wp2
    go_ret
    exact eq_no HE.out (Only.refl _ _)
theorem s_ways (a b : ByteArray) : a = b ∨ (a ≠ b ∧ (a.toList == b.toList) = false) := by
  by_cases h : a.toList = b.toList
  · exact .inl (ba_ext h)
  · exact .inr ⟨fun e => h (by rw [e]), by simpa using h⟩
set_option maxHeartbeats 4000000 in
theorem eql_s (ao bo : Option Addr) (n c m d : Nat) (xs ys : List ByteArray) (w : World) (ha : SlG w ao xs) (hb : SlG w bo ys) (hn : n = xs.length) (hm : m = ys.length) (hn47 : n ≤ 140737488351232) (hm47 : m ≤ 140737488351232) :
    Calls Tryz.prog 26 #[.slice ao n c, .slice bo m d] w (EqPost xs ys w) := by
  have HA := Lib.hid ha
  have HB := Lib.hid hb
  have HN := Lib.hid hn
  have HM := Lib.hid hm
  clear ha hb hn hm
  by_cases hnm : m = n
  · subst hnm
    go_enter Tryz.func26, Tryz.ntmps26
    go_wp2_with fail
    go_loopw [5] (fun i wr => ∃ (k : Nat), k ≤ m ∧ i = .int .i64 (k : Int) ∧ Hid (xs.take k = ys.take k) ∧ Hid (Only (fun _ => False) w wr)) (fun i _ => m - (intOf i).toNat)
    case atStart => exact ⟨0, Nat.zero_le _, rfl, Lib.hid rfl, Lib.hid (Only.refl _ _)⟩
    case round =>
      obtain ⟨k, hk, rfl, HS, HO⟩ := hrel
      by_cases hlt : k < m
      · have HKA : Hid (k < xs.length) := Lib.hid (by rw [← HN.out]; exact hlt)
        have HKB : Hid (k < ys.length) := Lib.hid (by rw [← HM.out]; exact hlt)
        obtain ⟨g, off, rfl, y0⟩ := (HA.out.keep HO.out).st HKA.out
        obtain ⟨g2, off2, rfl, x0⟩ := (HB.out.keep HO.out).st HKB.out
        have HTA := Lib.hid (take_of HKA.out)
        have HTB := Lib.hid (take_of HKB.out)
        generalize xs.getD k default = v at *
        generalize ys.getD k default = u at *
        have hltI : (k : Int) < (m : Int) := by omega
        have h0 : (0 : Int) ≤ (k : Int) := by omega
        have HNE : Hid (v ≠ u → xs ≠ ys) := Lib.hid (fun h e => h (by
          have e1 : xs.take (k + 1) = ys.take (k + 1) := by rw [e]
          rw [HTA.out, HTB.out, HS.out] at e1
          simpa using List.append_cancel_left e1))
        rcases s_ways v u with rfl | ⟨hne, f0⟩
        · go_wp2_with fail
          go_quiet (fail)
          clear y0 x0
          have H2 := Lib.hid (HO.out.drewN nq)
          go_wp2_with fail
          go_roundw
          case rel => exact ⟨k + 1, by omega, by go_num, Lib.hid (by rw [HTA.out, HTB.out, HS.out]), H2⟩
          case measure => simp [intOf]; omega
        all_goals
          have HF := Lib.hid (HNE.out hne)
          clear hne HNE
          go_wp2_with fail
          go_quiet (fail)
          clear y0 x0
          have H2 := Lib.hid (HO.out.drewN nq)
          go_wp2_with fail
          go_ret
          exact eq_no HF.out H2.out
      · obtain rfl : k = m := by omega
        have HE : Hid (xs = ys) := Lib.hid (by
          have := HS.out
          rwa [List.take_of_length_le (by rw [HN.out]; exact Nat.le_refl _), List.take_of_length_le (by rw [HM.out]; exact Nat.le_refl _)] at this)
        have hltI : ¬ (k : Int) < (k : Int) := by omega
        go_wp2_with fail
        go_ret
        exact eq_yes HE.out HO.out
  · have hne : ((n : Int) != (m : Int)) = true := by simp; omega
    have HE : Hid (xs ≠ ys) := Lib.hid (fun h => hnm (by rw [HM.out, HN.out, h]))
    go_enter Tryz.func26, Tryz.ntmps26
    go_wp2
    go_ret
    exact eq_no HE.out (Only.refl _ _)

end Go.Proofs.YtookbmpaoljelaaGreat

namespace Go.Proofs.YtookbmpaoljelaaGreat
open Go Go.RowKit
set_option linter.unusedVariables false
set_option linter.unusedSimpArgs false
set_option maxRecDepth 100000
set_option linter.unusedSimpArgs false
set_option maxRecDepth 100000

theorem bas (s : ByteArray) : s.toList.length = s.size := by rw [ByteArray.toList_eq]; rfl
theorem pnum_enc (n x : Nat) (ys : List UInt8) (hx : x < 256 ^ n) : pNum n (beB n x ++ ys) = some (x, ys) := by
  have hl : (beB n x).length = n := beB_length n x
  have hc : can n (beB n x ++ ys) false = true := by simp [can, hl]
  unfold pNum
  rw [if_pos hc]
  have h1 : nextR n (beB n x ++ ys) false = beB n x := by
    unfold nextR
    rw [if_pos hc, List.take_append_of_le_length (by omega), List.take_of_length_le (by omega)]
  have h2 : nextL n (beB n x ++ ys) false = ys := by
    unfold nextL
    rw [if_pos hc, List.drop_append_of_le_length (by omega), List.drop_of_length_le (by omega), List.nil_append]
  rw [h1, h2, numB_be' x n hx]
theorem pnum_inv {n x : Nat} {xs ys : List UInt8} (h : pNum n xs = some (x, ys)) : xs = beB n x ++ ys ∧ x < 256 ^ n := by
  unfold pNum at h
  by_cases hc : can n xs false = true
  · rw [if_pos hc] at h
    simp only [Option.some.injEq, Prod.mk.injEq] at h
    obtain ⟨rfl, rfl⟩ := h
    have hl : n ≤ xs.length := by simpa [can] using hc
    unfold nextR nextL
    rw [if_pos hc, if_pos hc, beB_numB n _ (by rw [List.length_take]; omega), List.take_append_drop]
    exact ⟨rfl, numB_lt n _ (by rw [List.length_take]; omega)⟩
  · rw [if_neg hc] at h
    cases h
theorem pflag_enc (f : Bool) (ys : List UInt8) : pFlag (flagB f ++ ys) = some (f, ys) := by
  cases f <;> simp [pFlag, flagB, flagOk, flagR, flagL, can]
theorem pflag_inv {f : Bool} {xs ys : List UInt8} (h : pFlag xs = some (f, ys)) : xs = flagB f ++ ys := by
  unfold pFlag at h
  by_cases hc : flagOk xs false = true
  · rw [if_pos hc] at h
    simp only [Option.some.injEq, Prod.mk.injEq] at h
    obtain ⟨rfl, rfl⟩ := h
    cases xs with
    | nil => simp [flagOk, can] at hc
    | cons c r =>
      have hb : c.toNat ≤ 1 := by simpa [flagOk, can] using hc
      have : c.toNat = 0 ∨ c.toNat = 1 := by omega
      rcases this with e | e
      · obtain rfl : c = 0 := UInt8.toNat_inj.1 e
        simp [flagR, flagL, flagOk, can, flagB]
      · obtain rfl : c = 1 := UInt8.toNat_inj.1 e
        simp [flagR, flagL, flagOk, can, flagB]
  · rw [if_neg hc] at h
    cases h
theorem ba_list (s : ByteArray) : (⟨s.toList.toArray⟩ : ByteArray) = s := ba_ext (ByteArray.toList_mk s.toList)
theorem ptext_enc (s : ByteArray) (ys : List UInt8) (hs : s.size ≤ 65535) : pText (txtB s.toList ++ ys) = some (s, ys) := by
  have hz := bas s
  have hb : (beB 2 s.toList.length).length = 2 := beB_length 2 _
  have ha : txtB s.toList ++ ys = beB 2 s.toList.length ++ (s.toList ++ ys) := by simp [txtB]
  have h1 : (txtB s.toList ++ ys).take 2 = beB 2 s.toList.length := by
    rw [ha, List.take_append_of_le_length (by omega)]
    exact List.take_of_length_le (by omega)
  have h2 : (txtB s.toList ++ ys).drop 2 = s.toList ++ ys := by
    rw [ha, List.drop_append_of_le_length (by omega), List.drop_of_length_le (by omega), List.nil_append]
  have hn : txtN (txtB s.toList ++ ys) = s.toList.length := by unfold txtN; rw [h1, numB_be]; omega
  have hok : txtOk (txtB s.toList ++ ys) false = true := by
    unfold txtOk
    rw [hn, h2]
    simp [can, txtB, hb]
  unfold pText
  rw [if_pos hok]
  have h3 : txtR (txtB s.toList ++ ys) false = s.toList := by unfold txtR; rw [hok, if_pos rfl, h2, hn]; simp
  have h4 : txtL (txtB s.toList ++ ys) false = ys := by unfold txtL; rw [hok, if_pos rfl, h2, hn]; simp
  rw [h3, h4, ba_list]
theorem ptext_inv {s : ByteArray} {xs ys : List UInt8} (h : pText xs = some (s, ys)) : xs = txtB s.toList ++ ys ∧ s.size ≤ 65535 := by
  unfold pText at h
  by_cases hc : txtOk xs false = true
  · rw [if_pos hc] at h
    simp only [Option.some.injEq, Prod.mk.injEq] at h
    obtain ⟨rfl, rfl⟩ := h
    have hc2 := hc
    unfold txtOk at hc2
    rw [Bool.and_eq_true] at hc2
    have h1 : 2 ≤ xs.length := by simpa [can] using hc2.1
    have h2 : txtN xs ≤ (xs.drop 2).length := by simpa [can] using hc2.2
    have hn : txtN xs < 65536 := numB_lt 2 _ (by rw [List.length_take]; omega)
    unfold txtR txtL
    rw [if_pos hc, if_pos hc]
    have hl : ((xs.drop 2).take (txtN xs)).length = txtN xs := by rw [List.length_take]; omega
    have e1 : (⟨((xs.drop 2).take (txtN xs)).toArray⟩ : ByteArray).toList = (xs.drop 2).take (txtN xs) := ByteArray.toList_mk _
    refine ⟨?_, ?_⟩
    · unfold txtB
      rw [e1, hl, List.append_assoc, List.take_append_drop]
      have e2 : beB 2 (txtN xs) = xs.take 2 := beB_numB 2 _ (by rw [List.length_take]; omega)
      rw [e2, List.take_append_drop]
    · rw [← bas, e1, hl]; omega
  · rw [if_neg hc] at h
    cases h

/-- A reader of what is written so. -/
structure Fit {α : Type} (p : Prs α) (enc : α → List UInt8) (ok : α → Prop) : Prop where
  f : ∀ a ys, ok a → p (enc a ++ ys) = some (a, ys)
  b : ∀ xs a ys, p xs = some (a, ys) → xs = enc a ++ ys ∧ ok a
structure EnW (e : En) : Prop where
  k : e.k.size ≤ 65535
  v : e.v.size ≤ 65535
  n : e.nv.size ≤ 65535
  x : NumW e.x
structure MsT (m : Ms) : Prop where
  k : m.k.size ≤ 65535
  v : m.v.size ≤ 65535
  w : MsW m
  K0 : 0 ≤ m.K
  K1 : m.K < 256
  o0 : 0 ≤ m.off
  o1 : m.off < 65536
theorem numW_nat {x : Int} (h : NumW x) : ((x.toNat : Nat) : Int) = x ∧ x.toNat < 256 ^ 8 := by
  obtain ⟨h1, h2⟩ := h
  exact ⟨by omega, by omega⟩
theorem nat_numW {x : Nat} (h : x < 256 ^ 8) : NumW (x : Int) := ⟨by omega, by omega⟩
theorem fit_kid : Fit pKid encK NumW := by
  refine ⟨fun a ys h => ?_, fun xs a ys h => ?_⟩
  · obtain ⟨e1, e2⟩ := numW_nat h
    unfold pKid encK
    rw [pBind_some (pnum_enc 8 _ ys e2)]
    show some _ = _
    rw [e1]
  · unfold pKid at h
    obtain ⟨x, zs, h1, h2⟩ := pBind_inv h
    obtain ⟨rfl, rfl⟩ := pRet_inv h2
    obtain ⟨e1, e2⟩ := pnum_inv h1
    exact ⟨by rw [e1]; unfold encK; rw [Int.toNat_natCast], nat_numW e2⟩
theorem fit_text : Fit pText encP (fun s => s.size ≤ 65535) := ⟨fun a ys h => ptext_enc a ys h, fun xs a ys h => ptext_inv h⟩
theorem fit_entry : Fit pEntry encE EnW := by
  refine ⟨fun a ys h => ?_, fun xs a ys h => ?_⟩
  · obtain ⟨k, hh, v, x, n, nv⟩ := a
    obtain ⟨e1, e2⟩ := numW_nat h.x
    unfold pEntry encE
    simp only [List.append_assoc]
    rw [pBind_some (ptext_enc k _ h.k), pBind_some (pflag_enc hh _), pBind_some (ptext_enc v _ h.v), pBind_some (pnum_enc 8 _ _ e2), pBind_some (pflag_enc n _), pBind_some (ptext_enc nv _ h.n)]
    show some _ = _
    rw [e1]
  · unfold pEntry at h
    obtain ⟨k, z1, h1, h⟩ := pBind_inv h
    obtain ⟨hh, z2, h2, h⟩ := pBind_inv h
    obtain ⟨v, z3, h3, h⟩ := pBind_inv h
    obtain ⟨x, z4, h4, h⟩ := pBind_inv h
    obtain ⟨n, z5, h5, h⟩ := pBind_inv h
    obtain ⟨nv, z6, h6, h⟩ := pBind_inv h
    obtain ⟨rfl, rfl⟩ := pRet_inv h
    obtain ⟨f1, g1⟩ := ptext_inv h1
    have f2 := pflag_inv h2
    obtain ⟨f3, g3⟩ := ptext_inv h3
    obtain ⟨f4, g4⟩ := pnum_inv h4
    have f5 := pflag_inv h5
    obtain ⟨f6, g6⟩ := ptext_inv h6
    refine ⟨?_, ⟨g1, g3, g6, nat_numW g4⟩⟩
    rw [f1, f2, f3, f4, f5, f6]
    simp [encE]
theorem fit_msg : Fit pMsg encM MsT := by
  refine ⟨fun a ys h => ?_, fun xs a ys h => ?_⟩
  · obtain ⟨sq, K, k, x, v, off, num⟩ := a
    obtain ⟨e1, e2⟩ := numW_nat ⟨h.w.s0, h.w.s1⟩
    obtain ⟨e3, e4⟩ := numW_nat ⟨h.w.x0, h.w.x1⟩
    obtain ⟨e5, e6⟩ := numW_nat ⟨h.w.n0, h.w.n1⟩
    have hK0 := h.K0
    have hK1 := h.K1
    have ho0 := h.o0
    have ho1 := h.o1
    simp only at e1 e2 e3 e4 e5 e6 hK0 hK1 ho0 ho1
    unfold pMsg encM
    simp only [List.append_assoc]
    rw [pBind_some (pnum_enc 8 _ _ e2), pBind_some (pnum_enc 1 _ _ (by omega)), pBind_some (ptext_enc k _ h.k), pBind_some (pnum_enc 8 _ _ e4), pBind_some (ptext_enc v _ h.v), pBind_some (pnum_enc 2 _ _ (by omega)), pBind_some (pnum_enc 8 _ _ e6)]
    show some _ = _
    rw [e1, e3, e5, show ((K.toNat : Nat) : Int) = K by omega, show ((off.toNat : Nat) : Int) = off by omega]
  · unfold pMsg at h
    obtain ⟨sq, z1, h1, h⟩ := pBind_inv h
    obtain ⟨K, z2, h2, h⟩ := pBind_inv h
    obtain ⟨k, z3, h3, h⟩ := pBind_inv h
    obtain ⟨x, z4, h4, h⟩ := pBind_inv h
    obtain ⟨v, z5, h5, h⟩ := pBind_inv h
    obtain ⟨off, z6, h6, h⟩ := pBind_inv h
    obtain ⟨num, z7, h7, h⟩ := pBind_inv h
    obtain ⟨rfl, rfl⟩ := pRet_inv h
    obtain ⟨f1, g1⟩ := pnum_inv h1
    obtain ⟨f2, g2⟩ := pnum_inv h2
    obtain ⟨f3, g3⟩ := ptext_inv h3
    obtain ⟨f4, g4⟩ := pnum_inv h4
    obtain ⟨f5, g5⟩ := ptext_inv h5
    obtain ⟨f6, g6⟩ := pnum_inv h6
    obtain ⟨f7, g7⟩ := pnum_inv h7
    refine ⟨?_, ⟨g3, g5, ⟨(nat_numW g1).1, (nat_numW g1).2, (nat_numW g4).1, (nat_numW g4).2, (nat_numW g7).1, (nat_numW g7).2⟩, by show (0 : Int) ≤ (K : Int); omega, by show (K : Int) < 256; omega, by show (0 : Int) ≤ (off : Int); omega, by show (off : Int) < 65536; omega⟩⟩
    rw [f1, f2, f3, f4, f5, f6, f7]
    simp [encM]
theorem fit_many {α : Type} {p : Prs α} {enc : α → List UInt8} {ok : α → Prop} (h : Fit p enc ok) : ∀ n, Fit (pMany p n) (fun l => l.flatMap enc) (fun l => l.length = n ∧ ∀ a ∈ l, ok a)
  | 0 => ⟨fun a ys hk => by
      have : a = [] := List.eq_nil_of_length_eq_zero hk.1
      subst this
      rfl, fun xs a ys hk => by
      obtain ⟨rfl, rfl⟩ := pRet_inv hk
      exact ⟨rfl, rfl, fun a ha => by cases ha⟩⟩
  | n + 1 => by
    have ih := fit_many h n
    refine ⟨fun a ys hk => ?_, fun xs a ys hk => ?_⟩
    · match a, hk with
      | b :: l, ⟨h1, h2⟩ =>
        rw [pMany, List.flatMap_cons, List.append_assoc, pBind_some (h.f b _ (h2 b (by simp)))]
        rw [pBind_some (ih.f l ys ⟨by simpa using h1, fun x hx => h2 x (by simp [hx])⟩)]
        rfl
    · rw [pMany] at hk
      obtain ⟨b, z1, h1, hk⟩ := pBind_inv hk
      obtain ⟨l, z2, h2, hk⟩ := pBind_inv hk
      obtain ⟨rfl, rfl⟩ := pRet_inv hk
      obtain ⟨f1, g1⟩ := h.b _ _ _ h1
      obtain ⟨f2, g2, g3⟩ := ih.b _ _ _ h2
      refine ⟨?_, by simp [g2], fun x hx => ?_⟩
      · rw [f1, f2]; simp
      · rcases List.mem_cons.1 hx with rfl | hx
        · exact g1
        · exact g3 x hx
theorem fit_buf : Fit pBuf encL (fun l => l.length < 65536 ∧ ∀ m ∈ l, MsT m) := by
  refine ⟨fun a ys h => ?_, fun xs a ys h => ?_⟩
  · unfold pBuf encL
    rw [List.append_assoc, pBind_some (pnum_enc 2 _ _ (by have := h.1; omega))]
    exact (fit_many fit_msg a.length).f a ys ⟨rfl, h.2⟩
  · unfold pBuf at h
    obtain ⟨c, z1, h1, h2⟩ := pBind_inv h
    obtain ⟨f1, g1⟩ := pnum_inv h1
    obtain ⟨f2, g2, g3⟩ := (fit_many fit_msg c).b _ _ _ h2
    refine ⟨?_, by rw [g2]; omega, g3⟩
    rw [f1, f2, encL, g2]
    simp

/-- A node that can be written and read. -/
structure NdT (n : Nd) : Prop where
  l : n.leaf = true → n.ps = [] ∧ n.ks = [] ∧ n.bs = [] ∧ n.es.length < 65536 ∧ ∀ e ∈ n.es, EnW e
  i : n.leaf = false → n.es = [] ∧ n.ks.length < 65536 ∧ n.ps.length = n.ks.length - 1 ∧ n.bs.length = n.ks.length ∧ (∀ k ∈ n.ks, NumW k) ∧ (∀ p ∈ n.ps, p.size ≤ 65535) ∧ ∀ l ∈ n.bs, l.length < 65536 ∧ ∀ m ∈ l, MsT m
theorem fit_node : Fit pNode encN NdT := by
  refine ⟨fun a ys h => ?_, fun xs a ys h => ?_⟩
  · obtain ⟨leaf, es, ps, ks, bs⟩ := a
    cases leaf with
    | true =>
      obtain ⟨e1, e2, e3, e4, e5⟩ := h.l rfl
      simp only at e1 e2 e3 e4 e5
      subst e1 e2 e3
      unfold pNode encN
      rw [List.append_assoc, pBind_some (pflag_enc true _)]
      simp only [if_true]
      unfold pLeaf
      rw [List.append_assoc, pBind_some (pnum_enc 2 _ _ (by omega)), pBind_some ((fit_many fit_entry es.length).f es ys ⟨rfl, e5⟩)]
      rfl
    | false =>
      obtain ⟨e1, e2, e3, e4, e5, e6, e7⟩ := h.i rfl
      simp only at e1 e2 e3 e4 e5 e6 e7
      subst e1
      unfold pNode encN
      rw [List.append_assoc, pBind_some (pflag_enc false _)]
      simp only [Bool.false_eq_true, if_false]
      unfold pInner
      rw [List.append_assoc, pBind_some (pnum_enc 2 _ _ (by omega)), List.append_assoc, pBind_some ((fit_many fit_kid ks.length).f ks _ ⟨rfl, e5⟩), List.append_assoc, pBind_some ((fit_many fit_text (ks.length - 1)).f ps _ ⟨e3, e6⟩), pBind_some ((fit_many fit_buf ks.length).f bs ys ⟨e4, e7⟩)]
      rfl
  · unfold pNode at h
    obtain ⟨leaf, z1, h1, h⟩ := pBind_inv h
    have f1 := pflag_inv h1
    cases leaf with
    | true =>
      simp only [if_true] at h
      unfold pLeaf at h
      obtain ⟨c, z2, h2, h⟩ := pBind_inv h
      obtain ⟨es, z3, h3, h⟩ := pBind_inv h
      obtain ⟨rfl, rfl⟩ := pRet_inv h
      obtain ⟨f2, g2⟩ := pnum_inv h2
      obtain ⟨f3, g3, g4⟩ := (fit_many fit_entry c).b _ _ _ h3
      refine ⟨?_, fun _ => ⟨rfl, rfl, rfl, by show es.length < _; rw [g3]; omega, g4⟩, fun e => by cases e⟩
      rw [f1, f2, f3]
      unfold encN
      simp [g3]
    | false =>
      simp only [Bool.false_eq_true, if_false] at h
      unfold pInner at h
      obtain ⟨c, z2, h2, h⟩ := pBind_inv h
      obtain ⟨ks, z3, h3, h⟩ := pBind_inv h
      obtain ⟨ps, z4, h4, h⟩ := pBind_inv h
      obtain ⟨bs, z5, h5, h⟩ := pBind_inv h
      obtain ⟨rfl, rfl⟩ := pRet_inv h
      obtain ⟨f2, g2⟩ := pnum_inv h2
      obtain ⟨f3, g3, g3'⟩ := (fit_many fit_kid c).b _ _ _ h3
      obtain ⟨f4, g4, g4'⟩ := (fit_many fit_text (c - 1)).b _ _ _ h4
      obtain ⟨f5, g5, g5'⟩ := (fit_many fit_buf c).b _ _ _ h5
      refine ⟨?_, (fun e => by cases e), fun _ => ⟨rfl, by show ks.length < _; rw [g3]; omega, by show ps.length = ks.length - 1; rw [g3, g4], by show bs.length = ks.length; rw [g3, g5], g3', g4', g5'⟩⟩
      rw [f1, f2, f3, f4, f5]
      unfold encN
      simp [g3]

end Go.Proofs.YtookbmpaoljelaaGreat

namespace Go.Proofs.YtookbmpaoljelaaGreat
open Go Go.RowKit
set_option linter.unusedVariables false
set_option linter.unusedSimpArgs false
set_option maxRecDepth 100000
set_option linter.unusedSimpArgs false
set_option maxRecDepth 100000

theorem right_fit {n : Nd} (h : rightB n = true) (hw : NdW n) : NdT n := by
  unfold rightB at h
  refine ⟨fun e => ?_, fun e => ?_⟩
  · rw [e, if_pos rfl] at h
    have hf := leaf_fit h hw
    exact ⟨List.eq_nil_of_length_eq_zero hf.p, List.eq_nil_of_length_eq_zero hf.k, List.eq_nil_of_length_eq_zero hf.b, by have := hf.l; omega, fun e he => ⟨by have := (hf.e e he).k; omega, by have := (hf.e e he).v; omega, by have := (hf.e e he).n; omega, (hf.e e he).x⟩⟩
  · rw [e, if_neg (by decide)] at h
    have hf := inner_fit h hw
    have hs : shapeB n = true := by
      unfold innerB at h
      simp only [Bool.and_eq_true] at h
      exact h.1.1.1.1.1
    obtain ⟨b1, b2, b3, b4, b5⟩ := shape_yes hs
    exact ⟨List.eq_nil_of_length_eq_zero hf.le, by omega, by omega, b4, hf.k, fun p hp => by have := hf.p p hp; omega, fun l hl => ⟨by have := hf.l l hl; omega, fun m hm => ⟨by have := (hf.m l hl m hm).k; omega, by have := (hf.m l hl m hm).v; omega, (hf.m l hl m hm).w, (hf.m l hl m hm).K0, (hf.m l hl m hm).K1, (hf.m l hl m hm).o0, (hf.m l hl m hm).o1⟩⟩⟩
theorem fit_wide {n : Nd} (h : NdT n) : NdW n := by
  cases hl : n.leaf with
  | true =>
    obtain ⟨e1, e2, e3, e4, e5⟩ := h.l hl
    exact ⟨fun e he => (e5 e he).x, fun k hk => (by rw [e2] at hk; cases hk), fun l hl => (by rw [e3] at hl; cases hl)⟩
  | false =>
    obtain ⟨e1, e2, e3, e4, e5, e6, e7⟩ := h.i hl
    exact ⟨fun e he => (by rw [e1] at he; cases he), e5, fun l hl m hm => ((e7 l hl).2 m hm).w⟩
theorem dec_enc {n : Nd} (h : rightB n = true) (hw : NdW n) (hl : (encN n).length ≤ 32768) : decN (encN n) = some n := by
  have h1 := fit_node.f n [] (right_fit h hw)
  rw [List.append_nil] at h1
  unfold decN
  rw [if_neg (by omega), h1]
  simp only
  rw [if_pos h]
theorem dec_inv {bs : List UInt8} {n : Nd} (h : decN bs = some n) : rightB n = true ∧ NdW n ∧ encN n = bs ∧ bs.length ≤ 32768 := by
  unfold decN at h
  by_cases hl : 32768 < bs.length
  · rw [if_pos hl] at h; cases h
  rw [if_neg hl] at h
  match hp : pNode bs with
  | none => rw [hp] at h; cases h
  | some (m, c :: r) => rw [hp] at h; cases h
  | some (m, []) =>
    rw [hp] at h
    simp only at h
    by_cases hr : rightB m = true
    · rw [if_pos hr] at h
      simp only [Option.some.injEq] at h
      subst h
      obtain ⟨f1, f2⟩ := fit_node.b _ _ _ hp
      rw [List.append_nil] at f1
      exact ⟨hr, fit_wide f2, f1.symm, by omega⟩
    · rw [if_neg hr] at h; cases h
theorem dec_more {n : Nd} (h : rightB n = true) (hw : NdW n) (c : UInt8) : decN (encN n ++ [c]) = none := by
  have h1 := fit_node.f n [c] (right_fit h hw)
  unfold decN
  split
  · rfl
  · rw [h1]
theorem dec_less {n : Nd} (h : rightB n = true) (hw : NdW n) {xs : List UInt8} {c : UInt8} (he : encN n = xs ++ [c]) : decN xs = none := by
  cases hd : decN xs with
  | none => rfl
  | some m =>
    obtain ⟨m1, m2, m3, m4⟩ := dec_inv hd
    have h1 := fit_node.f n [] (right_fit h hw)
    have h2 := fit_node.f m [c] (right_fit m1 m2)
    rw [List.append_nil, he] at h1
    rw [m3, h1] at h2
    simp at h2
theorem enc_inj {a b : Nd} (ha : rightB a = true) (hwa : NdW a) (hb : rightB b = true) (hwb : NdW b) (h : encN a = encN b) : a = b := by
  have h1 := fit_node.f a [] (right_fit ha hwa)
  have h2 := fit_node.f b [] (right_fit hb hwb)
  rw [h, h2] at h1
  simp only [Option.some.injEq, Prod.mk.injEq, and_true] at h1
  exact h1.symm
theorem enc_ne {n : Nd} : encN n ≠ [] := by
  unfold encN
  cases n.leaf <;> simp [flagB]

/-! ### The fixed node -/
def ndA : Nd := ⟨false, [], [⟨#[109]⟩], [5, 6], [[], []]⟩
def ndB : Nd := ⟨true, [⟨⟨#[107]⟩, true, ⟨#[118]⟩, 0, false, ⟨#[]⟩⟩], [], [], []⟩
def bytesA : List UInt8 := [1, 0, 1, 0, 1, 107, 1, 0, 1, 118, 0, 0, 0, 0, 0, 0, 0, 0, 0, 0, 0]
theorem tl (l : List UInt8) : (ByteArray.mk l.toArray).toList = l := ByteArray.toList_mk l
theorem tl0 : (ByteArray.mk #[]).toList = [] := tl []
theorem tlm : (ByteArray.mk #[109]).toList = [109] := tl [109]
theorem tlk : (ByteArray.mk #[107]).toList = [107] := tl [107]
theorem tlv : (ByteArray.mk #[118]).toList = [118] := tl [118]
theorem ndA_right : rightB ndA = true := by decide +kernel
theorem ndA_w : NdW ndA := by
  refine ⟨fun e he => (by cases he), fun k hk => ?_, fun l hl m hm => ?_⟩
  · simp [ndA] at hk
    rcases hk with rfl | rfl <;> exact ⟨by decide, by decide⟩
  · simp [ndA] at hl
    subst hl
    cases hm
theorem ndA_len : (encN ndA).length = 26 := by
  unfold encN ndA
  simp [flagB, beB, encK, encP, encL, txtB, tlm, List.flatMap_cons]
theorem ndA_route : routeN ndA.ps ⟨#[109]⟩ = 1 := by
  unfold ndA routeN ble
  simp [List.filter_cons]
theorem ndB_right : rightB ndB = true := by decide +kernel
theorem ndB_w : NdW ndB := by
  refine ⟨fun e he => ?_, fun k hk => (by cases hk), fun l hl => (by cases hl)⟩
  simp [ndB] at he
  subst he
  exact ⟨by decide, by decide⟩
theorem ndB_enc : encN ndB = bytesA := by
  unfold encN ndB bytesA
  simp [flagB, beB, encE, txtB, tlk, tlv, tl0, List.flatMap_cons]
theorem decA : decN bytesA = some ndB := by
  rw [← ndB_enc]
  exact dec_enc ndB_right ndB_w (by rw [ndB_enc]; decide)
theorem encA : encErr ndA = 0 := by unfold encErr; rw [if_pos ndA_right, if_neg (by rw [ndA_len]; omega)]

end Go.Proofs.YtookbmpaoljelaaGreat
