/-
  Package node: Decode.
-/
import Derived.Test.YtookbmpaoljelaaNode13
namespace Go.Proofs.Ytookbmpaoljelaa
open Go Go.RowKit
set_option linter.unusedVariables false
set_option linter.unusedSimpArgs false
set_option maxRecDepth 100000

abbrev nd0 : Value := .agg #[.bool false, .slice none 0 0, .slice none 0 0, .slice none 0 0, .slice none 0 0]
def DecPost (bs : List UInt8) (w : World) (e : Ending) (w' : World) : Prop :=
  (∃ (H : Nh) (n : Nd) (hs : List Hd), decN bs = some n ∧ e = .returned (.tuple #[ndv H n, .int .i64 0]) ∧ NdS n ∧ Own w w' (NodR H n hs)) ∨
    (decN bs = none ∧ e = .returned (.tuple #[nd0, .int .i64 2]) ∧ Only (fun _ => False) w w')
theorem decN_of {bs ys : List UInt8} {n : Nd} {b : Bool} (h : Rd pNode bs false n ys b) (hl : bs.length ≤ 32768) : decN bs = if (!b && ys.isEmpty) = true then (if rightB n = true then some n else none) else none := by
  unfold decN
  rw [if_neg (by omega), h.g rfl]
  cases b with
  | true => rfl
  | false => cases ys <;> rfl

set_option maxHeartbeats 4000000 in
theorem decode_any (v : Value) (bs : List UInt8) (w : World) (hv : SlC w v bs) (hl : bs.length ≤ 140737488351232) : Calls Try.prog 17 #[v] w (DecPost bs w) := by
  obtain ⟨ao, cap, rfl⟩ := hv.shape
  obtain ⟨m, hm⟩ : ∃ m, m = bs.length := ⟨_, rfl⟩
  have HM := Lib.hid hm
  rw [← hm] at hv hl ⊢
  have H0 := Lib.hid ((Own.start w).alloc (.cells #[.bool false, .slice none 0 0, .slice none 0 0, .slice none 0 0, .slice none 0 0] 27))
  obtain ⟨e0, e1, e2, e3, e4⟩ := blk5c H0.out.held
  have q0 := blk_free H0.out.held 0
  have q1 := blk_free H0.out.held 1
  have q2 := blk_free H0.out.held 2
  have q3 := blk_free H0.out.held 3
  have q4 := blk_free H0.out.held 4
  by_cases hlen : 32768 < m
  · have hI : (32768 : Int) < (m : Int) := by omega
    have HD : Hid (decN bs = none) := Lib.hid (by unfold decN; rw [if_pos (by omega)])
    have HS := Lib.hid (own_set5 H0.out (.bool false) (.slice none 0 0) (.slice none 0 0) (.slice none 0 0) (.slice none 0 0))
    clear hv hlen hm
    go_enter Try.func17, Try.ntmps17
    go_upto_region 2 with fail
    generalize w.heap.size = rb at *
    go_wp2_with fail
    generalize World.setCell (World.setCell (World.setCell (World.setCell (World.setCell (w.alloc _) _ _) _ _) _ _) _ _) _ _ = w8 at *
    clear e0 e1 e2 e3 e4 q0 q1 q2 q3 q4
    obtain ⟨e0, e1, e2, e3, e4⟩ := blk5c HS.out.held
    refine bodyPost_ret (v := .tuple #[nd0, .int .i64 2]) (by simp [results, Try.results17, go_sem, e0, e1, e2, e3, e4]) rfl ?_
    exact .inr ⟨HD.out, rfl, HS.out.only⟩
  have hI : ¬ (32768 : Int) < (m : Int) := by omega
  have HTO := Lib.hid (own_to H0.out (.slice ao m cap) bs (hv.keep H0.out.only) (by omega))
  clear e0 e1 e2 e3 e4 q0 q1 q2 q3 q4 hv hm
  go_enter Try.func17, Try.ntmps17
  go_wp2_with fail
  generalize w.heap.size = rb at *
  refine HTO.out.mono ?_
  rintro r w1 ⟨p, rfl, h1⟩
  have H1 := Lib.hid ((h1.alloc (.cells #[.pointer (some ⟨p, 0, none⟩)] 62)).ac (by ac_rfl) : Own w (w1.alloc (.cells #[.pointer (some ⟨p, 0, none⟩)] 62)) (Sep (InR p bs false) (Sep (Blk w1.heap.size (.cells #[.pointer (some ⟨p, 0, none⟩)] 62 (0, 0))) (Sep (Blk rb (.cells #[.bool false, .slice none 0 0, .slice none 0 0, .slice none 0 0, .slice none 0 0] 27 (0, 0))) Emp))))
  clear h1 HTO H0
  have ha := blk_cell H1.out.snd.held 0 rfl
  go_wp2_with fail
  generalize w1.heap.size = tb at *
  refine (tnode_any H1.out).mono ?_
  rintro r w2 ⟨H, n, hs, ys, b, rfl, hz, hr, h2⟩
  have HZ := Lib.hid hz
  have HD := Lib.hid (decN_of hr (by have := HM.out; omega))
  have H2 := Lib.hid ((h2.alloc (.cells (ndc H n) 27)).ac (by ac_rfl) : Own w (w2.alloc (.cells (ndc H n) 27)) (Sep (InR p ys b) (Sep (Blk tb (.cells #[.pointer (some ⟨p, 0, none⟩)] 62 (0, 0))) (Sep (Blk rb (.cells #[.bool false, .slice none 0 0, .slice none 0 0, .slice none 0 0, .slice none 0 0] 27 (0, 0))) (Sep (Blk w2.heap.size (.cells (ndc H n) 27 (0, 0))) (Sep (NodR H n hs) Emp))))))
  clear h2 hr hz H1 ha
  go_upto_region 5 with fail
  generalize w2.alloc (.cells (ndc H n) 27) = w3 at *
  generalize w2.heap.size = nb at *
  have ha := blk_cell H2.out.snd.held 0 rfl
  have HND := Lib.hid (nodr_at (H2.out.snd.snd.snd.snd) HZ.out)
  have HDN := Lib.hid (own_done H2.out)
  obtain ⟨d, hd⟩ : ∃ d, (!b && ys.isEmpty) = d := ⟨_, rfl⟩
  rw [hd] at HDN HD
  clear hd
  cases d with
  | false =>
    have HD0 : Hid (decN bs = none) := Lib.hid (by rw [HD.out]; rfl)
    obtain ⟨e0, e1, e2, e3, e4⟩ := blk5c H2.out.snd.snd.held
    have q0 := blk_free H2.out.snd.snd.held 0
    have q1 := blk_free H2.out.snd.snd.held 1
    have q2 := blk_free H2.out.snd.snd.held 2
    have q3 := blk_free H2.out.snd.snd.held 3
    have q4 := blk_free H2.out.snd.snd.held 4
    have HS := Lib.hid (own_set5 H2.out.snd.snd (.bool false) (.slice none 0 0) (.slice none 0 0) (.slice none 0 0) (.slice none 0 0))
    clear HD HND HZ
    go_wp2_with fail
    refine HDN.out.mono ?_
    rintro r w4 ⟨rfl, rfl⟩
    go_wp2_with fail
    generalize World.setCell (World.setCell (World.setCell (World.setCell (World.setCell w3 _ _) _ _) _ _) _ _) _ _ = w8 at *
    clear e0 e1 e2 e3 e4 q0 q1 q2 q3 q4
    obtain ⟨e0, e1, e2, e3, e4⟩ := blk5c HS.out.held
    refine bodyPost_ret (v := .tuple #[nd0, .int .i64 2]) (by simp [results, Try.results17, go_sem, e0, e1, e2, e3, e4]) rfl ?_
    exact .inr ⟨HD0.out, rfl, HS.out.only⟩
  | true =>
    have HR := Lib.hid (right_any H n w3 HND.out)
    obtain ⟨rg, hrg⟩ : ∃ rg, rightB n = rg := ⟨_, rfl⟩
    rw [hrg] at HR
    have HDR : Hid (decN bs = if rg = true then some n else none) := Lib.hid (by rw [HD.out, if_pos rfl, hrg])
    obtain ⟨c0, c1, c2, c3, c4⟩ := nod_cells H2.out.snd.snd.snd.held
    clear HD HND hrg
    go_wp2_with fail
    refine HDN.out.mono ?_
    rintro r w4 ⟨rfl, rfl⟩
    go_wp2_with fail
    refine HR.out.mono ?_
    rintro r w5 ⟨rfl, ho⟩
    have H3 := Lib.hid (H2.out.quiet ho)
    clear ho HR HDN H2 ha c0 c1 c2 c3 c4
    obtain ⟨e0, e1, e2, e3, e4⟩ := blk5c H3.out.snd.snd.held
    have q0 := blk_free H3.out.snd.snd.held 0
    have q1 := blk_free H3.out.snd.snd.held 1
    have q2 := blk_free H3.out.snd.snd.held 2
    have q3 := blk_free H3.out.snd.snd.held 3
    have q4 := blk_free H3.out.snd.snd.held 4
    cases rg with
    | false =>
      have HD0 : Hid (decN bs = none) := Lib.hid (by rw [HDR.out]; rfl)
      have HS := Lib.hid (own_set5 H3.out.snd.snd (.bool false) (.slice none 0 0) (.slice none 0 0) (.slice none 0 0) (.slice none 0 0))
      go_wp2_with fail
      generalize World.setCell (World.setCell (World.setCell (World.setCell (World.setCell w5 _ _) _ _) _ _) _ _) _ _ = w8 at *
      clear e0 e1 e2 e3 e4 q0 q1 q2 q3 q4
      obtain ⟨e0, e1, e2, e3, e4⟩ := blk5c HS.out.held
      refine bodyPost_ret (v := .tuple #[nd0, .int .i64 2]) (by simp [results, Try.results17, go_sem, e0, e1, e2, e3, e4]) rfl ?_
      exact .inr ⟨HD0.out, rfl, HS.out.only⟩
    | true =>
      have HD0 : Hid (decN bs = some n) := Lib.hid (by rw [HDR.out]; rfl)
      have HS := Lib.hid (own_set5 H3.out.snd.snd (.bool n.leaf) (.slice H.eo n.es.length H.ec) (.slice H.po n.ps.length H.pc) (.slice H.ko n.ks.length H.kc) (.slice H.bo n.bs.length H.bc))
      obtain ⟨c0, c1, c2, c3, c4⟩ := nod_cells H3.out.snd.snd.snd.held
      go_wp2_with fail
      generalize World.setCell (World.setCell (World.setCell (World.setCell (World.setCell w5 _ _) _ _) _ _) _ _) _ _ = w8 at *
      clear e0 e1 e2 e3 e4 q0 q1 q2 q3 q4 c0 c1 c2 c3 c4
      obtain ⟨e0, e1, e2, e3, e4⟩ := blk5c HS.out.held
      refine bodyPost_ret (v := .tuple #[ndv H n, .int .i64 0]) (by simp [results, Try.results17, go_sem, e0, e1, e2, e3, e4]) rfl ?_
      exact .inl ⟨H, n, hs, HD0.out, rfl, HZ.out, HS.out.snd.snd.fst⟩

end Go.Proofs.Ytookbmpaoljelaa
