/-
  Package pool: the laws' first question.
-/
import Derived.Test.YtjmelhmjcbliaaaPoL1
namespace Go.Proofs.Ytjmelhmjcbliaaa
open Go Go.RowKit
set_option linter.unusedVariables false
set_option linter.unusedSimpArgs false
set_option maxRecDepth 100000

def pw0 : Po := ⟨[], 0, bk0 6, 2⟩
def pw1 : Po := (pw0.get 1).1
def pw2 : Po := (pw1.get 2).1
def pw3 : Po := (pw2.get 3).1
theorem pw_a : (pw0.get 1).2 = some [98] := by decide +kernel
theorem pw_l : pw3.L.length = 2 := by decide +kernel
theorem pw_q : pw3.bk.asked.length = 3 := by decide +kernel
theorem pw_b0 : PoB pw0 := ⟨by decide +kernel, by decide +kernel⟩
theorem pw_b1 : PoB pw1 := ⟨by decide +kernel, by decide +kernel⟩
theorem pw_b2 : PoB pw2 := ⟨by decide +kernel, by decide +kernel⟩
theorem GetPost.own {w0 w' : World} {p bb : Nat} {st : Po} {id : Int} {J : Res} [Stab J] {e : Ending} (h : GetPost w0 w' p bb st id J e) : ∃ v L Z, e = .returned v ∧ Own w0 w' (Sep (PoR p bb L Z (st.get id).1) J) := by
  obtain ⟨L, Z, ⟨b, v, _, _, he, ho⟩ | ⟨_, he, ho⟩⟩ := h
  · exact ⟨_, L, Z, he, ho.snd⟩
  · exact ⟨_, L, Z, he, ho⟩
set_option maxHeartbeats 4000000 in
theorem pawake_any (w : World) : Calls Try.prog 7 #[] w fun e w' => e = .returned (.bool true) ∧ Quiet w w' := by
  have H0 := Lib.hid (Own.start w)
  go_enter Try.func7, Try.ntmps7
  go_wp2_with fail
  refine (back_any H0.out).mono ?_
  rintro e w1 ⟨bb, rfl, h⟩
  have H1 := Lib.hid h
  clear h H0
  go_wp2_with fail
  refine (pnew_any H1.out 2 (by decide) (by decide)).mono ?_
  rintro e w2 ⟨p, rfl, h⟩
  have H2 : Hid (Own w w2 (Sep (PoR p bb [] [] pw0) Emp)) := Lib.hid h
  clear h H1
  go_wp2_with fail
  refine (pget_any H2.out 1 (by decide) (by decide) pw_b0).mono ?_
  rintro e w3 ⟨L, Z, ⟨b, v, hb, hbl, rfl, h⟩ | ⟨hb, _⟩⟩
  · rw [pw_a] at hb
    simp only [Option.some.injEq] at hb
    subst hb
    obtain ⟨ao, c, rfl, hsl⟩ := h.bytesOf
    obtain ⟨n, hn⟩ : ∃ n, ([98] : List UInt8).length = n := ⟨_, rfl⟩
    have H3 : Hid (Own w w3 (Sep (PoR p bb L Z pw1) (Sep (Fix fun w => SlC w (.slice ao n c) [98]) Emp))) := Lib.hid (by
      have h2 : Own w w3 (Sep (Fix fun w => SlC w (.slice ao n c) [98]) (Sep (PoR p bb L Z pw1) Emp)) := by
        obtain ⟨F, ⟨A, B, hA, hB, hd, hF⟩, k2, k3⟩ := h
        refine ⟨F, ⟨A, B, ⟨fun k hk => Stab.lt hA k hk, fun W hW => ?_⟩, hB, hd, hF⟩, k2, k3⟩
        obtain ⟨ao', c', e, hs'⟩ := own_bytes (w := w3) (own_keepAt hA.1 (fun k e => hW k ((hA.2 k).2 e)))
        rw [← hn]
        exact hs'
      exact h2.swap)
    rw [hn]
    clear hbl h hsl H2 hn
    go_wp2_with fail
    refine (pget_any H3.out 2 (by decide) (by decide) pw_b1).mono ?_
    rintro e w4 hg
    obtain ⟨v2, L2, Z2, rfl, h⟩ := hg.own
    have H4 : Hid (Own w w4 (Sep (PoR p bb L2 Z2 pw2) (Sep (Fix fun w => SlC w (.slice ao n c) [98]) Emp))) := Lib.hid h
    clear h hg H3
    go_wp2_with fail
    refine (pget_any H4.out 3 (by decide) (by decide) pw_b2).mono ?_
    rintro e w5 hg
    obtain ⟨v3, L3, Z3, rfl, h⟩ := hg.own
    have H5 : Hid (Own w w5 (Sep (PoR p bb L3 Z3 pw3) (Sep (Fix fun w => SlC w (.slice ao n c) [98]) Emp))) := Lib.hid h
    clear h hg H4
    have hlen := plen_any H5.out
    rw [pw_l] at hlen
    have HLEN := Lib.hid hlen
    have hsl := H5.out.snd.fixed
    have hstr := run_strC hsl
    obtain ⟨mb, ro, rc, D, hm, hs, h6⟩ := H5.out.openPo
    obtain ⟨hd, hs2, hk, h7⟩ := (h6.ac (by ac_rfl : _ = Sep (BkR bb pw3.bk) (Sep (Blk p (.cells (poc bb mb ro rc L3 pw3) 66)) (Sep (RowG 67 (.slice ro L3.length rc) L3) (Sep (MapR mb D) (Sep (PlsR (L3 ++ Z3)) (Sep (Fix (BytesOk (L3 ++ Z3))) (Sep (Fix fun w => SlC w (.slice ao n c) [98]) Emp)))))))).openBk
    unfold bkc at h7
    rw [pw_q] at h7
    have c2 := h7.blk4c.1.2.2.1
    clear hlen hsl hm hs h6 hk h7
    go_wp2_with (go_at_call 26; refine HLEN.out.mono ?_; rintro e w6 ⟨rfl, rfl⟩)
    go_ret
    exact ⟨rfl, H5.out.only⟩
  · rw [pw_a] at hb
    cases hb

end Go.Proofs.Ytjmelhmjcbliaaa
