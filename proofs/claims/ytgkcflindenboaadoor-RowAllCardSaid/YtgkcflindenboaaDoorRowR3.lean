/-
  The document's own rows: Encode.
-/
import Derived.Test.YtgkcflindenboaaDoorRowR2
namespace Go.Proofs.YtgkcflindenboaaDoor
open Go Go.RowKit
set_option linter.unusedVariables false
set_option linter.unusedSimpArgs false
set_option maxRecDepth 100000

set_option maxHeartbeats 4000000 in
theorem rrencode (co lo : Option Addr) (n cc m lc : Nat) (cs : List Cv) (vs : List Vv) (w : World) (hc : SlCs w co cs) (hv : SlV w lo vs) (hn : n = cs.length) (hm : m = vs.length) :
    Calls Tryd.prog 13 #[.slice co n cc, .slice lo m lc] w fun e w' => REncPost cs (vs.map Vv.vl) w e w' := by
  have HV := Lib.hid hv
  have HN := Lib.hid hn
  have HM := Lib.hid hm
  have HF := Lib.hid (rfits8 co lo n cc m lc cs vs w hc hv hn hm)
  obtain ⟨er, her⟩ : ∃ er, rfits cs (vs.map Vv.vl) = er := ⟨_, rfl⟩
  rw [her] at HF
  have HER := Lib.hid her
  clear hc hv hn hm her
  go_enter Tryd.func13, Tryd.ntmps13
  go_wp2_with fail
  refine HF.out.mono ?_
  rintro e w1 ⟨rfl, h1⟩
  have H1 := Lib.hid h1
  clear h1 HF
  by_cases h0 : er = 0
  · subst h0
    obtain ⟨k1, k2, k3⟩ := rfits_ok HER.out
    have hOK : ∀ v ∈ vs, v.vl.okB = true := fun v hv => fitsL_ok k2 k3 _ (List.mem_map.2 ⟨v, hv, rfl⟩)
    have hm24 : m ≤ 24 := by
      have := (colsB_iff.1 k1).2.1
      rw [List.length_map] at k2
      have := HM.out
      omega
    have HBY := Lib.hid (R.bytes_any lo m lc vs w1 (HV.out.keep H1.out) HM.out hm24 hOK)
    obtain ⟨S, hS⟩ : ∃ S : ByteArray, (⟨(rowS (vs.map Vv.vl)).toArray⟩ : ByteArray) = S := ⟨_, rfl⟩
    have HSS := Lib.hid hS
    have HZ : Hid (S.size = (rowS (vs.map Vv.vl)).length) := Lib.hid (by rw [← hS, ← ba_size, ba_mk1])
    rw [hS] at HBY
    clear k1 k2 k3 hOK hm24 hS
    go_wp2_with fail
    refine HBY.out.mono ?_
    rintro e w2 ⟨rfl, h2⟩
    have H2 := Lib.hid (H1.out.trans h2 (fun _ _ h => h))
    clear h2 HBY
    by_cases h5 : 512 < S.size
    · have hI : (512 : Int) < (S.size : Int) := by omega
      have HE : Hid (([], 7) = rencE cs (vs.map Vv.vl)) := Lib.hid (by unfold rencE; rw [if_neg (by rw [HER.out]; simp), if_pos (by rw [← HZ.out]; exact h5)])
      clear h5
      go_wp2_with fail
      go_ret2
      exact renc_none HE.out H2.out
    · have hI : ¬ (512 : Int) < (S.size : Int) := by omega
      have HE : Hid ((rowS (vs.map Vv.vl), 0) = rencE cs (vs.map Vv.vl)) := Lib.hid (by unfold rencE; rw [if_neg (by rw [HER.out]; simp), if_neg (by rw [← HZ.out]; exact h5)])
      clear h5
      go_wp2_with fail
      go_ret2
      exact ⟨_, 0, by rw [HSS.out]; rfl, HE.out, H2.out⟩
  · have hne : (er != 0) = true := by simpa using h0
    have HE : Hid (([], er) = rencE cs (vs.map Vv.vl)) := Lib.hid (by unfold rencE; rw [if_pos (by rw [HER.out]; exact h0), HER.out])
    clear h0
    go_wp2_with fail
    go_ret2
    exact renc_none HE.out H1.out

end Go.Proofs.YtgkcflindenboaaDoor
