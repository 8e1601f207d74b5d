/-
  The reference's pool: a thing comes.
-/
import Derived.Test.YtjmelhmjcbliaaaPoR2
namespace Go.Proofs.Ytjmelhmjcbliaaa
open Go Go.RowKit
set_option linter.unusedVariables false
set_option linter.unusedSimpArgs false
set_option maxRecDepth 100000

/-- What the reference's come makes of a pool: it lies as the program's find leaves it, but that what came is used at once. -/
def rcome (st : Po) (id : Int) : Po × Int := match st.ix id with
  | some _ => (st, 0)
  | none => match (st.bk.load id).2 with
    | none => ({ st with bk := (st.bk.load id).1 }, 2)
    | some b => ({ st with bk := (st.bk.load id).1, L := st.L ++ [⟨id, b, false, 0, true⟩] }, 0)
set_option maxHeartbeats 8000000 in
theorem rpcome_any {w0 w : World} {p bb : Nat} {R : List Rb} {st : Po} {J : Res} [Stab J] (h : Own w0 w (Sep (RpR p bb R st) J)) (id : Int) (hl : R.length ≤ 1000000000) (hq : st.bk.asked.length ≤ 1000000000) (hb : st.bk.ids.length ≤ 1000000000) :
    Calls Try.prog 36 #[ptr p, .int .u64 id] w (fun e w' => e = .returned (.int .i64 (rcome st id).2) ∧ ∃ R', Own w0 w' (Sep (RpR p bb R' (rcome st id).1) J)) := by
  have hat := rpat_any h id hl
  have HAT := Lib.hid hat
  obtain ⟨ix, hix⟩ : ∃ x, ixI st id = x := ⟨_, rfl⟩
  rw [hix] at HAT
  cases hx : st.ix id with
  | some i =>
    have hc : rcome st id = (st, 0) := by unfold rcome; rw [hx]
    have hi : ix = (i : Int) := by rw [← hix]; unfold ixI; rw [hx]
    subst hi
    have h0 : (0 : Int) ≤ (i : Int) := by omega
    have HC := Lib.hid hc
    have HS := Lib.hid h
    clear h hat hl hq hb hix hx hc
    go_enter Try.func36, Try.ntmps36
    go_wp2_with (go_at_call 37; refine HAT.out.mono ?_; rintro e w2 ⟨rfl, rfl⟩)
    go_ret
    rw [HC.out]
    exact ⟨rfl, R, HS.out⟩
  | none =>
    have hi : ix = -1 := by rw [← hix]; unfold ixI; rw [hx]
    subst hi
    obtain ⟨ro, rc, hk, hO⟩ := h.openRp
    have hld := bload_any (hO.ac (by ac_rfl : _ = Sep (BkR bb st.bk) (Sep (Blk p (.cells (rpc bb ro rc R st) 33)) (Sep (RowG 74 (.slice ro R.length rc) R) (Sep (Fix (RbsOk R)) J))))) id hq hb
    have HLD := Lib.hid hld
    have HK := Lib.hid hk
    have HX := Lib.hid hx
    obtain ⟨n, hn⟩ : ∃ n, R.length = n := ⟨_, rfl⟩
    have HN := Lib.hid hn
    unfold rpc at hO
    rw [hn] at hO hl
    obtain ⟨⟨c0, c1, c2, c3⟩, f0, f1, f2, f3⟩ := hO.blk4c
    clear h hat hq hb hix hx hk hO hld hn
    go_enter Try.func36, Try.ntmps36
    go_wp2_with (go_at_call 37; refine HAT.out.mono ?_; rintro e w2 ⟨rfl, rfl⟩)
    refine HLD.out.mono ?_
    rintro e w3 (⟨x, ao, c, hx, hxl, rfl, ho⟩ | ⟨hx, rfl, ho⟩)
    · have hc : rcome st id = ({ st with bk := (st.bk.load id).1, L := st.L ++ [⟨id, x, false, 0, true⟩] }, 0) := by unfold rcome; rw [HX.out]; dsimp only; rw [hx]
      have HC := Lib.hid hc
      have HXL := Lib.hid hxl
      have HO3 : Hid (Own w0 w3 (Sep (RowG 74 (.slice ro n rc) R) (Sep (Blk p (.cells #[ptr bb, .int .i64 (st.most : Int), .slice ro n rc, .int .i64 (st.hand : Int)] 33)) (Sep (Fix fun w => SlC w (.slice ao x.length c) x) (Sep (Fix (RbsOk R)) (Sep (BkR bb (st.bk.load id).1) J)))))) := Lib.hid (by
        have h1 := ho
        unfold rpc at h1
        rw [HN.out] at h1
        exact h1.ac (by ac_rfl))
      obtain ⟨xl, hxlen⟩ : ∃ l, x.length = l := ⟨_, rfl⟩
      have HXN := Lib.hid hxlen
      rw [hxlen]
      clear HLD HAT c0 c1 c2 c3 f0 f1 f2 f3 hx hxl ho hc hxlen
      obtain ⟨⟨c0, c1, c2, c3⟩, f0, f1, f2, f3⟩ := HO3.out.swap.blk4c
      go_wp2_with (at_builtin; refine own_appendG elRb HO3.out ⟨ao, c, ⟨id, x, false, 0, true⟩⟩ 1 (by rw [HN.out]; omega) (by rw [HN.out]; omega) rfl _ _ rfl (by first | rfl | simp [Act.eval]) #[.int .u64 id, .slice ao xl c, .bool false, .int .i64 0, .bool true] (by rw [← HXN.out]; rfl) (by first | rfl | simp [Act.eval]) ?_)
      intro g3 cap3 n3 w8 hn3 hown
      have HN3 := Lib.hid hn3.out
      have HO4 := Lib.hid hown.out.swap
      clear hn3 hown HO3 c0 c1 c2 c3 f0 f1 f2 f3
      obtain ⟨⟨c0, c1, c2, c3⟩, f0, f1, f2, f3⟩ := HO4.out.blk4c
      go_wp2_with fail
      go_ret
      rw [HC.out]
      have h5 : Own w0 _ (Sep (Blk p (.cells #[ptr bb, .int .i64 (st.most : Int), .slice (some ⟨g3, 0, none⟩) n3 cap3, .int .i64 (st.hand : Int)] 33)) (Sep (RowG 74 (.slice (some ⟨g3, 0, none⟩) n3 cap3) (R ++ [(⟨ao, c, ⟨id, x, false, 0, true⟩⟩ : Rb)])) (Sep (Fix fun w => SlC w (.slice ao x.length c) x) (Sep (Fix (RbsOk R)) (Sep (BkR bb (st.bk.load id).1) J))))) := HO4.out.store 2 (.slice (some ⟨g3, 0, none⟩) n3 cap3)
      have hlen : (R ++ [(⟨ao, c, ⟨id, x, false, 0, true⟩⟩ : Rb)]).length = n3 := by rw [List.length_append, HN3.out]; rfl
      have h6 := ((h5.ac (by ac_rfl : _ = Sep (Fix fun w => SlC w (.slice ao x.length c) x) (Sep (Fix (RbsOk R)) (Sep (Blk p (.cells #[ptr bb, .int .i64 (st.most : Int), .slice (some ⟨g3, 0, none⟩) n3 cap3, .int .i64 (st.hand : Int)] 33)) (Sep (RowG 74 (.slice (some ⟨g3, 0, none⟩) n3 cap3) (R ++ [(⟨ao, c, ⟨id, x, false, 0, true⟩⟩ : Rb)])) (Sep (BkR bb (st.bk.load id).1) J)))))).fix2).fixI (Q := RbsOk (R ++ [(⟨ao, c, ⟨id, x, false, 0, true⟩⟩ : Rb)])) (fun W hW y hy => by
        rcases List.mem_append.1 hy with hy | hy
        · exact hW.2 y hy
        · simp only [List.mem_singleton] at hy
          subst hy
          exact ⟨hW.1, HXL.out⟩)
      refine ⟨rfl, R ++ [⟨ao, c, ⟨id, x, false, 0, true⟩⟩], Own.shutRp (ro := some ⟨g3, 0, none⟩) (rc := cap3) (by rw [List.map_append, HK.out]; rfl) ?_⟩
      unfold rpc
      rw [hlen]
      exact h6.ac (by ac_rfl)
    · have hc : rcome st id = ({ st with bk := (st.bk.load id).1 }, 2) := by unfold rcome; rw [HX.out]; dsimp only; rw [hx]
      have HC := Lib.hid hc
      have HO3 := Lib.hid ho
      clear HLD HAT c0 c1 c2 c3 f0 f1 f2 f3 hx ho hc
      go_wp2_with fail
      go_ret
      rw [HC.out]
      exact ⟨rfl, R, Own.shutRp (ro := ro) (rc := rc) HK.out (HO3.out.ac (by ac_rfl))⟩

end Go.Proofs.Ytjmelhmjcbliaaa
