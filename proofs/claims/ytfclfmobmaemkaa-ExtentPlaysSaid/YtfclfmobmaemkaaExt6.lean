/-
  Package extent: Holes, over slices.Collect and slices.AppendSeq.
-/
import Derived.Test.YtfclfmobmaemkaaExt5
import Derived.Test.YtfclfmobmaemkaaRowV
import Derived.Test.YtfclfmobmaemkaaWide
import Derived.Deep.AppendLies
namespace Go.Proofs.Ytfclfmobmaemkaa
open Go Go.RowKit
set_option linter.unusedVariables false
set_option linter.unusedSimpArgs false
set_option maxRecDepth 100000
attribute [local go_sem] Oper.semAt_some

def hcells (hs : List (Nat × Nat)) : List Value := hs.flatMap fun h => [.int .i64 (h.1 : Int), .int .i64 (h.2 : Int)]
theorem hcells_snoc (hs : List (Nat × Nat)) (x : Nat × Nat) : hcells (hs ++ [x]) = hcells hs ++ [.int .i64 (x.1 : Int), .int .i64 (x.2 : Int)] := by simp [hcells]
theorem Try.infoHole : (Try.prog.info? 43).map (fun i => (i.zero, i.size)) = some (some (.agg #[.int .i64 0, .int .i64 0]), 2) := by kernel_rfl
theorem Try.infoHole3 : (Try.prog.info? 43).map (fun i => (i.zero, i.size, i.bytes)) = some (some (.agg #[.int .i64 0, .int .i64 0]), 2, 16) := by kernel_rfl

/-- Holes in a slice of one's own. -/
abbrev HolesR (v : Value) (hs : List (Nat × Nat)) : Res := RowV 43 2 v hs.length (hcells hs)
def seqI (S : Res) (b : Nat) (pre : List (Nat × Nat)) : Res := ExR fun v : Value => Sep (Blk b (.cells #[v] 35 (0, 0))) (Sep (HolesR v pre) S)
instance {S : Res} [Stab S] {b : Nat} {pre : List (Nat × Nat)} : Stab (seqI S b pre) := inferInstanceAs (Stab (ExR _))
def seqA (po : Option Addr) (S : Res) (b : Nat) (x : Nat × Nat) (a' : Act) (pre : List (Nat × Nat)) : Res :=
  ExR fun c => AndR (a' = { tmps := #[.slice none 0 0, .func (.func 21) #[.pointer po] #[], .pointer (some ⟨b, 0, none⟩), undef, .slice none 0 0, .pointer (some ⟨c, 0, none⟩), .func (.func 21) #[.pointer po] #[], encH x, undef, undef, undef, undef, undef], defers := [] })
    (Sep (Blk c (.cells #[.int .i64 (x.1 : Int), .int .i64 (x.2 : Int)] 43 (0, 0))) (seqI S b pre))
instance {po : Option Addr} {S : Res} [Stab S] {b : Nat} {x : Nat × Nat} {a' : Act} {pre : List (Nat × Nat)} : Stab (seqA po S b x a' pre) := inferInstanceAs (Stab (ExR _))
theorem pre_length {pre all : List (Nat × Nat)} (h : pre <+: all) : pre.length ≤ all.length := h.length_le

set_option maxRecDepth 100000 in
set_option maxHeartbeats 2000000 in
theorem seq_gen {w0 w : World} {po : Option Addr} {S : Res} [Stab S] {Rd : World → Prop} {all : List (Nat × Nat)} (h : Own w0 w S) (hit : Gives Try.prog 3 21 #[.pointer po] encH Rd all) (hRd : ∀ W I, Own w0 W (Sep S I) → Rd W) (hlen : all.length ≤ 4096) :
    Calls Try.prog 29 #[.slice none 0 0, .func (.func 21) #[.pointer po] #[]] w fun e w' => ∃ v, e = .returned v ∧ Own w0 w' (Sep (HolesR v all) S) := by
  refine (callsIn_wide (n := 5)).1 ?_
  have H := Lib.hid h
  have HN := Lib.hid hlen
  have HG := Lib.hid hit
  have HD := Lib.hid hRd
  clear h hlen hit hRd
  refine callsIn_of_wp_marks Try.func29 rfl trivial ?_ rfl
  simp only [Try.ntmps29, List.size_toArray, List.length_cons, List.length_nil, Nat.reduceAdd, Nat.reduceSub, Array.replicate_succ, Array.replicate_zero, List.push_toArray, List.append_toArray, List.nil_append, List.cons_append]
  gi_wp2
  have H1 : Hid (Own w0 _ (seqI S w.heap.size [])) := Lib.hid (((H.out.row_nil 43 2).alloc (.cells #[.slice none 0 0] 35)).imp fun F hF => ⟨_, hF⟩)
  refine wp_range (m := 3) (gf := 21) (fst := #[.pointer po]) (enc := encH) rfl (Go.Proofs.enters_of Try.func21 (by kernel_rfl) rfl) rfl HG.out
    (seqI S w.heap.size) (fun _ => No) (seqA po S w.heap.size) (fun pre W I hW => by obtain ⟨v, hv⟩ := hW.exR; exact HD.out W _ hv.assoc.snd.assoc.snd) H1.out ?assign ?body ?done ?stop
  case assign =>
    intro ly pre x W I _ hpre hW
    have HW := Lib.hid hW
    clear hW
    obtain ⟨s, n⟩ := x
    simp only [encH]
    gi_wp2
    have h2 := (HW.out.alloc (.cells #[.int .i64 (s : Int), .int .i64 (n : Int)] 43)).assoc'
    exact h2.imp fun F hF => hF.imp (fun A hA => ⟨_, rfl, hA⟩) (fun _ h => h)
  case body =>
    intro ly pre x a' W I _ hpre hW
    obtain ⟨c, hW1⟩ := hW.exR
    obtain ⟨ha, hW2⟩ := hW1.andR
    clear hW hW1
    subst ha
    have hc := hW2.fst.held
    obtain ⟨v, hI⟩ := hW2.assoc.snd.exR
    have hO : Own w0 W (Sep (Blk w.heap.size (.cells #[v] 35 (0, 0))) (Sep (HolesR v pre) (Sep S I))) := hI.ac (by ac_rfl)
    have hr := hO.snd.owns
    obtain ⟨ao, cap, rfl⟩ := own_shapeN hr
    have hpl : pre.length < 4096 := by have := pre_length hpre; have := HN.out; simp at *; omega
    obtain ⟨s, n⟩ := x
    simp only [encH] at hc ⊢
    have k0 : W.cell? ⟨c, 0, none⟩ = some (.int .i64 (s : Int)) := blk_cell hc 0 rfl
    have k1 : W.cell? ⟨c, 1, none⟩ = some (.int .i64 (n : Int)) := blk_cell hc 1 rfl
    have hb := hO.held
    have cb : W.cell? ⟨w.heap.size, 0, none⟩ = some (.slice ao pre.length cap) := blk_cell hb 0 rfl
    have HO := Lib.hid hO
    have hbs := fun w => run_buildSlice_one (P := Try.prog) w 35 43 _ 2 Try.underlying35 Try.infoHole rfl (by decide) (by decide) #[.int .i64 (s : Int), .int .i64 (n : Int)] rfl
    obtain ⟨i0, hi0, hz0, hz1, hz2⟩ := info_parts Try.infoHole3
    have HRW := Lib.hid (hr.alloc (.cells #[.int .i64 (s : Int), .int .i64 (n : Int)] 43))
    have HA := Lib.hid ((hO.swap.alloc (.cells #[.int .i64 (s : Int), .int .i64 (n : Int)] 43)).snd)
    clear hW2 hI hO hr hc hb
    obtain ⟨k, hk⟩ : ∃ k, k = pre.length := ⟨_, rfl⟩
    rw [← hk] at cb HO HRW hpl HA
    have HK := Lib.hid hk
    clear hk
    apply wpIn_block
    refine wp_round_lit (by kernel_rfl) (fun ⟨_, _, h⟩ => h) ?_
    go_wp2_with (first | (at_builtin; refine wpList_append_lies _ rfl (.tmp 8) (.tmp 10) 35 rfl 0 43 i0 _ 2 16 Try.underlying35 hi0 hz0 hz1 hz2 rfl (by decide) (.slice ao k cap) k (hcells pre) rfl HRW.out ⟨W.heap.size, 0, none⟩ 1 1 [.int .i64 (s : Int), .int .i64 (n : Int)] rfl rfl (World.news_of_block (heap_alloc_new W _)) ?_ Nat.zero_lt_one ?_ ?_ (Nat.zero_le _) (W.heap.size + 1) ?_ ?_))
    · intro u hu
      rcases List.mem_cons.1 hu with rfl | hu
      · rfl
      · rw [List.mem_singleton.1 hu]; rfl
    · unfold maxLen; omega
    · omega
    · simp
    intro g cap2 w5 hown hgrow hat hlt5
    have h5 := HA.out.appended hown hgrow (hat.imp (fun h => h) (fun h => by simp; omega))
    have hb5 := h5.swap.held
    have c5 : w5.cell? ⟨w.heap.size, 0, none⟩ = some (.slice ao k cap) := blk_cell hb5 0 rfl
    have f5 : w5.frozen? ⟨w.heap.size, 0, none⟩ = false := blk_free hb5 0
    have H6 := Lib.hid (h5.swap.store 0 (.slice (some ⟨g, 0, none⟩) (k + 1) cap2))
    clear hown hgrow hat hlt5 h5 hb5 HA HRW HO cb
    go_wp2_with fail
    show Own w0 _ (Sep (seqI S w.heap.size (pre ++ [(s, n)])) I)
    have h7 : Own w0 _ (Sep (Sep (Blk w.heap.size (.cells #[.slice (some ⟨g, 0, none⟩) (k + 1) cap2] 35 (0, 0))) (Sep (HolesR (.slice (some ⟨g, 0, none⟩) (k + 1) cap2) (pre ++ [(s, n)])) S)) I) := H6.out.ac (by
      simp only [List.setIfInBounds_toArray, List.set_cons_zero, HolesR, hcells_snoc, List.length_append, List.length_cons, List.length_nil, HK.out]
      ac_rfl)
    exact h7.imp fun F hF => hF.imp (fun A hA => ⟨_, hA⟩) (fun _ h => h)
  case done =>
    intro D W hW
    obtain ⟨v, hI⟩ := hW.exR
    have hO : Own w0 W (Sep (Blk w.heap.size (.cells #[v] 35 (0, 0))) (Sep (HolesR v all) (Sep S (Blk D (.deferred (some [])))))) := hI.ac (by ac_rfl)
    obtain ⟨ao, cap, rfl⟩ := own_shapeN hO.snd.owns
    have hb := hO.held
    have cb : W.cell? ⟨w.heap.size, 0, none⟩ = some (.slice ao all.length cap) := blk_cell hb 0 rfl
    have HO := Lib.hid hO
    clear hW hI hO hb
    unfold Marked
    gi_wp2
    have h4 : Own w0 W (Sep (Blk D (.deferred (some []))) (Sep (HolesR (.slice ao all.length cap) all) S)) := HO.out.snd.ac (by ac_rfl)
    refine ⟨by simp, .inl ⟨_, _, rfl, run_takeDeferred h4.held, ?_⟩⟩
    exact ⟨_, results_tmp rfl _ _ _, _, rfl, (h4.put _).snd⟩
  case stop =>
    intro D pre W _ hW
    exact hW.no.elim

set_option maxHeartbeats 1000000 in
theorem collect_gen {w0 w : World} {po : Option Addr} {S : Res} [Stab S] {Rd : World → Prop} {all : List (Nat × Nat)} (h : Own w0 w S) (hit : Gives Try.prog 3 21 #[.pointer po] encH Rd all) (hRd : ∀ W I, Own w0 W (Sep S I) → Rd W) (hlen : all.length ≤ 4096) :
    Calls Try.prog 23 #[.func (.func 21) #[.pointer po] #[]] w fun e w' => ∃ v, e = .returned v ∧ Own w0 w' (Sep (HolesR v all) S) := by
  have H := Lib.hid (seq_gen h hit hRd hlen)
  clear h hit hRd hlen
  go_enter Try.func23, Try.ntmps23
  go_wp2_with fail
  refine H.out.mono ?_
  rintro e w1 ⟨v, rfl, h1⟩
  have H1 := Lib.hid h1
  clear h1
  go_wp2_with fail
  go_ret
  exact ⟨_, rfl, H1.out⟩
set_option maxHeartbeats 1000000 in
theorem holes_gen {w0 w : World} {po : Option Addr} {S : Res} [Stab S] {Rd : World → Prop} {all : List (Nat × Nat)} (h : Own w0 w S) (hit : Gives Try.prog 3 21 #[.pointer po] encH Rd all) (hRd : ∀ W I, Own w0 W (Sep S I) → Rd W) (hlen : all.length ≤ 4096) :
    Calls Try.prog 14 #[.pointer po] w fun e w' => ∃ v, e = .returned v ∧ Own w0 w' (Sep (HolesR v all) S) := by
  have H := Lib.hid (collect_gen h hit hRd hlen)
  clear h hit hRd hlen
  go_enter Try.func14, Try.ntmps14
  go_wp2_with fail
  refine H.out.mono ?_
  rintro e w1 ⟨v, rfl, h1⟩
  have H1 := Lib.hid h1
  clear h1
  go_wp2_with fail
  go_ret
  exact ⟨_, rfl, H1.out⟩
theorem xown_holes {w0 w : World} {p a : Nat} {l : List Bool} {J : Res} [Stab J] (h : Own w0 w (Sep (SpR 51 p a l) J)) :
    Calls Try.prog 14 #[.pointer (some ⟨p, 0, none⟩)] w fun e w' => ∃ v, e = .returned v ∧ Own w0 w' (Sep (HolesR v (hol a l)) (Sep (SpR 51 p a l) J)) := by
  have hfit : l.length ≤ 4096 := by obtain ⟨g, hS⟩ := h.space; have := hS.fits; omega
  exact holes_gen h (each_gives 3 p a l) (fun W I hW => hW.fst.space) (Nat.le_trans (hol_length a l) hfit)
theorem xown_holes_nil {w0 w : World} {J : Res} [Stab J] (h : Own w0 w J) :
    Calls Try.prog 14 #[.pointer none] w fun e w' => ∃ v, e = .returned v ∧ Own w0 w' (Sep (HolesR v []) J) :=
  holes_gen h (each_none 3) (fun _ _ _ => trivial) (by decide)

end Go.Proofs.Ytfclfmobmaemkaa
