/-
  Contracts of package disk: Write.
-/
import Derived.Test.YtidkeglldmbfeaaDisk2
import Derived.Deep.RegionLaw
import Derived.Laws.CopyOwn
import Derived.Laws.CopyRow
import Derived.Deep.DeepCutAuto
import Derived.Deep.CutBlock
namespace Go.Proofs.Ytidkeglldmbfeaa
open Go Go.RowKit
set_option linter.unusedVariables false
set_option linter.unusedSimpArgs false
set_option maxRecDepth 100000

theorem Try.infoWr : (Try.prog.info? 71).map (fun i => (i.zero, i.size)) = some (some (.agg (#[.int .i64 0] ++ Array.replicate 64 (.int .u8 0))), 65) := by kernel_rfl
theorem Try.infoWr3 : (Try.prog.info? 71).map (fun i => (i.zero, i.size, i.bytes)) = some (some (.agg (#[.int .i64 0] ++ Array.replicate 64 (.int .u8 0))), 65, 72) := by kernel_rfl

set_option maxHeartbeats 400000 in
theorem disk_write_nil (w : World) (i : Int) (v : Value) :
    Calls Try.prog 15 #[.pointer none, .int .i64 i, v] w fun e w' => e = .returned (.int .i64 11) ∧ w = w' := by
  go_enter Try.func15, Try.ntmps15
  go_wp2
  go_ret
  exact ⟨rfl, rfl⟩

set_option maxHeartbeats 400000 in
theorem disk_write_far {w : World} {p gn gk : Nat} {vw : Value} {D : DS} (h : DiskAt w p gn gk vw D) (i : Int) (v : Value) (hi : D.has i = false) :
    Calls Try.prog 15 #[.pointer (some ⟨p, 0, none⟩), .int .i64 i, v] w fun e w' => e = .returned (.int .i64 1) ∧ w = w' := by
  have hh := disk_has h i
  rw [hi] at hh
  have H2 := Lib.hid hh
  clear h hh hi
  go_enter Try.func15, Try.ntmps15
  go_wp2_with (go_at_call 38; refine H2.out.mono ?_; rintro e w' ⟨rfl, rfl⟩)
  go_ret
  exact ⟨rfl, rfl⟩

set_option maxHeartbeats 400000 in
theorem disk_write_long {w : World} {p gn gk : Nat} {vw : Value} {D : DS} (h : DiskAt w p gn gk vw D) (i : Int) (ao : Option Addr) (n c : Nat) (hi : D.has i = true) (hn : 64 < n) :
    Calls Try.prog 15 #[.pointer (some ⟨p, 0, none⟩), .int .i64 i, .slice ao n c] w fun e w' => e = .returned (.int .i64 1) ∧ w = w' := by
  have hh := disk_has h i
  rw [hi] at hh
  have H2 := Lib.hid hh
  have hn' : (64 : Int) < (n : Int) := by omega
  clear h hh hi
  go_enter Try.func15, Try.ntmps15
  go_wp2_with (go_at_call 38; refine H2.out.mono ?_; rintro e w' ⟨rfl, rfl⟩)
  go_ret
  exact ⟨rfl, rfl⟩

theorem built_wr (i : Int) : Try.prog.built 71 [(0, Value.int .i64 i)] = some (Value.int .i64 i :: u8s (List.replicate 64 0)).toArray := by kernel_rfl
theorem Try.sizeU8 : (Try.prog.info? 5).map (·.size) = some 1 := by kernel_rfl
/-- copy of bytes into the block that was made last. -/
theorem wpList_copy_new {ops : Array Oper} {rest : List Oper} {o : Oper} {a : Act} {w : World} {Q : Exit → Act → World → Prop} (hgd : o.guard = none) (d s : Operand) (ho : o.op = .call { callee := .builtin .copy, args := #[d, s], argTypes := #[31, 31] })
    (cur : List Value) (t : TypeId) (off dLen dCap : Nat) (hd : a.eval d = .slice (some ⟨w.heap.size, off, none⟩) dLen dCap) (v : Value) (hs : a.eval s = v) (b : List UInt8) (hv : SlC w v b) (hb : b.length ≤ dLen) (hfit : off + b.length ≤ cur.length)
    (h : wpList Try.prog ops Q rest (a.put o.dst (goInt b.length)) (w.alloc (.cells (cur.take off ++ (u8s b ++ cur.drop (off + b.length))).toArray t))) : wpList Try.prog ops Q (o :: rest) a (w.alloc (.cells cur.toArray t)) := by
  by_cases h0 : b = []
  · subst h0
    obtain ⟨ao, c, rfl⟩ := hv.shape
    refine wpList_copy_nothing hgd d s _ _ ho 5 Try.underlying31 Try.sizeU8 _ ao dLen dCap 0 c hd hs (by simp) ?_
    simpa [u8s] using h
  · rcases hv with ⟨rfl, rfl⟩ | ⟨ad, c, rfl, hc⟩
    · exact (h0 rfl).elim
    · refine wpList_copy_own hgd d s _ _ ho 5 Try.underlying31 Try.sizeU8 w.heap.size off dLen dCap ad b.length c hd hs cur.toArray t (heap_alloc_new w _) (u8s b) (by rw [u8s_length]; exact (Nat.min_eq_left hb).symm) ?_ (by rw [u8s_length]; simpa using hfit) (u8s_oneCell b) ?_
      · intro j u hu
        obtain ⟨hj, rfl⟩ := u8s_get hu
        have h1 := hc j hj
        have hbl : (ad.add j).block < w.heap.size := World.block_lt_of_cell? w _ h1
        exact (World.cell?_of_block (Below.heap_alloc w _ _ hbl)).trans h1
      · rw [World.setRow_alloc_new, u8s_length]
        exact h

theorem write_cells (i : Int) (b : List UInt8) (hb : b.length ≤ 64) :
    (((Value.int .i64 i :: u8s (List.replicate 64 0)).take 1) ++ (u8s b ++ (Value.int .i64 i :: u8s (List.replicate 64 0)).drop (1 + b.length))) = Value.int .i64 i :: u8s (pad b) := by
  rw [Nat.add_comm 1, List.drop_succ_cons, ← u8s_drop, ← u8s_append, List.drop_replicate]
  rfl

theorem DS.last_same (D : DS) : D.last.n = D.n ∧ D.last.N = D.N ∧ D.last.K = D.K ∧ D.last.W = D.W ∧ D.last.wr = D.wr ∧ D.last.sy = D.sy := by
  unfold DS.last
  repeat' split
  all_goals exact ⟨rfl, rfl, rfl, rfl, rfl, rfl⟩
theorem DiskAt.alloc {w : World} {p gn gk : Nat} {vw : Value} {D : DS} (h : DiskAt w p gn gk vw D) (o : Obj) : DiskAt (w.alloc o) p gn gk vw D :=
  h.keep fun k hk => Below.heap_alloc _ _ _ (Stab.lt (I := DiskR p D) (F := Foot p gn gk vw) ⟨gn, gk, vw, h, fun _ => Iff.rfl⟩ k hk)

theorem u8s_put (N : List UInt8) (i : Nat) (s : List UInt8) (h : s.length = 64) : (u8s N).take (i * 64) ++ u8s s ++ (u8s N).drop (i * 64 + (u8s s).length) = u8s (put N i s) := by
  rw [u8s_length, h, put, u8s_append, u8s_append, u8s_take, u8s_drop]
/-- A sector of what is seen, or of what is kept, is written over. -/
theorem DiskAt.layN {w : World} {p gn gk : Nat} {vw : Value} {D : DS} (h : DiskAt w p gn gk vw D) {i : Nat} (hi : i < D.n) {s : List UInt8} (hs : s.length = 64) :
    DiskAt (w.setCells gn (i * 64) (u8s s)) p gn gk vw { D with N := put D.N i s } := by
  obtain ⟨n1, n2⟩ := h.np
  have hh := heap_setCells gn _ (u8s s) (i * 64) w (u8s D.N) h.now (by rw [u8s_length, u8s_length, hs, h.ok.N]; omega)
  rw [u8s_put D.N i s hs] at hh
  refine ⟨⟨h.ok.n, put_length h.ok.N hi hs, h.ok.K, h.ok.W, h.ok.fuse⟩, ?_, hh, ?_, own_keepAt h.row (fun k e => heap_setCells_other _ _ _ _ _ (fun e2 => h.nw.1 (by rw [e, e2]))), h.ne⟩
  · exact (heap_setCells_other _ _ _ _ _ (fun e => n1 e.symm)).trans h.at'
  · exact (heap_setCells_other _ _ _ _ _ (fun e => h.ne e.symm)).trans h.kept
theorem DiskAt.layK {w : World} {p gn gk : Nat} {vw : Value} {D : DS} (h : DiskAt w p gn gk vw D) {i : Nat} (hi : i < D.n) {s : List UInt8} (hs : s.length = 64) :
    DiskAt (w.setCells gk (i * 64) (u8s s)) p gn gk vw { D with K := put D.K i s } := by
  obtain ⟨n1, n2⟩ := h.np
  have hh := heap_setCells gk _ (u8s s) (i * 64) w (u8s D.K) h.kept (by rw [u8s_length, u8s_length, hs, h.ok.K]; omega)
  rw [u8s_put D.K i s hs] at hh
  refine ⟨⟨h.ok.n, h.ok.N, put_length h.ok.K hi hs, h.ok.W, h.ok.fuse⟩, ?_, ?_, hh, own_keepAt h.row (fun k e => heap_setCells_other _ _ _ _ _ (fun e2 => h.nw.2.1 (by rw [e, e2]))), h.ne⟩
  · exact (heap_setCells_other _ _ _ _ _ (fun e => n2 e.symm)).trans h.at'
  · exact (heap_setCells_other _ _ _ _ _ (fun e => h.ne e)).trans h.now

/-- Behind the append of a write that waits, ahead of its store into the disk's field. -/
structure WrMid (w : World) (p gn gk : Nat) (vw : Value) (D : DS) (i : Nat) (s : List UInt8) (v1 : Value) (w1 : World) : Prop where
  disk : DiskAt w p gn gk vw D
  hi : i < D.n
  hs : s.length = 64
  own : w1.ownsRow 0 71 65 v1 (D.W.length + 1) (wcells (D.W ++ [(i, s)]))
  row : v1.ownBlock = vw.ownBlock ∨ ∃ g, v1.ownBlock = some g ∧ w.heap.size ≤ g
  only : Only (fun k => vw.ownBlock = some k) w w1
theorem WrMid.at' {w w1 : World} {p gn gk i : Nat} {vw v1 : Value} {D : DS} {s : List UInt8} (h : WrMid w p gn gk vw D i s v1 w1) :
    w1.heap[p]? = some (.cells #[.slice (some ⟨gn, 0, none⟩) D.n D.n, .slice (some ⟨gk, 0, none⟩) D.n D.n, vw, .int .i64 D.fuse, .bool D.down, .int .i64 D.wr, .int .i64 D.sy] 67 (0, 0)) :=
  h.only.keep h.disk.at' h.disk.nw.2.2
theorem WrMid.done {w w1 : World} {p gn gk i : Nat} {vw v1 : Value} {D : DS} {s : List UInt8} (h : WrMid w p gn gk vw D i s v1 w1) : DiskAt (w1.setCell ⟨p, 2, none⟩ v1) p gn gk v1 { D with W := D.W ++ [(i, s)] } := by
  obtain ⟨n1, n2⟩ := h.disk.np
  have hv : v1.ownBlock ≠ some p := own_type h.own h.at' (by decide)
  refine ⟨⟨h.disk.ok.n, h.disk.ok.N, h.disk.ok.K, ?_, h.disk.ok.fuse⟩, ?_, ?_, ?_, ?_, h.disk.ne⟩
  · intro x hx
    rcases List.mem_append.1 hx with hx | hx
    · exact h.disk.ok.W x hx
    · obtain rfl := List.mem_singleton.1 hx
      exact ⟨h.hi, h.hs⟩
  · rw [heap_set h.at']; rfl
  · rw [Below.heap_setCell _ _ _ _ n1]; exact h.only.keep h.disk.now h.disk.nw.1
  · rw [Below.heap_setCell _ _ _ _ n2]; exact h.only.keep h.disk.kept h.disk.nw.2.1
  · have := own_keepAt h.own (w' := w1.setCell ⟨p, 2, none⟩ v1) (fun k e => Below.heap_setCell _ _ _ _ (fun e2 => hv (by rw [e, e2])))
    simpa using this

theorem step_wr {ops : Array Oper} {o : Oper} {a : Act} {K : Act → World → Prop} {Q : Exit → Act → World → Prop} {E : Prop} (w : World) (p gn gk : Nat) (vw : Value) (D : DS) (i : Nat) (s : List UInt8) (M : List Value)
    (hD : DiskAt w p gn gk vw D) (hi : i < D.n) (hs : s.length = 64) (hM : M = .int .i64 i :: u8s s) (hlen : D.W.length ≤ 1000000) (hgd : o.guard = none) (x y : Operand)
    (ho : o.op = .call { callee := .builtin .append, args := #[x, y], argTypes := #[65, 65] })
    (hx : a.eval x = vw) (hy : a.eval y = .slice (some ⟨w.heap.size, 0, none⟩) 1 1)
    (h : ∀ g cap w1, w1.cell? ⟨p, 2, none⟩ = some vw → w1.frozen? ⟨p, 2, none⟩ = false → Hid (WrMid w p gn gk vw D i s (.slice (some ⟨g, 0, none⟩) (D.W.length + 1) cap) w1) →
      K (a.put o.dst (.slice (some ⟨g, 0, none⟩) (D.W.length + 1) cap)) w1) :
    if Region.wanted o (yielded ops a.tmps) = true then Oper.wp Try.prog o a (w.alloc (.cells M.toArray 71)).drew K Q else E := by
  obtain ⟨i0, hi0, hz0, hz1, hz2⟩ := info_parts Try.infoWr3
  have hM1 : M.length = 65 := by rw [hM]; simp [u8s_length, hs]
  refine step_append_lies (P := Try.prog) (w.alloc (.cells M.toArray 71)).drew hgd x y 65 ho 0 71 i0 _ 65 72 Try.underlying65 hi0 hz0 hz1 hz2 rfl (by decide) vw D.W.length (wcells D.W) hx
    ((hD.row.alloc _).drew) ⟨w.heap.size, 0, none⟩ 1 1 M hy (by rw [hM1]) (World.news_of_block (B := w.heap.size) (heap_alloc_new w _)) ?_ Nat.zero_lt_one (by unfold maxLen; omega) (by omega) (Nat.zero_le _) (w.heap.size + 1) (by simp) ?_
  · rw [hM]
    intro u hu
    rcases List.mem_cons.1 hu with rfl | hu
    · rfl
    · exact u8s_oneCell _ u hu
  intro g cap w1 hown hgrow hat hlt
  rw [hM, ← wcells_snoc] at hown
  have hm : WrMid w p gn gk vw D i s (.slice (some ⟨g, 0, none⟩) (D.W.length + 1) cap) w1 := by
    refine ⟨hD, hi, hs, hown, ?_, ?_⟩
    · rcases hat with h | h
      · exact .inl h.symm
      · exact .inr ⟨g, rfl, by omega⟩
    · exact ((((Only.refl (fun _ => False) w).alloc (.cells M.toArray 71)).drew).mono (fun _ _ h => h.elim)).grown hgrow (fun k _ e => e)
  have hp := hm.at'
  exact h g cap w1 (by simp [World.cell?, hp]) (by simp [World.frozen?, hp]) hm

def WrotePost (w : World) (p gn gk : Nat) (vw : Value) (D' : DS) (r : Nat) (e : Ending) (w' : World) : Prop :=
  e = .returned (.int .i64 r) ∧ ∃ v1, DiskAt w' p gn gk v1 D' ∧ (v1.ownBlock = vw.ownBlock ∨ ∃ g, v1.ownBlock = some g ∧ w.heap.size ≤ g) ∧ Only (Foot p gn gk vw) w w'

set_option maxRecDepth 100000 in
set_option maxHeartbeats 1000000 in
theorem disk_write_ok {w : World} {p gn gk : Nat} {vw : Value} {D : DS} (h : DiskAt w p gn gk vw D) (i : Nat) (v : Value) (b : List UInt8) (hi : i < D.n) (hb : b.length ≤ 64) (hl : D.lastB = true) (hv : SlO w (Foot p gn gk vw) v b) (hW : D.W.length ≤ 1000000) (hwr : D.wr ≤ 1000000) :
    Calls Try.prog 15 #[.pointer (some ⟨p, 0, none⟩), .int .i64 i, v] w (WrotePost w p gn gk vw (D.last.lay i (pad b)) 0) := by
  have hh := disk_has h i
  have e1 : D.has i = true := by simp [DS.has]; omega
  rw [e1] at hh
  have hla := disk_lasts h
  rw [hl] at hla
  obtain ⟨ao, c, rfl⟩ := hv.1.shape
  have hb' : ¬ (64 : Int) < (b.length : Int) := by omega
  have hn := h.ok.n
  have H2 := Lib.hid hh
  have H3 := Lib.hid hla
  have HV := Lib.hid hv
  have H4 := Lib.hid h
  have HB := Lib.hid hb
  have hbd : decide ((64 : Int) < (b.length : Int)) = false := decide_eq_false hb'
  obtain ⟨L, hL⟩ : ∃ L, L = Value.int .i64 (i : Int) :: u8s (List.replicate 64 0) := ⟨_, rfl⟩
  have hbu : Try.prog.built 71 [(0, Value.int .i64 (i : Int))] = some L.toArray := by rw [hL]; exact built_wr i
  have HL1 : Hid (L.toArray.size = 65) := Lib.hid (by rw [hL]; rfl)
  have HL2 : Hid (L.toArray.all (·.oneCell') = true) := Lib.hid (by rw [hL]; exact all_oneCell_toArray (fun v hv => by rcases List.mem_cons.1 hv with rfl | hv; rfl; exact u8s_oneCell _ v hv))
  have HL3 : Hid (1 + b.length ≤ L.length) := Lib.hid (by have : L.length = 65 := (by rw [hL]; rfl); omega)
  obtain ⟨M, hM⟩ : ∃ M, M = Value.int .i64 (i : Int) :: u8s (pad b) := ⟨_, rfl⟩
  have HM : Hid (L.take 1 ++ (u8s b ++ L.drop (1 + b.length)) = M) := Lib.hid (by rw [hL, hM]; exact write_cells i b hb)
  have HBU := Lib.hid hbu
  have HMM := Lib.hid hM
  clear h hh hla e1 hv hl hb hL hbu hM
  go_enter Try.func15, Try.ntmps15
  go_upto_region 7 with (first | (go_at_call 38; refine H2.out.mono ?_; rintro e w' ⟨rfl, rfl⟩) | (go_at_call 40; refine H3.out.mono ?_; rintro e w1 ⟨rfl, h1, o1⟩; have H1 := Lib.hid h1; have O1 := Lib.hid o1; clear h1 o1))
  go_upto_region 8 with (first | (refine wpList_build_one rfl 71 0 (.tmp 22) rfl _ rfl L.toArray HBU.out ?_) | (refine wpList_alloc_store rfl rfl 71 (.tmp 7) (.tmp 23) rfl rfl _ 65 Try.infoWr rfl L.toArray HL1.out HL2.out rfl rfl ?_))
  have HV1 : Hid (SlC w1 (.slice ao b.length c) b) := Lib.hid (HV.out.keep (O1.out.mono (fun k _ e => .inl e))).1
  go_wp2_with (refine wpList_copy_new rfl (.tmp 25) (.tmp 26) rfl L 71 1 64 64 rfl (.slice ao b.length c) rfl b HV1.out HB.out HL3.out ?_)
  rw [HM.out]
  simp only [Act.put, List.setIfInBounds_toArray, List.set_cons_succ, List.set_cons_zero]
  have h2 := H1.out.alloc (.cells M.toArray 71)
  have hg := heap_alloc_new w1 (.cells M.toArray 71)
  have o2 := O1.out.alloc (.cells M.toArray 71)
  have hgs : w1.heap.size < (w1.alloc (.cells M.toArray 71)).heap.size := by simp
  have hgp : w.heap.size ≤ w1.heap.size := O1.out.size
  have HGV : Hid (vw.ownBlock ≠ some w1.heap.size) := Lib.hid (fun e => Nat.lt_irrefl _ (own_lt H1.out.row e))
  generalize w1.alloc (.cells M.toArray 71) = w2 at *
  generalize w1.heap.size = g at *
  obtain ⟨E, hE⟩ : ∃ E, E = D.last := ⟨_, rfl⟩
  rw [← hE] at h2
  have hiE : i < E.n := by rw [hE, (DS.last_same D).1]; exact hi
  have hiI : (i : Int) < (E.n : Int) := by omega
  have hi0 : (0 : Int) ≤ (i : Int) := by omega
  have hnE := h2.ok.n
  have hc0 : w2.cell? ⟨p, 0, none⟩ = some (.slice (some ⟨gn, 0, none⟩) E.n E.n) := h2.cell 0
  have hl64 : (u8s (pad b)).length = 64 := by rw [u8s_length, pad_length HB.out]
  have hr : w2.rangeAt g 1 (u8s (pad b)) := by
    have := range_of_list (L := M) hg 1 64
    rw [HMM.out, List.drop_succ_cons, List.drop_zero, List.take_of_length_le (by omega)] at this
    exact this
  have ht : w2.there gn (i * 64) 64 := there_of_row h2.now (by simp [u8s_length, h2.ok.N]; omega)
  have h1c := u8s_oneCell (pad b)
  obtain ⟨cs, hcs⟩ : ∃ cs, cs = u8s (pad b) := ⟨_, rfl⟩
  rw [← hcs] at hl64 hr h1c
  have HCS := Lib.hid hcs
  clear hcs
  have hu := Try.underlying69
  have hsz : (Try.prog.info? 69).map (·.size) = some cs.length := by rw [Try.sizeSec, hl64]
  have H5 := Lib.hid h2
  have H6 := Lib.hid hg
  have H7 := Lib.hid o2
  have H8 := Lib.hid hE
  clear h2 hg o2 hE
  have hgn : g ≠ gn := fun e => by have a := H6.out; have b := H5.out.now; rw [e, b] at a; simp at a
  have hpn : p ≠ gn := fun e => H5.out.np.1 e.symm
  have HK : Hid (∀ w' : World, (w'.cell? ⟨p, 0, none⟩ = some (.slice (some ⟨gn, 0, none⟩) E.n E.n) ∧ w'.rangeAt g 1 cs ∧ w'.there gn (i * 64) 64) →
      ((w'.setCells gn (i * 64) cs).cell? ⟨p, 0, none⟩ = some (.slice (some ⟨gn, 0, none⟩) E.n E.n) ∧ (w'.setCells gn (i * 64) cs).rangeAt g 1 cs ∧ (w'.setCells gn (i * 64) cs).there gn (i * 64) 64)) := Lib.hid fun w' h =>
    ⟨by rw [World.cell?_of_block (heap_setCells_other gn cs (i * 64) w' p hpn)]; exact h.1, World.rangeAt_setCells_apart h.2.1 _ _ _ (.inl hgn), World.there_setCells h.2.2 _ _ _⟩
  have HS0 : Hid (w2.drew.cell? ⟨p, 0, none⟩ = some (.slice (some ⟨gn, 0, none⟩) E.n E.n) ∧ w2.drew.rangeAt g 1 cs ∧ w2.drew.there gn (i * 64) 64) := Lib.hid ⟨hc0, hr, ht⟩
  clear hgn hpn
  go_region_held3 (fun w' => w'.cell? ⟨p, 0, none⟩ = some (.slice (some ⟨gn, 0, none⟩) E.n E.n) ∧ w'.rangeAt g 1 cs ∧ w'.there gn (i * 64) 64) (first | exact HS0.out | exact HK.out _ HS0.out) (fail)
  have h3 := (H5.out.keep (w' := w2.drew) (fun _ _ => rfl)).layN hiE (pad_length HB.out)
  rw [← HCS.out] at h3
  have g3 : (w2.drew.setCells gn (i * 64) cs).heap[g]? = some (.cells M.toArray 71 (0, 0)) :=
    (heap_setCells_other gn cs (i * 64) w2.drew g (fun e => by have a := H6.out; have b := H5.out.now; rw [e, b] at a; simp at a)).trans H6.out
  have o3 := ((H7.out.mono (T := Foot p gn gk vw) (fun _ _ e => .inl e)).drew).trans (Only.setCells w2.drew gn (i * 64) cs) (fun k _ e => .inr (.inl e))
  clear hc0 hr ht HK HS0
  generalize w2.drew.setCells gn (i * 64) cs = w3 at *
  have hM65 : M.toArray.size = 65 := by rw [HMM.out]; simp [u8s_length, pad_length HB.out]
  have c2 : w3.cell? ⟨p, 2, none⟩ = some vw := h3.cell 2
  have f2 : w3.frozen? ⟨p, 2, none⟩ = false := h3.free 2
  have c2' : (w3.alloc (.cells M.toArray 71)).cell? ⟨p, 2, none⟩ = some vw := (h3.alloc _).cell 2
  have hbs := fun w => run_buildSlice_one (P := Try.prog) w 65 71 _ 65 Try.underlying65 Try.infoWr rfl (by decide) (by decide) M.toArray hM65
  have hrM : w3.drew.rangeAt g 0 M := by
    have := range_of_list (L := M) (w := w3.drew) g3 0 65
    rwa [List.drop_zero, List.take_of_length_le (by simpa using Nat.le_of_eq hM65)] at this
  have hMl : (Try.prog.info? 71).map (·.size) = some M.length := by rw [(zero_of_info Try.infoWr).2]; exact congrArg some (by simpa using hM65.symm)
  have HMl := Lib.hid hMl
  have hgp3 : g ≠ p := fun e => by have a := h3.at'; rw [← e, g3] at a; simp at a
  have HGP := Lib.hid hgp3
  clear hgp3 hMl
  have hWE : E.W.length ≤ 1000000 := by rw [H8.out, (DS.last_same D).2.2.2.1]; exact hW
  have H9 := Lib.hid h3
  have H10 := Lib.hid o3
  have HM65 := Lib.hid hM65
  clear h3 g3 o3 hM65 hsz hu h1c hl64 H5 H6 H7
  go_upto_region 10 with fail
  refine wp_region_held_drew (S := (fun w' => w'.rangeAt g 0 M)) (by kernel_rfl) ?_ (fun hHeld => ?_)
  · exact hrM
  refine wpAnyH_take (i := 0) (oi := ?_) (v := ?_) ?_ (by kernel_rfl) (by kernel_rfl) (by kernel_rfl) ?_ (Or.inl ⟨?_, ?_⟩) (by assumption) ?_
  rotate_left 2
  · (simp only [List.getElem?_toArray, List.getElem?_cons_zero]; rfl)
  · exact fun _ _ _ h => h
  · rfl
  · (intro w hSw; (try dsimp only at hSw); go_simp <;> with_reducible rfl)
  (try simp only [Act.put, List.setIfInBounds_toArray, List.set_cons_zero, List.set_cons_succ])
  refine wpAnyH_take (i := 1) (oi := ?_) (v := ?_) ?_ (by kernel_rfl) (by kernel_rfl) (by kernel_rfl) ?_ (Or.inl ⟨?_, ?_⟩) (by assumption) ?_
  rotate_left 2
  · (simp only [List.getElem?_toArray, List.getElem?_cons_succ, List.getElem?_cons_zero]; rfl)
  · exact fun _ _ _ h => h
  · rfl
  · (intro w hSw; (try dsimp only at hSw); go_simp <;> with_reducible rfl)
  (try simp only [Act.put, List.setIfInBounds_toArray, List.set_cons_zero, List.set_cons_succ])
  refine wpAnyH_take (i := 2) (oi := ?_) (v := ?_) ?_ (by kernel_rfl) (by kernel_rfl) (by kernel_rfl) ?_ (Or.inl ⟨?_, ?_⟩) (by assumption) ?_
  rotate_left 2
  · (simp only [List.getElem?_toArray, List.getElem?_cons_succ, List.getElem?_cons_zero]; rfl)
  · exact fun _ _ _ h => h
  · rfl
  · (intro w hSw; (try dsimp only at hSw); go_simp <;> with_reducible rfl)
  (try simp only [Act.put, List.setIfInBounds_toArray, List.set_cons_zero, List.set_cons_succ])
  refine wpAnyH_take (i := 3) (oi := ?_) (v := ?_) ?_ (by kernel_rfl) (by kernel_rfl) (by kernel_rfl) ?_ (Or.inl ⟨?_, ?_⟩) (by assumption) ?_
  rotate_left 2
  · (simp only [List.getElem?_toArray, List.getElem?_cons_succ, List.getElem?_cons_zero]; rfl)
  · exact fun _ _ _ h => h
  · rfl
  · (intro w hSw; (try dsimp only at hSw); go_simp <;> with_reducible rfl)
  (try simp only [Act.put, List.setIfInBounds_toArray, List.set_cons_zero, List.set_cons_succ])
  refine wpAnyH_take (i := 5) (oi := ?_) (v := ?_) ?_ (by kernel_rfl) (by kernel_rfl) (by kernel_rfl) ?_ ?_ (by assumption) ?_
  rotate_left 2
  · (simp only [List.getElem?_toArray, List.getElem?_cons_succ, List.getElem?_cons_zero]; rfl)
  · exact fun _ _ _ h => h
  · (refine yieldsIf_load_mid ?_ 71 (.tmp 7) ?_ g 0 ?_ M _ (fun _ h => h) Try.underlying71 rfl HMl.out <;> rfl)
  (try simp only [Act.put, List.setIfInBounds_toArray, List.set_cons_zero, List.set_cons_succ])
  have hs1 : Hid ((w3.alloc (.cells M.toArray 71)).drew.rangeAt g 0 M) := Lib.hid (World.rangeAt_alloc (show w3.rangeAt g 0 M from hrM) _)
  have HR4 : Hid (∀ (w4 : World) (_ : Unit), Only (fun k => vw.ownBlock = some k) w3 w4 → w4.rangeAt g 0 M) := Lib.hid fun w4 _ h j v hv => by
    have h0 : w3.cell? ⟨g, 0 + j, none⟩ = some v := hrM j v hv
    rw [World.cell?_of_block (h.block g (World.block_lt_of_cell? w3 _ h0) HGV.out)]
    exact h0
  have HR5 : Hid (∀ (w4 : World) (v1 : Value) (_ : Unit), Only (fun k => vw.ownBlock = some k) w3 w4 → (w4.setCell ⟨p, 2, none⟩ v1).rangeAt g 0 M) := Lib.hid fun w4 v1 _ h j v hv => by
    rw [World.cell?_of_block (Below.heap_setCell _ _ _ _ HGP.out)]
    exact HR4.out w4 () h j v hv
  refine wpAnyH_ready (rs := [4, 6]) (by kernel_rfl) (by simp) (AllReadyH.cons (o := ?o4_1) ?h4_1 (fun K hK => ?s4_1) (AllReadyH.cons (o := ?o6_1) ?h6_1 (fun K hK => ?s6_1) AllReadyH.nil))
  case h4_1 => (simp only [List.getElem?_toArray, List.getElem?_cons_succ, List.getElem?_cons_zero]; rfl)
  case h6_1 => (simp only [List.getElem?_toArray, List.getElem?_cons_succ, List.getElem?_cons_zero]; rfl)
  case' s4_1 =>
    go_simp
    refine hK.out _ _ ?_ (fun hHeld => ?_)
    · exact hrM
    clear hK K
    (try simp only [Act.put, List.setIfInBounds_toArray, List.set_cons_zero, List.set_cons_succ])
    refine wpAnyH_ready (rs := [6]) (by kernel_rfl) (by simp) (AllReadyH.cons (o := ?o6_2) ?h6_2 (fun K hK => ?s6_2) AllReadyH.nil)
    case h6_2 => (simp only [List.getElem?_toArray, List.getElem?_cons_succ, List.getElem?_cons_zero]; rfl)
    case' s6_2 =>
      refine step_buildSlice_one rfl 65 71 _ 65 Try.underlying65 Try.infoWr rfl (by decide) (by decide) (.tmp 41) rfl M.toArray rfl HM65.out ?_
      refine hK.out _ _ ?_ (fun hHeld => ?_)
      · exact hs1.out
      clear hK K
      (try simp only [Act.put, List.setIfInBounds_toArray, List.set_cons_zero, List.set_cons_succ])
      refine wpAnyH_ready (rs := [7]) (by kernel_rfl) (by simp) (AllReadyH.cons (o := ?o7_3) ?h7_3 (fun K hK => ?s7_3) AllReadyH.nil)
      case h7_3 => (simp only [List.getElem?_toArray, List.getElem?_cons_succ, List.getElem?_cons_zero]; rfl)
      case' s7_3 =>
        (refine step_wr w3 p gn gk vw _ i (pad b) M H9.out hiE (pad_length HB.out) HMM.out hWE rfl (.tmp 40) (.tmp 42) rfl ?_ ?_ ?_; (go_must (simp [Act.eval])); (go_must (simp [Act.eval])); (go_must (intro g2 cap w4 c4 f4 HM4)))
        refine hK.out _ _ ?_ (fun hHeld => ?_)
        · exact HR4.out _ () HM4.out.only
        clear hK K
        (try simp only [Act.put, List.setIfInBounds_toArray, List.set_cons_zero, List.set_cons_succ])
        refine wpAnyH_take (i := 8) (oi := ?_) (v := ?_) ?_ (by kernel_rfl) (by kernel_rfl) (by kernel_rfl) ?_ (Or.inl ⟨?_, ?_⟩) (by assumption) ?_
        rotate_left 2
        · (simp only [List.getElem?_toArray, List.getElem?_cons_succ, List.getElem?_cons_zero]; rfl)
        · exact fun _ _ _ h => h
        · rfl
        · (intro w hSw; (try dsimp only at hSw); go_simp <;> with_reducible rfl)
        (try simp only [Act.put, List.setIfInBounds_toArray, List.set_cons_zero, List.set_cons_succ])
        refine wpAnyH_take (i := 9) (oi := ?_) (v := ?_) ?_ (by kernel_rfl) (by kernel_rfl) (by kernel_rfl) ?_ (Or.inl ⟨?_, ?_⟩) (by assumption) ?_
        rotate_left 2
        · (simp only [List.getElem?_toArray, List.getElem?_cons_succ, List.getElem?_cons_zero]; rfl)
        · exact fun _ _ _ h => h
        · rfl
        · (intro w hSw; (try dsimp only at hSw); go_simp <;> with_reducible rfl)
        (try simp only [Act.put, List.setIfInBounds_toArray, List.set_cons_zero, List.set_cons_succ])
        refine wpAnyH_ready (rs := [10]) (by kernel_rfl) (by simp) (AllReadyH.cons (o := ?o10_4) ?h10_4 (fun K hK => ?s10_4) AllReadyH.nil)
        case h10_4 => (simp only [List.getElem?_toArray, List.getElem?_cons_succ, List.getElem?_cons_zero]; rfl)
        case' s10_4 =>
          go_simp
          refine hK.out _ _ ?_ (fun hHeld => ?_)
          · exact HR5.out _ _ () HM4.out.only
          clear hK K
          (try simp only [Act.put, List.setIfInBounds_toArray, List.set_cons_zero, List.set_cons_succ])
          refine wpAnyH_done (by kernel_rfl) ?_ _
  case' s6_1 =>
    refine step_buildSlice_one rfl 65 71 _ 65 Try.underlying65 Try.infoWr rfl (by decide) (by decide) (.tmp 41) rfl M.toArray rfl HM65.out ?_
    refine hK.out _ _ ?_ (fun hHeld => ?_)
    · exact hs1.out
    clear hK K
    (try simp only [Act.put, List.setIfInBounds_toArray, List.set_cons_zero, List.set_cons_succ])
    refine wpAnyH_ready (rs := [4]) (by kernel_rfl) (by simp) (AllReadyH.cons (o := ?o4_5) ?h4_5 (fun K hK => ?s4_5) AllReadyH.nil)
    case h4_5 => (simp only [List.getElem?_toArray, List.getElem?_cons_succ, List.getElem?_cons_zero]; rfl)
    case' s4_5 =>
      go_simp
      refine hK.out _ _ ?_ (fun hHeld => ?_)
      · exact hs1.out
      clear hK K
      (try simp only [Act.put, List.setIfInBounds_toArray, List.set_cons_zero, List.set_cons_succ])
      refine wpAnyH_ready (rs := [7]) (by kernel_rfl) (by simp) (AllReadyH.cons (o := ?o7_6) ?h7_6 (fun K hK => ?s7_6) AllReadyH.nil)
      case h7_6 => (simp only [List.getElem?_toArray, List.getElem?_cons_succ, List.getElem?_cons_zero]; rfl)
      case' s7_6 =>
        (refine step_wr w3 p gn gk vw _ i (pad b) M H9.out hiE (pad_length HB.out) HMM.out hWE rfl (.tmp 40) (.tmp 42) rfl ?_ ?_ ?_; (go_must (simp [Act.eval])); (go_must (simp [Act.eval])); (go_must (intro g2 cap w4 c4 f4 HM4)))
        refine hK.out _ _ ?_ (fun hHeld => ?_)
        · exact HR4.out _ () HM4.out.only
        clear hK K
        (try simp only [Act.put, List.setIfInBounds_toArray, List.set_cons_zero, List.set_cons_succ])
        refine wpAnyH_take (i := 8) (oi := ?_) (v := ?_) ?_ (by kernel_rfl) (by kernel_rfl) (by kernel_rfl) ?_ (Or.inl ⟨?_, ?_⟩) (by assumption) ?_
        rotate_left 2
        · (simp only [List.getElem?_toArray, List.getElem?_cons_succ, List.getElem?_cons_zero]; rfl)
        · exact fun _ _ _ h => h
        · rfl
        · (intro w hSw; (try dsimp only at hSw); go_simp <;> with_reducible rfl)
        (try simp only [Act.put, List.setIfInBounds_toArray, List.set_cons_zero, List.set_cons_succ])
        refine wpAnyH_take (i := 9) (oi := ?_) (v := ?_) ?_ (by kernel_rfl) (by kernel_rfl) (by kernel_rfl) ?_ (Or.inl ⟨?_, ?_⟩) (by assumption) ?_
        rotate_left 2
        · (simp only [List.getElem?_toArray, List.getElem?_cons_succ, List.getElem?_cons_zero]; rfl)
        · exact fun _ _ _ h => h
        · rfl
        · (intro w hSw; (try dsimp only at hSw); go_simp <;> with_reducible rfl)
        (try simp only [Act.put, List.setIfInBounds_toArray, List.set_cons_zero, List.set_cons_succ])
        refine wpAnyH_ready (rs := [10]) (by kernel_rfl) (by simp) (AllReadyH.cons (o := ?o10_7) ?h10_7 (fun K hK => ?s10_7) AllReadyH.nil)
        case h10_7 => (simp only [List.getElem?_toArray, List.getElem?_cons_succ, List.getElem?_cons_zero]; rfl)
        case' s10_7 =>
          go_simp
          refine hK.out _ _ ?_ (fun hHeld => ?_)
          · exact HR5.out _ _ () HM4.out.only
          clear hK K
          (try simp only [Act.put, List.setIfInBounds_toArray, List.set_cons_zero, List.set_cons_succ])
          refine wpAnyH_done (by kernel_rfl) ?_ _
  all_goals
    have h5 := HM4.out.done
    have hwE : E.wr ≤ 1000000 := by rw [H8.out, (DS.last_same D).2.2.2.2.1]; exact hwr
    have c5 : (w4.setCell ⟨p, 2, none⟩ (.slice (some ⟨g2, 0, none⟩) (E.W.length + 1) cap)).cell? ⟨p, 5, none⟩ = some (.int .i64 E.wr) := h5.cell 5
    have f5 := h5.free 5
    have h6 := h5.set (D' := E.lay i (pad b)) 5 (.int .i64 ((E.wr + 1 : Nat) : Int)) ⟨h5.ok.n, h5.ok.N, h5.ok.K, h5.ok.W, h5.ok.fuse⟩ rfl rfl rfl rfl
    have o4 := (H10.out.trans HM4.out.only (fun k _ e => .inr (.inr (.inr e)))).trans (Only.cell w4 p 2 (.slice (some ⟨g2, 0, none⟩) (E.W.length + 1) cap)) (fun k _ e => .inl e)
    have HR6 := Lib.hid HM4.out.row
    have hw3 := H10.out.size
    generalize w4.setCell ⟨p, 2, none⟩ (.slice (some ⟨g2, 0, none⟩) (E.W.length + 1) cap) = w5 at *
    have h6' := Lib.hid h6
    have O4 := Lib.hid o4
    have HW3 := Lib.hid hw3
    have H8' := H8
    clear HR4 HR5 hs1 hrM h5 h6 o4 hw3 HM4 c4 f4 c2 f2 c2' hbs H9 H10
    go_wp2
    go_ret
    refine ⟨rfl, .slice (some ⟨g2, 0, none⟩) (E.W.length + 1) cap, ?_, ?_, O4.out.trans (Only.cell w5 p 5 _) (fun k _ e => .inl e)⟩
    · rw [← H8'.out]
      exact h6'.out
    · rcases HR6.out with h | ⟨q, hq, hge⟩
      · exact .inl h
      · exact .inr ⟨q, hq, Nat.le_trans HW3.out hge⟩

end Go.Proofs.Ytidkeglldmbfeaa
