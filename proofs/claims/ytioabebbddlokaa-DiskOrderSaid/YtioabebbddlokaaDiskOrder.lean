/-
  The walk of the statement DiskOrder.
-/
import Derived.Test.YtioabebbddlokaaDiskKeeps
import Derived.Lib.BufferWrite
import Derived.Lib.SlBytesConst
namespace Go.Proofs.Ytioabebbddlokaa
open Go Go.ChangeShapes Go.WideShapes Go.ChangeAt Go.RowKit
set_option linter.unusedVariables false

/-- A slice of slices of bytes. -/
def SlR (w : World) (ao : Option Addr) (ls : List (List UInt8)) : Prop := ∀ j, j < ls.length → ∃ g off v, ao = some ⟨g, off, none⟩ ∧ w.cell? ⟨g, off + j, none⟩ = some v ∧ SlC w v (ls.getD j [])

theorem open_rowsArg {H : Type} {enc : TypeId × Value → H} {W : World} {base : Nat} {v : Value} {d : DataW H} {pl : List MemPlace}
    (hok : Value.okWide Try.prog W .any base 44 v) (h : DataW.Trod enc Try.prog W 0 (fun _ => true) true 44 v d pl) :
    ∃ (ls : List (List UInt8)) (ao : Option Addr) (c : Nat), v = .slice ao ls.length c ∧ SlR W ao ls := by
  obtain ⟨a0, len, cap, rfl⟩ := okWide_slice Try.underlying44 hok
  obtain ⟨fuel, hf⟩ := h
  rcases Go.Deep.open_slice Try.underlying44 hf with ⟨hcs, hx⟩ | ⟨a, len', cap', m, n, D, Pl, hcs, _, hl, hm, hmm, hx, hel⟩
  · simp [Value.cells] at hcs
    obtain ⟨rfl, rfl, rfl⟩ := hcs
    exact ⟨[], none, 0, rfl, fun j hj => by simp at hj⟩
  · simp [Value.cells] at hcs
    obtain ⟨rfl, rfl, rfl⟩ := hcs
    simp only [if_true] at hmm
    have haddr : 0 < len → ∃ g off, a = ⟨g, off, none⟩ := fun h0 => by
      obtain ⟨cs', hc, _⟩ := hel 0 (by omega)
      rw [Try.cellsBs] at hc
      obtain ⟨_, hcl, hat⟩ := World.cells?_some hc
      have c0 := (hat 0 (by omega)).trans (List.getElem?_eq_getElem (by omega))
      obtain ⟨b, off, spot⟩ := a
      have hspot : spot = none := by simpa [Addr.add] using World.cell?_spot c0
      subst hspot
      exact ⟨b, off, rfl⟩
    have each : ∀ i, i < len → ∃ bs : List UInt8, ∃ g off v, a = ⟨g, off, none⟩ ∧ W.cell? ⟨g, off + i, none⟩ = some v ∧ SlC W v bs := by
      intro i hi
      obtain ⟨cs', hc, ht⟩ := hel i (by omega)
      rw [Try.cellsBs] at hc
      obtain ⟨_, hcl, hat⟩ := World.cells?_some hc
      have c0 := hat 0 (by omega)
      rw [Go.Deep.add_add] at c0
      obtain ⟨vb, bs, e2, hb⟩ := open_bytesCell ht
      obtain ⟨g, off, rfl⟩ := haddr (by omega)
      rw [e2] at c0
      simp only [add_lit] at c0
      exact ⟨bs, g, off, vb, rfl, by simpa using c0, hb⟩
    obtain ⟨F, hF⟩ := Go.Deep.choose_lt each
    refine ⟨(List.range len).map F, some a, cap, by simp, fun j hj => ?_⟩
    simp only [List.length_map, List.length_range] at hj
    have e : ((List.range len).map F).getD j [] = F j := by simp [List.getD_eq_getElem?_getD, hj]
    rw [e]
    obtain ⟨g, off, v, rfl, h1, h2⟩ := hF j hj
    exact ⟨g, off, v, rfl, h1, h2⟩

/-- What the disk holds behind so many writes of one sector. -/
structure OrdI (p a1 : Nat) (keep : List Int) (k n : Nat) (wb : List UInt8) (D : DS) : Prop where
  up : Up (3 + k) D
  ok : D.K.length = 16 * 64
  W : D.W.length = n
  nk : n ≤ k
  at' : ∀ x ∈ D.W, x.1 = p ∧ x.2.length = 64
  lw : wb.length ≤ 64
  now : sec (lays D.K (chosen D.W keep)) p = pad wb
  near : sec D.K a1 = pad [110, 101, 97, 114]
theorem OrdI.skip {p a1 : Nat} {keep : List Int} {k n : Nat} {wb : List UInt8} {D : DS} (h : OrdI p a1 keep k n wb D) : OrdI p a1 keep (k + 1) n wb D :=
  ⟨⟨h.up.few.up, h.up.coh, h.up.down, h.up.fuse⟩, h.ok, h.W, Nat.le_succ_of_le h.nk, h.at', h.lw, h.now, h.near⟩
theorem OrdI.write {p a1 : Nat} {keep : List Int} {k n : Nat} {wb b : List UInt8} {D : DS} (h : OrdI p a1 keep k n wb D) (hp : p < 16) (hb : b.length ≤ 64) :
    OrdI p a1 keep (k + 1) (n + 1) (if keptAt keep n then b else wb) (D.write p b) ∧ D.wrE p b = 0 := by
  have hw := DS.write_free h.up.down (by rw [h.up.fuse]; decide) (i := p) (by rw [h.up.few.sz]; exact hp) hb
  have hu := h.up.write p b
  rw [hw.1] at hu ⊢
  refine ⟨⟨hu, h.ok, ?_, Nat.succ_le_succ h.nk, ?_, ?_, ?_, h.near⟩, hw.2⟩
  · show (D.W ++ _).length = _
    simp [h.W]
  · intro x hx
    rcases List.mem_append.1 hx with hx | hx
    · exact h.at' x hx
    · rw [List.mem_singleton.1 hx]
      exact ⟨rfl, pad_length hb⟩
  · split
    · exact hb
    · exact h.lw
  · show sec (lays D.K (chosen (D.W ++ [(p, pad b)]) keep)) p = _
    rw [chosen_snoc, h.W]
    split
    · rw [lays_snoc]
      exact sec_put_same (n := 16) (lays_length _ _ h.ok (fun x hx => by have := h.at' x (chosen_sub _ _ x hx); exact ⟨by omega, this.2⟩)) hp (pad_length hb)
    · exact h.now
theorem OrdI.crash {p a1 : Nat} {keep : List Int} {k n : Nat} {wb : List UInt8} {D : DS} (h : OrdI p a1 keep k n wb D) (hok : D.Ok) (hp : p < 16) (hne : a1 ≠ p) :
    sec (D.crash keep).N p = pad wb ∧ sec (D.crash keep).N a1 = pad [110, 101, 97, 114] ∧ (D.crash keep).n = 16 := by
  rw [h.up.coh.crashed hok]
  refine ⟨h.now, ?_, h.up.few.sz⟩
  rw [lays_other (n := 16) _ _ h.ok (fun x hx => by have := h.at' x (chosen_sub _ _ x hx); exact ⟨by omega, this.2⟩) (fun x hx => by rw [(h.at' x (chosen_sub _ _ x hx)).1]; exact hne.symm)]
  exact h.near
/-- The disk ahead of the writes. -/
theorem OrdI.start {p a1 : Nat} (keep : List Int) (hp : p < 16) (ha : a1 < 16) (hne : a1 ≠ p) :
    let D1 := (DS.new 16).write a1 [110, 101, 97, 114]
    let D2 := D1.write p [111, 108, 100]
    (DS.new 16).wrE a1 [110, 101, 97, 114] = 0 ∧ D1.wrE p [111, 108, 100] = 0 ∧ syE D2 = 0 ∧ OrdI p a1 keep 0 0 [111, 108, 100] D2.sync ∧ Few 16 1 D1 ∧ Few 16 2 D2 := by
  intro D1 D2
  have u0 : Up 0 (DS.new 16) := ⟨⟨rfl, Nat.le_refl _, Nat.le_refl _, Nat.le_refl _⟩, Coh.new 16, rfl, rfl⟩
  have u1 : Up 1 D1 := u0.write a1 [110, 101, 97, 114]
  have u2 : Up 2 D2 := u1.write p [111, 108, 100]
  have w1 := DS.write_free u0.down (by rw [u0.fuse]; decide) (i := a1) (by exact ha) (b := [110, 101, 97, 114]) (by decide)
  have w2 := DS.write_free u1.down (by rw [u1.fuse]; decide) (i := p) (by rw [u1.few.sz]; exact hp) (b := [111, 108, 100]) (by decide)
  obtain ⟨u3, s1, s2, s3⟩ := u2.sync
  have l1 : (put (List.replicate (16 * 64) 0) a1 (pad [110, 101, 97, 114])).length = 16 * 64 := put_length List.length_replicate ha (pad_length (by decide))
  have l2 : (put (put (List.replicate (16 * 64) 0) a1 (pad [110, 101, 97, 114])) p (pad [111, 108, 100])).length = 16 * 64 := put_length l1 hp (pad_length (by decide))
  have hN : D2.sync.N = put (put (List.replicate (16 * 64) 0) a1 (pad [110, 101, 97, 114])) p (pad [111, 108, 100]) := by
    have e : D2.sync.N = D2.N := by simp [DS.sync, u2.down]
    have e2 : D2 = D1.lay p (pad [111, 108, 100]) := w2.1
    have e1 : D1 = (DS.new 16).lay a1 (pad [110, 101, 97, 114]) := w1.1
    rw [e, e2, e1]
    rfl
  refine ⟨w1.2, w2.2, s1, ⟨u3, by rw [← s3, hN]; exact l2, by rw [s2]; rfl, Nat.le_refl _, by rw [s2]; simp, by decide, ?_, ?_⟩, u1.few, u2.few⟩
  · have hc : chosen [] keep = [] := by simp [chosen]
    rw [s2, hc, show lays D2.sync.K [] = D2.sync.K from rfl, ← s3, hN]
    exact sec_put_same l1 hp (pad_length (by decide))
  · rw [← s3, hN, sec_put_other l1 hp (pad_length (by decide)) hne]
    exact sec_put_same (n := 16) List.length_replicate ha (pad_length (by decide))

theorem made_zeros : madeCells #[Value.int .u8 0] 64 = (u8s (List.replicate 64 0)).toArray := by
  apply Array.toList_inj.1
  rw [toList_madeCells_one]
  simp [u8s]
theorem run_make64 (w : World) : (Instr.makeSlice 31 (.int .i64 64) (.int .i64 64)).run Try.prog w = .ok (.slice (some ⟨w.heap.size, 0, none⟩) 64 64) (w.alloc (.cells (u8s (List.replicate 64 0)).toArray 5)) := by
  obtain ⟨i, hi, hz, hs, hb⟩ := info_parts Try.infoU8
  have := run_make (P := Try.prog) w 31 5 i (.int .u8 0) Try.underlying31 hi hz .i64 .i64 64 64 (by omega) (Int.le_refl _) (by rw [hb]; omega) (by omega)
  rw [this]
  simp only [hs, Value.cells, Nat.mul_one]
  exact congrArg (fun c => Result.ok (Value.slice (some ⟨w.heap.size, 0, none⟩) 64 64) (w.alloc (.cells c 5))) made_zeros

/-- copy of a text's bytes into the block that was made last. -/
theorem wpList_copy_text {ops : Array Oper} {rest : List Oper} {o : Oper} {a : Act} {w : World} {Q : Exit → Act → World → Prop} (hgd : o.guard = none) (d s : Operand) (ho : o.op = .call { callee := .builtin .copy, args := #[d, s], argTypes := #[31, 9] })
    (cur : List Value) (t : TypeId) (dLen dCap : Nat) (hd : a.eval d = .slice (some ⟨w.heap.size, 0, none⟩) dLen dCap) (b : List UInt8) (hs : a.eval s = .string ⟨b.toArray⟩) (hb : b.length ≤ dLen) (hfit : b.length ≤ cur.length)
    (h : wpList Try.prog ops Q rest (a.put o.dst (goInt b.length)) (w.alloc (.cells (u8s b ++ cur.drop b.length).toArray t))) : wpList Try.prog ops Q (o :: rest) a (w.alloc (.cells cur.toArray t)) := by
  refine wpList_plain hgd fun K hK => ?_
  have hsz : (⟨b.toArray⟩ : ByteArray).size = b.length := by simp [ByteArray.size]
  have hrun := Lib.run_copy_row_string (P := Try.prog) (w.alloc (.cells cur.toArray t)) 31 9 o.type 5 w.heap.size 0 dLen dCap ⟨b.toArray⟩ cur.toArray t Try.underlying31 Try.sizeU8 (heap_alloc_new w _) (by rw [hsz]; exact hb) (by rw [hsz]; simpa using hfit)
  rw [World.setRow_alloc_new, hsz] at hrun
  have e : (List.take 0 cur.toArray.toList ++ Lib.byteCells b ++ List.drop (0 + b.length) cur.toArray.toList).toArray = (u8s b ++ cur.drop b.length).toArray := by simp [u8s, Lib.byteCells]
  have hrun' : (Builtin.copy_ #[31, 9] o.type #[.slice (some ⟨w.heap.size, 0, none⟩) dLen dCap, .string ⟨b.toArray⟩]).run Try.prog (w.alloc (.cells cur.toArray t)) = .ok (goInt b.length) (w.alloc (.cells (u8s b ++ cur.drop b.length).toArray t)) := by
    rw [hrun]
    exact congrArg (fun c => Result.ok (goInt b.length) (w.alloc (.cells c t))) e
  unfold Oper.wp
  simp [execOp, ho, resolve, invoke, builtin, hd, hs, hrun', Result.andThen]
  exact hK _ _ h

theorem pad_cells (b : List UInt8) : u8s b ++ (u8s (List.replicate 64 0)).drop b.length = u8s (pad b) := by
  rw [← u8s_drop, ← u8s_append, List.drop_replicate]
  rfl

set_option maxRecDepth 100000 in
set_option maxHeartbeats 4000000 in
theorem order_walk (z : Int) (ao : Option Addr) (c : Nat) (ls : List (List UInt8)) (ko : Option Addr) (kc : Nat) (keep : List Int) (w : World) (hl : SlR w ao ls)
    (hk : SlI w ko keep) (hkr : ∀ z ∈ keep, -9223372036854775808 ≤ z ∧ z ≤ 9223372036854775807) (hkl : keep.length * 8 ≤ 140737488351232) (hkc : ko = none → kc = 0) :
    Calls Try.prog 6 #[.int .i64 z, .slice ao ls.length c, .slice ko keep.length kc] w fun e w' => e = .returned (.bool true) ∧ Quiet w w' := by
  obtain ⟨h16, hm⟩ := modN_spec 16 (by decide) (by decide) z
  obtain ⟨n, hn⟩ : ∃ n, n = modN 16 z := ⟨_, rfl⟩
  rw [← hn] at h16 hm
  have hm : (wrap64 (z.tmod 16 + 16)).tmod 16 = (n : Int) := hm
  obtain ⟨a1, ha1⟩ : ∃ a1, a1 = (n + 1) % 16 := ⟨_, rfl⟩
  have HM1 : Hid (((n : Int) + 1) % 16 = (a1 : Int)) := Lib.hid (by rw [ha1]; omega)
  have hal : a1 < 16 := by omega
  have hne : a1 ≠ n := by omega
  obtain ⟨s1, s2, s3, s4, s5, s6⟩ := OrdI.start keep h16 hal hne
  have S1 := Lib.hid s1
  have S2 := Lib.hid s2
  have S3 := Lib.hid s3
  have S4 := Lib.hid s4
  have S5 := Lib.hid s5
  have S6 := Lib.hid s6
  have HL := Lib.hid hl
  have HK := Lib.hid hk
  have HKR := Lib.hid hkr
  have HKC := Lib.hid hkc
  have HM := Lib.hid hm
  have HNE := Lib.hid hne
  have hkl : keep.length * 8 ≤ 140737488355328 := by omega
  clear hl hk hkr hkc hm hn ha1 hne s1 s2 s3 s4 s5 s6
  have kcv := fun (w : World) (C : Array Value) (n c : Nat) => Lib.run_convert_bytes_const (P := Try.prog) w 31 5 C n c Try.underlying31 Try.underlying5
  go_enter Try.func6, Try.ntmps6
  go_wp2_with fail
  refine (awake_any w).mono ?_
  rintro e w0 ⟨rfl, hq⟩
  have H0 := Lib.hid ((Own.start w).quiet hq); clear hq
  go_wp2_with fail
  simp only [HM.out]
  refine (own_new H0.out 16 (by decide) (by decide)).mono ?_
  rintro e w1 ⟨p, rfl, h1⟩
  have H1 := Lib.hid h1; clear h1 H0
  go_wp2_with fail
  simp only [HM1.out]
  have H1a : Hid (Own w _ (Sep (DiskR p (DS.new 16)) (Sep (Row w1.heap.size 5 [110, 101, 97, 114] (4, 5)) Emp))) := Lib.hid (H1.out.lend (.cells #[.int .u8 110, .int .u8 101, .int .u8 97, .int .u8 114] 5 (4, 5)))
  refine (own_write H1a.out a1 (.slice (some ⟨w1.heap.size, 0, none⟩) 4 4) [110, 101, 97, 114] (fun F B hJ hd _ _ => Row.apart hJ hd rfl) (by decide) (by decide)).mono ?_
  rintro e w2 ⟨rfl, h2⟩
  rw [S1.out]
  have H2 : Hid (Own w w2 (Sep (DiskR p ((DS.new 16).write a1 [110, 101, 97, 114])) Emp)) := Lib.hid h2.drop2
  clear h2 H1 H1a
  go_wp2_with fail
  have H2a : Hid (Own w _ (Sep (DiskR p ((DS.new 16).write a1 [110, 101, 97, 114])) (Sep (Row w2.heap.size 5 [111, 108, 100] (3, 4)) Emp))) := Lib.hid (H2.out.lend (.cells #[.int .u8 111, .int .u8 108, .int .u8 100] 5 (3, 4)))
  refine (own_write H2a.out n (.slice (some ⟨w2.heap.size, 0, none⟩) 3 3) [111, 108, 100] (fun F B hJ hd _ _ => Row.apart hJ hd rfl) (by have := S5.out.W; omega) (by have := S5.out.wr; omega)).mono ?_
  rintro e w3 ⟨rfl, h3⟩
  rw [S2.out]
  have H3 : Hid (Own w w3 (Sep (DiskR p (((DS.new 16).write a1 [110, 101, 97, 114]).write n [111, 108, 100])) Emp)) := Lib.hid h3.drop2
  clear h3 H2 H2a
  go_wp2_with fail
  refine (own_sync H3.out (by have := S6.out.W; omega) (by have := S6.out.sy; omega)).mono ?_
  rintro e w4 ⟨rfl, h4⟩
  rw [S3.out]
  have H4 := Lib.hid h4
  clear h4 H3
  obtain ⟨E, hE⟩ : ∃ E, E = (((DS.new 16).write a1 [110, 101, 97, 114]).write n [111, 108, 100]).sync := ⟨_, rfl⟩
  rw [← hE] at H4
  have HI0 : Hid (OrdI n a1 keep 0 0 [111, 108, 100] E) := Lib.hid (by rw [hE]; exact S4.out)
  clear hE S1 S2 S3 S4 S5 S6
  go_upto_block 0 with fail
  go_cut [9] (fun s9 wx => ∃ (k m : Nat) (wb : List UInt8) (D : DS), k ≤ 50 ∧ s9 = .string ⟨wb.toArray⟩ ∧ Hid (OrdI n a1 keep k m wb D) ∧ Hid (Own w wx (Sep (DiskR p D) Emp)))
  case first =>
    go_wp2_with fail
    go_loopw [9, 10, 11] (fun s9 s10 s11 wr => ∃ (k m : Nat) (wb : List UInt8) (D : DS), k ≤ ls.length ∧ k ≤ 50 ∧ s9 = .string ⟨wb.toArray⟩ ∧ s10 = .int .i64 m ∧ s11 = .int .i64 k ∧ Hid (OrdI n a1 keep k m wb D) ∧ Hid (Own w wr (Sep (DiskR p D) Emp))) (fun _ _ i _ => ls.length - (intOf i).toNat)
    case atStart => exact ⟨0, 0, _, _, Nat.zero_le _, by omega, rfl, rfl, rfl, HI0, H4⟩
    case round =>
      obtain ⟨k, m, wb, D, hk, hk1, rfl, rfl, rfl, HF, HQ⟩ := hrel
      clear HI0 H4
      by_cases hlt : k < ls.length
      · by_cases h50 : k < 50
        · have hltI : (k : Int) < (ls.length : Int) := by omega
          have h50I : (k : Int) < 50 := by omega
          have hk0 : (0 : Int) ≤ (k : Int) := by omega
          obtain ⟨g, off, v, rfl, hc, hs⟩ := HL.out k hlt
          obtain ⟨b, hb⟩ : ∃ b, b = ls.getD k [] := ⟨_, rfl⟩
          rw [← hb] at hs
          clear hb
          obtain ⟨vo, vc, rfl⟩ := hs.shape
          have HC := Lib.hid hc
          have HS := Lib.hid hs
          have d1 : wr.cell? ⟨g, off + k, none⟩ = some (.slice vo b.length vc) := HQ.out.only.cellq hc
          clear hc hs
          by_cases hb : b.length ≤ 64
          · have hbI : ¬ (64 : Int) < (b.length : Int) := by omega
            have hbJ : decide ((64 : Int) < (b.length : Int)) = false := decide_eq_false hbI
            obtain ⟨o1, o2⟩ := HF.out.write h16 hb
            have hm := HF.out.nk
            have hcall := own_write HQ.out n (.slice vo b.length vc) b (fun F B _ _ h0 _ => HS.out.old HQ.out.only h0) (by have := HF.out.up.few.W; omega) (by have := HF.out.up.few.wr; omega)
            rw [o2] at hcall
            have HCALL := Lib.hid hcall
            obtain ⟨D', hD'⟩ : ∃ D', D' = D.write n b := ⟨_, rfl⟩
            rw [← hD'] at o1 HCALL
            have O1 := Lib.hid o1
            clear o1 o2 hcall hD'
            go_wp2_with fail
            refine HCALL.out.mono ?_
            rintro e w5 ⟨rfl, h5⟩
            have H5 := Lib.hid h5
            have d2 : w5.cell? ⟨g, off + k, none⟩ = some (.slice vo b.length vc) := H5.out.only.cellq HC.out
            have hcv := run_strC (HS.out.keep H5.out.only)
            clear h5 HCALL HQ d1
            by_cases hmk : m < keep.length
            · have hmI : (m : Int) < (keep.length : Int) := by omega
              have hm0 : (0 : Int) ≤ (m : Int) := by omega
              obtain ⟨kg, koff, rfl, hck⟩ := (HK.out.keep H5.out.only) m hmk
              obtain ⟨y, hy⟩ : ∃ y, y = keep.getD m 0 := ⟨_, rfl⟩
              rw [← hy] at hck
              have hkept : keptAt keep m = oddZ y := by rw [keptAt, decide_eq_true hmk, ← hy]; rfl
              cases hod : oddZ y with
              | true =>
                rw [hkept, hod, if_pos rfl] at O1
                have hodI : (y.tmod 2 != 0) = true := hod
                clear hy hkept hod
                go_wp2_with fail
                go_roundw
                case rel => exact ⟨k + 1, m + 1, b, D', by omega, by omega, rfl, by go_num, by go_num, O1, H5⟩
                case measure => simp [intOf]; omega
              | false =>
                rw [hkept, hod, if_neg (by decide)] at O1
                have hodI : (y.tmod 2 != 0) = false := hod
                clear hy hkept hod
                go_wp2_with fail
                go_roundw
                case rel => exact ⟨k + 1, m + 1, wb, D', by omega, by omega, rfl, by go_num, by go_num, O1, H5⟩
                case measure => simp [intOf]; omega
            · have hmI : ¬ (m : Int) < (keep.length : Int) := by omega
              have hmJ : decide ((m : Int) < (keep.length : Int)) = false := decide_eq_false hmI
              have hkept : keptAt keep m = false := by rw [keptAt, decide_eq_false hmk]; rfl
              rw [hkept, if_neg (by decide)] at O1
              clear hkept
              go_wp2_with fail
              go_roundw
              case rel => exact ⟨k + 1, m + 1, wb, D', by omega, by omega, rfl, by go_num, by go_num, O1, H5⟩
              case measure => simp [intOf]; omega
          · have hbI : (64 : Int) < (b.length : Int) := by omega
            have O1 := Lib.hid HF.out.skip
            go_wp2_with fail
            go_roundw
            case rel => exact ⟨k + 1, m, wb, D, by omega, by omega, rfl, rfl, by go_num, O1, HQ⟩
            case measure => simp [intOf]; omega
        · have hltI : (k : Int) < (ls.length : Int) := by omega
          have h50I : ¬ (k : Int) < 50 := by omega
          go_wp2_with fail
          go_meet
          exact ⟨k, m, wb, D, hk1, rfl, HF, HQ⟩
      · have hltI : ¬ (k : Int) < (ls.length : Int) := by omega
        go_wp2_with fail
        go_meet
        exact ⟨k, m, wb, D, hk1, rfl, HF, HQ⟩
  case rest =>
    clear HI0 H4
    obtain ⟨k, m, wb, D, hk1, rfl, HF, HQ⟩ := hcut
    go_wp2_with (at_builtin; refine wp_freshI _ ko kc keep (HK.out.keep HQ.out.only) HKC.out hkl rfl (.tmp 100) (.tmp 101) rfl rfl rfl ?_; intro bo cap w5 HF5)
    have HX : Hid (Own w w5 (Sep (DiskR p D) (Sep (IntR bo keep) Emp))) := Lib.hid (fresh_own HQ.out HF5.out).swap
    obtain ⟨gn, gk, vw, hDA⟩ := HX.out.disk
    have hcr := HF.out.crash hDA.ok h16 HNE.out
    have hlw := HF.out.lw
    refine (own_crash HX.out bo cap keep (fun F B hJ hd _ _ => IntR.apart hJ hd) HKR.out (by have := HF.out.up.few.W; omega)).mono ?_
    rintro e w6 ⟨rfl, h6⟩
    obtain ⟨C, hC⟩ : ∃ C, C = D.crash keep := ⟨_, rfl⟩
    rw [← hC] at h6 hcr
    have H6 : Hid (Own w w6 (Sep (DiskR p C) Emp)) := Lib.hid h6.drop2
    have HCR := Lib.hid hcr
    clear h6 HX HF5 HQ hC hcr hDA
    go_wp2_with fail
    refine (own_read H6.out n (by rw [HCR.out.2.2]; exact h16)).mono ?_
    rintro e w7 ⟨g1, rfl, h7⟩
    have H7 := Lib.hid h7.swap
    clear h7 H6
    go_wp2_with fail
    simp only [HM1.out]
    refine (own_read H7.out a1 (by rw [HCR.out.2.2]; exact hal)).mono ?_
    rintro e w8 ⟨g2, rfl, h8⟩
    have hb2 : SlC w8 (.slice (some ⟨g2, 0, none⟩) 5 64) [110, 101, 97, 114, 0] := by
      have := row_bytes (n := 5) (cap := 64) h8.fst.row (by rw [HCR.out.2.1, pad_length (by decide)]; decide)
      rw [HCR.out.2.1] at this
      exact this
    have hb1 : SlC w8 (.slice (some ⟨g1, 0, none⟩) 64 64) (pad wb) := by
      have := row_bytes' (n := 64) (cap := 64) h8.snd.snd.fst.row (by rw [HCR.out.1, pad_length hlw])
      rw [HCR.out.1] at this
      exact this
    obtain ⟨C0, hC0⟩ : ∃ C0, C0 = u8s (List.replicate 64 0) := ⟨_, rfl⟩
    have hmk := run_make64
    rw [← hC0] at hmk
    have HC0 : Hid (u8s wb ++ C0.drop wb.length = u8s (pad wb)) := Lib.hid (by rw [hC0]; exact pad_cells wb)
    have HC1 : Hid (wb.length ≤ C0.length) := Lib.hid (by rw [hC0, u8s_length, List.length_replicate]; exact hlw)
    have HLW := Lib.hid hlw
    have H8 := Lib.hid h8.only
    have HB1 := Lib.hid hb1
    have HB2 := Lib.hid hb2
    clear hC0 h8 H7 hb1 hb2 hlw
    go_upto_region 23 with (refine wpList_copy_text rfl (.tmp 119) (.tmp 120) rfl C0 5 64 64 rfl wb rfl HLW.out HC1.out ?_)
    rw [HC0.out]
    (try simp only [Act.put, List.setIfInBounds_toArray, List.set_cons_succ, List.set_cons_zero])
    have hO := (Only.refl (fun _ => False) w8).alloc (.cells (u8s (pad wb)).toArray 5)
    have hcv1 := run_strC (HB1.out.keep hO)
    have hcv2 := run_strC (HB2.out.keep hO)
    have hcv3 := run_strC (row_bytes' (n := 64) (cap := 64) (heap_alloc_new w8 (.cells (u8s (pad wb)).toArray 5)) (pad_length HLW.out).symm)
    have H9 := Lib.hid (H8.out.trans hO (fun _ _ h => h))
    generalize (pad wb).toArray = bs at hcv1 hcv3
    generalize w8.alloc (.cells (u8s (pad wb)).toArray 5) = w9 at *
    clear hO
    go_wp2_with fail
    go_ret
    exact ⟨rfl, H9.out⟩

end Go.Proofs.Ytioabebbddlokaa
