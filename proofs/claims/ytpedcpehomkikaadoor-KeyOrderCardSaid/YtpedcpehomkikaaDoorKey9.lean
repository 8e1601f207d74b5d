/-
  Package key's spans: After, In, Under, Meet.
-/
import Derived.Test.YtpedcpehomkikaaDoorShelf2
import Derived.Test.YtpedcpehomkikaaDoorKeySt3
import Derived.Test.YtpedcpehomkikaaDoorVal13
namespace Go.Proofs.YtpedcpehomkikaaDoor
open Go Go.RowKit
set_option linter.unusedVariables false
set_option linter.unusedSimpArgs false
set_option maxRecDepth 100000

theorem clone_any (s : ByteArray) (w : World) (hlim : s.size ≤ 281474976710656) : Calls Tryd.prog 35 #[.string s] w fun e w' => e = .returned (.string s) ∧ Below w.heap.size w w' := by
  have HL := Lib.hid hlim
  clear hlim
  go_enter Tryd.func35, Tryd.ntmps35
  go_wp2_with fail
  refine (Tryd.stringslite_Clone s w HL.out).mono ?_
  rintro e w1 ⟨rfl, hb⟩
  have HB := Lib.hid hb
  clear hb
  go_wp2
  go_ret
  exact ⟨rfl, HB.out⟩

/-- A span. -/
abbrev spv (lo hi : ByteArray) (op : Bool) : Value := .agg #[.string lo, .string hi, .bool op]
theorem inL_by (lo hi k : List UInt8) (op b1 b2 : Bool) (h1 : Op.bytesLess k lo = b1) (h2 : Op.bytesLess k hi = b2) : inL lo hi op k = (!b1 && (op || b2)) := by
  rw [less_bcmp] at h1 h2
  unfold inL
  have r1 := bcmp_range k lo
  have r2 := bcmp_range k hi
  have e1 : decide (0 ≤ bcmp k lo) = !b1 := by
    rw [← h1]
    rcases r1 with h | h | h <;> rw [h] <;> rfl
  have e2 : decide (bcmp k hi < 0) = b2 := by
    rw [← h2]
    rcases r2 with h | h | h <;> rw [h] <;> rfl
  rw [e1, e2]
set_option maxHeartbeats 1000000 in
theorem in_any (lo hi k : ByteArray) (op : Bool) (w : World) : Calls Tryd.prog 16 #[spv lo hi op, .string k] w fun e w' => e = .returned (.bool (inL lo.toList hi.toList op k.toList)) ∧ Below w.heap.size w w' := by
  obtain ⟨b1, h1⟩ : ∃ b, Op.bytesLess k.toList lo.toList = b := ⟨_, rfl⟩
  obtain ⟨b2, h2⟩ : ∃ b, Op.bytesLess k.toList hi.toList = b := ⟨_, rfl⟩
  rw [inL_by _ _ _ op b1 b2 h1 h2]
  have HB := Lib.hid ((Below.refl w.heap.size w).alloc (Nat.le_refl _) (.cells #[.string lo, .string hi, .bool op] 39))
  cases b1 <;> cases b2 <;> cases op
  all_goals
    go_enter Tryd.func16, Tryd.ntmps16
    go_wp2
    go_ret
    exact ⟨rfl, HB.out⟩
theorem kconv1 (c : UInt8) (z : Int) (hz : (c.toNat : Int) = z) (W : World) (p : Nat) (h : W.cell? ⟨p, 0, none⟩ = some (.int .u8 z)) :
    (convert 50 9 (.slice (some ⟨p, 0, none⟩) 1 1)).run Tryd.prog W = .ok (.string ⟨#[c]⟩) W := by
  have h := run_convert_bytes_back (P := Tryd.prog) W 50 9 5 ⟨p, 0, none⟩ 1 [c] Tryd.underlying50 Tryd.underlying5 Tryd.underlying9 (fun j hj => by
    obtain rfl : j = 0 := by simp at hj; omega
    rw [Lib.add_plain]
    show W.cell? ⟨p, 0, none⟩ = some (.int .u8 (c.toNat : Int))
    rw [hz]
    exact h)
  exact h
theorem kconv1_new (c : UInt8) (z : Int) (hz : (c.toNat : Int) = z) (W : World) :
    (convert 50 9 (.slice (some ⟨W.heap.size, 0, none⟩) 1 1)).run Tryd.prog (W.alloc (.cells #[.int .u8 z] 5)) = .ok (.string ⟨#[c]⟩) (W.alloc (.cells #[.int .u8 z] 5)) := kconv1 c z hz _ _ (by go_simp)
theorem kconv1_drew (c : UInt8) (z : Int) (hz : (c.toNat : Int) = z) (W : World) :
    (convert 50 9 (.slice (some ⟨W.heap.size, 0, none⟩) 1 1)).run Tryd.prog (W.alloc (.cells #[.int .u8 z] 5)).drew = .ok (.string ⟨#[c]⟩) (W.alloc (.cells #[.int .u8 z] 5)).drew := kconv1 c z hz _ _ (by go_simp)
theorem opL_full (n : Nat) : opL (List.replicate n 255) = true ∧ hiL (List.replicate n 255) = [] := by
  unfold opL hiL
  rw [afterL_full]
  exact ⟨rfl, rfl⟩
theorem opL_at (b : UInt8) (hb : b ≠ 255) (n : Nat) (p : List UInt8) : opL (p ++ b :: List.replicate n 255) = false ∧ hiL (p ++ b :: List.replicate n 255) = p ++ [UInt8.ofNat (b.toNat + 1)] := by
  unfold opL hiL
  rw [afterL_at b hb n p]
  exact ⟨rfl, rfl⟩
theorem ba_take (s : ByteArray) (k : Nat) : (s.extract 0 k).toList = s.toList.take k := by
  rw [ByteArray.toList_eq, ByteArray.toList_eq, Lib.extract_data]
  simp

set_option maxHeartbeats 2000000 in
theorem after_any (s : ByteArray) (w : World) (hs : s.size ≤ 281474976710656) :
    Calls Tryd.prog 19 #[.string s] w fun e w' => ∃ t : ByteArray, e = .returned (.tuple #[.string t, .bool (!(opL s.toList))]) ∧ t.toList = hiL s.toList ∧ Below w.heap.size w w' := by
  obtain ⟨n, hn⟩ : ∃ n, n = s.size := ⟨_, rfl⟩
  have HN := Lib.hid hn
  have hn47 : n ≤ 281474976710656 := by omega
  obtain ⟨OP, hop⟩ : ∃ x, (!(opL s.toList)) = x := ⟨_, rfl⟩
  obtain ⟨HI, hhi⟩ : ∃ x, hiL s.toList = x := ⟨_, rfl⟩
  rw [hop, hhi]
  have HOP := Lib.hid hop
  have HHI := Lib.hid hhi
  clear hn hop hhi
  go_enter Tryd.func19, Tryd.ntmps19
  go_wp2_with fail
  rw [← HN.out]
  go_loop [4] (fun i => ∃ k : Nat, k ≤ n ∧ i = .int .i64 ((k : Int) - 1) ∧ Hid (s.toList = s.toList.take k ++ List.replicate (n - k) 255)) (fun i => (intOf i + 1).toNat)
  case atStart => exact ⟨n, Nat.le_refl _, rfl, Lib.hid (by rw [List.take_of_length_le (by rw [ba_size, HN.out]; exact Nat.le_refl _)]; simp)⟩
  case round =>
    obtain ⟨k, hk, rfl, HL⟩ := hrel
    match k, hk, HL with
    | 0, hk, HL =>
      have HE : Hid (false = OP ∧ [] = HI) := Lib.hid (by
        have e := HL.out
        rw [List.take_zero, List.nil_append, Nat.sub_zero] at e
        have := opL_full n
        rw [← e] at this
        rw [← HOP.out, ← HHI.out, this.1, this.2]
        exact ⟨rfl, rfl⟩)
      go_wp2_with fail
      go_ret2
      exact ⟨⟨#[]⟩, by rw [← HE.out.1]; rfl, by rw [ba_nil]; exact HE.out.2, Below.refl _ _⟩
    | m + 1, hk, HL =>
      have hms : m < s.size := by rw [← HN.out]; exact hk
      obtain ⟨b, hb⟩ : ∃ b, s[m] = b := ⟨_, rfl⟩
      have HTS := Lib.hid (take_step s m hms)
      have HMS := Lib.hid hms
      rw [hb] at HTS
      have e1 : (((m + 1 : Nat) : Int) - 1) = (m : Int) := by omega
      have hmn : (m : Int) < (n : Int) := by omega
      have hm0 : (0 : Int) ≤ (m : Int) := by omega
      have hmI : (m : Int) < (s.size : Int) := by omega
      rw [e1]
      by_cases h255 : b = 255
      · have hz : (b.toNat : Int) = 255 := by rw [h255]; rfl
        have HB := Lib.hid h255
        clear h255
        go_wp2_with fail
        go_round
        case rel =>
          refine ⟨m, by omega, by go_num, Lib.hid ?_⟩
          have e := HL.out
          rw [HTS.out, HB.out, List.append_assoc] at e
          have e2 : [(255 : UInt8)] ++ List.replicate (n - (m + 1)) 255 = List.replicate (n - m) 255 := by
            rw [show n - m = n - (m + 1) + 1 by omega, List.replicate_succ]
            rfl
          rw [e2] at e
          exact e
        case measure => first | (simp [intOf]; done) | (simp [intOf]; omega)
      · have hne : b.toNat ≠ 255 := fun e => h255 (UInt8.toNat_inj.1 e)
        have hz : ((b.toNat : Int) == 255) = false := by simp; omega
        have hsb := succ_byte h255
        have hcv := kconv1_new (UInt8.ofNat (b.toNat + 1)) ((b.toNat : Int) + 1) (by rw [hsb]; rfl) w
        have hcv2 := kconv1_drew (UInt8.ofNat (b.toNat + 1)) ((b.toNat : Int) + 1) (by rw [hsb]; rfl) w
        have hwr : ((b.toNat : Int) + 1) % 256 = (b.toNat : Int) + 1 := by have := b.toNat_lt; omega
        have HE : Hid (true = OP ∧ s.toList.take m ++ [UInt8.ofNat (b.toNat + 1)] = HI) := Lib.hid (by
          have e := HL.out
          rw [HTS.out, List.append_assoc] at e
          have := opL_at b h255 (n - (m + 1)) (s.toList.take m)
          rw [show s.toList.take m ++ b :: List.replicate (n - (m + 1)) 255 = s.toList by exact e.symm] at this
          rw [← HOP.out, ← HHI.out, this.1, this.2]
          exact ⟨rfl, rfl⟩)
        have HBW := Lib.hid (fun o => (Below.refl w.heap.size w).alloc (Nat.le_refl _) o)
        obtain ⟨x, hx⟩ : ∃ x, s.extract 0 m = x := ⟨_, rfl⟩
        have HX : Hid (x.toList = s.toList.take m) := Lib.hid (by rw [← hx, ba_take])
        have hcat : ¬ 9223372036854775807 < x.size + 1 := by
          rw [← ba_size, HX.out, List.length_take]
          omega
        obtain ⟨y, hy⟩ : ∃ y, (⟨#[UInt8.ofNat (b.toNat + 1)]⟩ : ByteArray) = y := ⟨_, rfl⟩
        have HY : Hid (y.toList = [UInt8.ofNat (b.toNat + 1)]) := Lib.hid (by rw [← hy]; exact ByteArray.toList_mk [_])
        have hys : y.size = 1 := by rw [← hy]; rfl
        rw [hy] at hcv hcv2
        have HRS : Hid ((x ++ y).toList = HI) := Lib.hid (by rw [ba_append, HX.out, HY.out, HE.out.2])
        have hw8 : IntKind.u8.wrap ((b.toNat : Int) + 1) = (b.toNat : Int) + 1 := by rw [IntKind.wrap_u8']; exact hwr
        have hle : m ≤ s.size := by have := HMS.out; omega
        clear h255 hne hsb hy
        go_upto_region 6 with fail
        go_region_law (fail)
        all_goals
          go_wp2
          go_ret2
          exact ⟨x ++ y, by rw [← HE.out.1]; rfl, HRS.out, (HBW.out _).drew⟩

theorem sp_cells {w w1 : World} {t : TypeId} (hb : Below (w.alloc (.cells #[.string ⟨#[]⟩, .string ⟨#[]⟩, .bool false] t)).heap.size (w.alloc (.cells #[.string ⟨#[]⟩, .string ⟨#[]⟩, .bool false] t)) w1) :
    w1.heap[w.heap.size]? = some (.cells #[.string ⟨#[]⟩, .string ⟨#[]⟩, .bool false] t (0, 0)) := by
  rw [hb.block _ (by simp)]
  exact heap_alloc_new w _
set_option maxHeartbeats 1000000 in
theorem under_any (s : ByteArray) (w : World) (hs : s.size ≤ 281474976710656) :
    Calls Tryd.prog 17 #[.string s] w fun e w' => ∃ t : ByteArray, e = .returned (spv s t (opL s.toList)) ∧ t.toList = hiL s.toList ∧ Below w.heap.size w w' := by
  have HC := Lib.hid (fun W => after_any s W hs)
  have HL := Lib.hid hs
  have HB := Lib.hid (fun o => (Below.refl w.heap.size w).alloc (Nat.le_refl _) o)
  obtain ⟨O, hO⟩ : ∃ x, opL s.toList = x := ⟨_, rfl⟩
  rw [hO] at HC ⊢
  clear hs hO
  go_enter Tryd.func17, Tryd.ntmps17
  go_wp2_with fail
  refine (HC.out _).mono ?_
  rintro e w1 ⟨t, rfl, ht, hb⟩
  have HT := Lib.hid ht
  have hc := sp_cells hb
  have H1 := Lib.hid ((HB.out _).trans (hb.mono (by simp)))
  obtain ⟨c0, c1, c2, f0, f1, f2⟩ : (w1.cell? ⟨w.heap.size, 0, none⟩ = some (.string ⟨#[]⟩) ∧ w1.cell? ⟨w.heap.size, 1, none⟩ = some (.string ⟨#[]⟩) ∧ w1.cell? ⟨w.heap.size, 2, none⟩ = some (.bool false) ∧ w1.frozen? ⟨w.heap.size, 0, none⟩ = false ∧ w1.frozen? ⟨w.heap.size, 1, none⟩ = false ∧ w1.frozen? ⟨w.heap.size, 2, none⟩ = false) := by simp [World.cell?, World.frozen?, hc]
  have HC2 := Lib.hid (clone_any s w1 (by have := HL.out; omega))
  have HCE := Lib.hid hc
  clear ht hb hc c0 c1 c2 f0 f1 f2
  go_wp2_with fail
  refine HC2.out.mono ?_
  rintro e w2 ⟨rfl, hb2⟩
  have hc : w2.heap[w.heap.size]? = some (.cells #[.string ⟨#[]⟩, .string ⟨#[]⟩, .bool false] 39 (0, 0)) := (hb2.block _ (lt_of_some HCE.out)).trans HCE.out
  obtain ⟨c0, c1, c2, f0, f1, f2⟩ : (w2.cell? ⟨w.heap.size, 0, none⟩ = some (.string ⟨#[]⟩) ∧ w2.cell? ⟨w.heap.size, 1, none⟩ = some (.string ⟨#[]⟩) ∧ w2.cell? ⟨w.heap.size, 2, none⟩ = some (.bool false) ∧ w2.frozen? ⟨w.heap.size, 0, none⟩ = false ∧ w2.frozen? ⟨w.heap.size, 1, none⟩ = false ∧ w2.frozen? ⟨w.heap.size, 2, none⟩ = false) := by simp [World.cell?, World.frozen?, hc]
  have H2 := Lib.hid (below_set3 (H1.out.trans (hb2.mono H1.out.size)))
  clear hb2 hc
  cases O
  · go_wp2
    refine bodyPost_ret (v := spv s t false) (by simp [results, Tryd.results17, go_sem, c0, c1, c2]) rfl ?_
    exact ⟨t, rfl, HT.out, H2.out _ _ _⟩
  · go_wp2
    refine bodyPost_ret (v := spv s t true) (by simp [results, Tryd.results17, go_sem, c0, c1, c2]) rfl ?_
    exact ⟨t, rfl, HT.out, H2.out _ _ _⟩

theorem run_max_str (ts : Array TypeId) (t : TypeId) (x y : ByteArray) (b : Bool) (h : Op.bytesLess x.toList y.toList = b) (W : World) : (Builtin.max_ ts t #[.string x, .string y]).run Tryd.prog W = .ok (.string (if b = true then y else x)) W := by
  cases b <;> simp [Builtin.max_, Builtin.max2, Op.stringOp, asBool, h]
theorem sp_two (w : World) (la ha lb hb : ByteArray) (oa ob : Bool) (t : TypeId) :
    ((w.alloc (.cells #[.string la, .string ha, .bool oa] t)).alloc (.cells #[.string lb, .string hb, .bool ob] t)).heap[w.heap.size]? = some (.cells #[.string la, .string ha, .bool oa] t (0, 0)) ∧
    ((w.alloc (.cells #[.string la, .string ha, .bool oa] t)).alloc (.cells #[.string lb, .string hb, .bool ob] t)).heap[w.heap.size + 1]? = some (.cells #[.string lb, .string hb, .bool ob] t (0, 0)) := by
  constructor
  · rw [Below.heap_alloc _ _ _ (by simp)]
    exact heap_alloc_new w _
  · have := heap_alloc_new (w.alloc (.cells #[.string la, .string ha, .bool oa] t)) (.cells #[.string lb, .string hb, .bool ob] t)
    simpa using this
theorem sp_read {w : World} {p : Nat} {lo hi : ByteArray} {op : Bool} {t : TypeId} (hc : w.heap[p]? = some (.cells #[.string lo, .string hi, .bool op] t (0, 0))) :
    w.cell? ⟨p, 0, none⟩ = some (.string lo) ∧ w.cell? ⟨p, 1, none⟩ = some (.string hi) ∧ w.cell? ⟨p, 2, none⟩ = some (.bool op) := by simp [World.cell?, hc]
theorem keep_heap {w w' : World} {p : Nat} {o : Obj} (h : w.heap[p]? = some o) (hb : Below w.heap.size w w') : w'.heap[p]? = some o := (hb.block p (lt_of_some h)).trans h

set_option maxHeartbeats 2000000 in
theorem meet_any (la ha lb hb : ByteArray) (oa ob : Bool) (w : World) : Calls Tryd.prog 23 #[spv la ha oa, spv lb hb ob] w fun e w' => e = .returned (.bool (meetL la.toList ha.toList oa lb.toList hb.toList ob)) ∧ Below w.heap.size w w' := by
  obtain ⟨b, hbl⟩ : ∃ b, Op.bytesLess la.toList lb.toList = b := ⟨_, rfl⟩
  obtain ⟨lo, hlo⟩ : ∃ lo, (if b = true then lb else la) = lo := ⟨_, rfl⟩
  have hmx := fun ts t W => run_max_str ts t la lb b hbl W
  rw [hlo] at hmx
  have hloL : lo.toList = loL la.toList lb.toList := by
    rw [less_bcmp] at hbl
    rw [← hlo, ← hbl]
    unfold loL
    rcases bcmp_range la.toList lb.toList with h | h | h <;> rw [h] <;> rfl
  obtain ⟨A, hA⟩ : ∃ A, inL la.toList ha.toList oa lo.toList = A := ⟨_, rfl⟩
  obtain ⟨B, hB⟩ : ∃ B, inL lb.toList hb.toList ob lo.toList = B := ⟨_, rfl⟩
  have HM : Hid (meetL la.toList ha.toList oa lb.toList hb.toList ob = (A && B)) := Lib.hid (by unfold meetL; rw [← hloL, hA, hB])
  have HCA := Lib.hid (fun W => in_any la ha lo oa W)
  have HCB := Lib.hid (fun W => in_any lb hb lo ob W)
  rw [hA] at HCA
  rw [hB] at HCB
  rw [HM.out]
  have HB := Lib.hid (below_2 w (.cells #[.string la, .string ha, .bool oa] 39) (.cells #[.string lb, .string hb, .bool ob] 39))
  have HC := Lib.hid (sp_two w la ha lb hb oa ob 39)
  clear hbl hlo hloL hA hB HM
  go_enter Tryd.func23, Tryd.ntmps23
  go_upto_region 2 with fail
  generalize (w.alloc (.cells #[.string la, .string ha, .bool oa] 39)).alloc (.cells #[.string lb, .string hb, .bool ob] 39) = w1 at *
  obtain ⟨a0, a1, a2⟩ := sp_read HC.out.1
  clear hmx
  go_wp2_with fail
  refine (HCA.out _).mono ?_
  rintro e w2 ⟨rfl, hb2⟩
  obtain ⟨b0, b1, b2⟩ := sp_read (keep_heap HC.out.2 hb2)
  have H2 := Lib.hid (HB.out.trans (hb2.mono HB.out.size))
  clear hb2 a0 a1 a2
  cases A with
  | false =>
    go_wp2
    go_ret
    exact ⟨rfl, H2.out⟩
  | true =>
    go_wp2_with fail
    refine (HCB.out _).mono ?_
    rintro e w3 ⟨rfl, hb3⟩
    have H3 := Lib.hid (H2.out.trans (hb3.mono H2.out.size))
    clear hb3 b0 b1 b2
    go_wp2
    go_ret
    exact ⟨rfl, H3.out⟩

end Go.Proofs.YtpedcpehomkikaaDoor
