/-
  Contract of the reference's New.
-/
import Derived.Test.YtidkeglldmbfeaaDiskRef7
namespace Go.Proofs.Ytidkeglldmbfeaa
open Go Go.RowKit
set_option linter.unusedVariables false
set_option linter.unusedSimpArgs false
set_option maxRecDepth 100000

set_option maxHeartbeats 400000 in
theorem ref_new_arg (n : Int) (w : World) (hn : n < 8 ∨ 4096 < n) :
    Calls Try.prog 11 #[.int .i64 n] w fun e w' => e = .returned (.tuple #[.pointer none, .int .i64 1]) ∧ w = w' := by
  rcases hn with h | h
  · go_enter Try.func11, Try.ntmps11
    go_wp2
    go_ret2
    exact ⟨rfl, rfl⟩
  · have h' : ¬ n < 8 := by omega
    go_enter Try.func11, Try.ntmps11
    go_wp2
    go_ret2
    exact ⟨rfl, rfl⟩

/-- A disk that is being made: k sectors of zeros in each picture. -/
structure RefN (w0 w : World) (r k l : Nat) (vk vs : Value) (kb sb : List Nat) : Prop where
  at' : w.heap[r]? = some (.cells #[vk, vs, .slice none 0 0, .int .i64 (-1), .bool false, .int .i64 0, .int .i64 0] 47 (0, 0))
  r : w0.heap.size ≤ r
  lk : kb.length = k
  ls : sb.length = l
  kept : w.ownsRow w0.heap.size 31 1 vk k (kb.map sl64)
  seen : w.ownsRow w0.heap.size 31 1 vs l (sb.map sl64)
  ne : ∀ g, vk.ownBlock = some g → vs.ownBlock ≠ some g
  hb : ∀ b, b ∈ kb ∨ b ∈ sb → w0.heap.size ≤ b ∧ HasB w b (List.replicate 64 0)
  only : Only (fun _ => False) w0 w

theorem RefN.growK {w0 w w1 : World} {r k l : Nat} {vk vs v1 : Value} {kb sb : List Nat} (h : RefN w0 w r k l vk vs kb sb) (hown : w1.ownsRow w0.heap.size 31 1 v1 (k + 1) ((kb ++ [w.heap.size]).map sl64))
    (ho : Only (fun q => vk.ownBlock = some q) w w1) (hp : HasB w1 w.heap.size (List.replicate 64 0)) (hv : ∀ g, v1.ownBlock = some g → vk.ownBlock = some g ∨ w.heap.size ≤ g) :
    RefN w0 (w1.setCell ⟨r, 0, none⟩ v1) r (k + 1) l v1 vs (kb ++ [w.heap.size]) sb := by
  have nk := own_type h.kept h.at' (by decide)
  have ns := own_type h.seen h.at' (by decide)
  have hrl := lt_of_some h.at'
  have hr : w1.heap[r]? = w.heap[r]? := ho.block r hrl nk
  have hk : ∀ k, k ≠ r → (w1.setCell ⟨r, 0, none⟩ v1).heap[k]? = w1.heap[k]? := fun k hk => Below.heap_setCell _ _ _ _ hk
  have hother : ∀ q, vs.ownBlock = some q → (w1.setCell ⟨r, 0, none⟩ v1).heap[q]? = w.heap[q]? := fun q e => (hk q (fun e2 => ns (e2 ▸ e))).trans (ho.block q (own_lt h.seen e) (fun e2 => h.ne q e2 e))
  have hmine : ∀ q, v1.ownBlock = some q → q ≠ r := fun q e e2 => by
    rcases hv q e with e3 | e3
    · exact nk (e2 ▸ e3)
    · omega
  have hbytes : ∀ b, w0.heap.size ≤ b ∧ HasB w b (List.replicate 64 0) → w0.heap.size ≤ b ∧ HasB (w1.setCell ⟨r, 0, none⟩ v1) b (List.replicate 64 0) := fun b hb => by
    refine ⟨hb.1, ⟨?_, hb.2.2⟩⟩
    have hbr : b ≠ r := fun e => by have a := hb.2.1; rw [e, h.at'] at a; simp at a
    exact ((hk b hbr).trans (ho.block b (lt_of_some hb.2.1) (own_type h.kept hb.2.1 (by decide)))).trans hb.2.1
  have hnew : w0.heap.size ≤ w.heap.size ∧ HasB (w1.setCell ⟨r, 0, none⟩ v1) w.heap.size (List.replicate 64 0) := ⟨h.only.size, ⟨(hk _ (by omega)).trans hp.1, hp.2⟩⟩
  have hge : ∀ q, vk.ownBlock = some q → w0.heap.size ≤ q := fun q e => (h.kept.lt q e).1
  refine ⟨by rw [heap_set (hr.trans h.at')]; rfl, h.r, by simp [h.lk], h.ls, own_keepAt hown (fun q e => hk q (hmine q e)), own_keepAt h.seen hother, fun g e e2 => by
    rcases hv g e with e3 | e3
    · exact h.ne g e3 e2
    · have := own_lt h.seen e2; omega, ?_, (h.only.trans ho (fun i hi e => by have := hge i e; omega)).setCell (fun h2 => by have := h.r; simp at h2; omega) _⟩
  rintro b (hb | hb)
  · rcases List.mem_append.1 hb with hb | hb
    · exact hbytes b (h.hb b (.inl hb))
    · rw [List.mem_singleton.1 hb]; exact hnew
  · exact hbytes b (h.hb b (.inr hb))
theorem RefN.growS {w0 w w1 : World} {r k l : Nat} {vk vs v1 : Value} {kb sb : List Nat} (h : RefN w0 w r k l vk vs kb sb) (hown : w1.ownsRow w0.heap.size 31 1 v1 (l + 1) ((sb ++ [w.heap.size]).map sl64))
    (ho : Only (fun q => vs.ownBlock = some q) w w1) (hp : HasB w1 w.heap.size (List.replicate 64 0)) (hv : ∀ g, v1.ownBlock = some g → vs.ownBlock = some g ∨ w.heap.size ≤ g) :
    RefN w0 (w1.setCell ⟨r, 1, none⟩ v1) r k (l + 1) vk v1 kb (sb ++ [w.heap.size]) := by
  have nk := own_type h.kept h.at' (by decide)
  have ns := own_type h.seen h.at' (by decide)
  have hrl := lt_of_some h.at'
  have hr : w1.heap[r]? = w.heap[r]? := ho.block r hrl ns
  have hk : ∀ k, k ≠ r → (w1.setCell ⟨r, 1, none⟩ v1).heap[k]? = w1.heap[k]? := fun k hk => Below.heap_setCell _ _ _ _ hk
  have hother : ∀ q, vk.ownBlock = some q → (w1.setCell ⟨r, 1, none⟩ v1).heap[q]? = w.heap[q]? := fun q e => (hk q (fun e2 => nk (e2 ▸ e))).trans (ho.block q (own_lt h.kept e) (fun e2 => h.ne q e e2))
  have hmine : ∀ q, v1.ownBlock = some q → q ≠ r := fun q e e2 => by
    rcases hv q e with e3 | e3
    · exact ns (e2 ▸ e3)
    · omega
  have hbytes : ∀ b, w0.heap.size ≤ b ∧ HasB w b (List.replicate 64 0) → w0.heap.size ≤ b ∧ HasB (w1.setCell ⟨r, 1, none⟩ v1) b (List.replicate 64 0) := fun b hb => by
    refine ⟨hb.1, ⟨?_, hb.2.2⟩⟩
    have hbr : b ≠ r := fun e => by have a := hb.2.1; rw [e, h.at'] at a; simp at a
    exact ((hk b hbr).trans (ho.block b (lt_of_some hb.2.1) (own_type h.seen hb.2.1 (by decide)))).trans hb.2.1
  have hnew : w0.heap.size ≤ w.heap.size ∧ HasB (w1.setCell ⟨r, 1, none⟩ v1) w.heap.size (List.replicate 64 0) := ⟨h.only.size, ⟨(hk _ (by omega)).trans hp.1, hp.2⟩⟩
  have hge : ∀ q, vs.ownBlock = some q → w0.heap.size ≤ q := fun q e => (h.seen.lt q e).1
  refine ⟨by rw [heap_set (hr.trans h.at')]; rfl, h.r, h.lk, by simp [h.ls], own_keepAt h.kept hother, own_keepAt hown (fun q e => hk q (hmine q e)), fun g e e2 => by
    rcases hv g e2 with e3 | e3
    · exact h.ne g e e3
    · have := own_lt h.kept e; omega, ?_, (h.only.trans ho (fun i hi e => by have := hge i e; omega)).setCell (fun h2 => by have := h.r; simp at h2; omega) _⟩
  rintro b (hb | hb)
  · exact hbytes b (h.hb b (.inl hb))
  · rcases List.mem_append.1 hb with hb | hb
    · exact hbytes b (h.hb b (.inr hb))
    · rw [List.mem_singleton.1 hb]; exact hnew
theorem sec_zeros {n j : Nat} (hj : j < n) : sec (List.replicate (n * 64) 0) j = List.replicate 64 0 := by
  simp only [sec, List.drop_replicate, List.take_replicate]
  congr 1
  omega
theorem RefN.made {w0 w : World} {r n : Nat} {vk vs : Value} {kb sb : List Nat} (h : RefN w0 w r n n vk vs kb sb) (h8 : 8 ≤ n) (hn : n ≤ 4096) :
    ∃ gk gs ck cs, RefAt w r gk gs ck cs (.slice none 0 0) (-1) kb sb [] (DS.new n) ∧ ∀ k, RFoot r gk gs (.slice none 0 0) kb sb [] k → w0.heap.size ≤ k := by
  have weak : ∀ {v : Value} {xs : List Value}, w.ownsRow w0.heap.size 31 1 v n xs → w.ownsRow 0 31 1 v n xs := fun {v xs} h => by
    refine ⟨h.1, ?_⟩
    rcases h.2 with h0 | ⟨g, cap, cur, e, _, rest⟩
    · exact .inl h0
    · exact .inr ⟨g, cap, cur, e, Nat.zero_le _, rest⟩
  have shape : ∀ {v : Value} {xs : List Value}, w.ownsRow w0.heap.size 31 1 v n xs → ∃ g c, v = .slice (some ⟨g, 0, none⟩) n c ∧ w0.heap.size ≤ g := fun {v xs} h => by
    rcases h.2 with ⟨_, h0⟩ | ⟨g, cap, cur, e, hb, _⟩
    · omega
    · exact ⟨g, cap, e, hb⟩
  obtain ⟨gk, ck, rfl, hgk⟩ := shape h.kept
  obtain ⟨gs, cs, rfl, hgs⟩ := shape h.seen
  refine ⟨gk, gs, ck, cs, ⟨⟨hn, by simp [DS.new], by simp [DS.new], fun x hx => (by cases hx), show (-9223372036854775808 : Int) ≤ -1 ∧ (-1 : Int) ≤ 9223372036854775807 from ⟨by decide, by decide⟩⟩,
    ⟨h.at', h.lk, h.ls, rfl, weak h.kept, weak h.seen, ⟨rfl, .inl ⟨rfl, rfl⟩⟩, fun e => h.ne gk rfl (by rw [e]; rfl)⟩, fun _ => rfl, fun j hj => ?_, fun j hj => ?_, fun j hj => (by cases hj)⟩, ?_⟩
  · have hj' : j < n := hj
    rw [show (DS.new n).K = List.replicate (n * 64) 0 from rfl, sec_zeros hj']
    exact (h.hb _ (.inl (mem_at (by rw [h.lk]; exact hj')))).2
  · have hj' : j < n := hj
    rw [show (DS.new n).N = List.replicate (n * 64) 0 from rfl, sec_zeros hj']
    exact (h.hb _ (.inr (mem_at (by rw [h.ls]; exact hj')))).2
  · rintro k (rfl | rfl | rfl | hk | hk | hk | hk)
    · exact h.r
    · exact hgk
    · exact hgs
    · cases hk
    · exact (h.hb k (.inl hk)).1
    · exact (h.hb k (.inr hk)).1
    · simp at hk
theorem Try.infoSl64 : (Try.prog.info? 31).map (fun i => (i.zero, i.size, i.bytes)) = some (some (.slice none 0 0), 1, 24) := by kernel_rfl
theorem Try.infoSl64' : (Try.prog.info? 31).map (fun i => (i.zero, i.size)) = some (some (.slice none 0 0), 1) := by kernel_rfl
/-- One more slice of zeros behind a row. -/
theorem step_ref {ops : Array Oper} {o : Oper} {a : Act} {K : Act → World → Prop} {Q : Exit → Act → World → Prop} {E : Prop} (w : World) (B : Nat) (C : Array Value) (hC : C = (u8s (List.replicate 64 0)).toArray) (r off : Nat) (u v : Value) (k : Nat) (L : List Nat)
    (hrow : w.ownsRow B 31 1 v k (L.map sl64)) (hB : B ≤ w.heap.size) (hk : k ≤ 4096) (hr : w.cell? ⟨r, off, none⟩ = some u) (hrf : w.frozen? ⟨r, off, none⟩ = false) (hne : v.ownBlock ≠ some r) (hgd : o.guard = none) (x y : Operand)
    (ho : o.op = .call { callee := .builtin .append, args := #[x, y], argTypes := #[44, 44] })
    (hx : a.eval x = v) (hy : a.eval y = .slice (some ⟨w.heap.size + 1, 0, none⟩) 1 1)
    (h : ∀ g cap w1, w1.cell? ⟨r, off, none⟩ = some u → w1.frozen? ⟨r, off, none⟩ = false → Hid (w1.ownsRow B 31 1 (.slice (some ⟨g, 0, none⟩) (k + 1) cap) (k + 1) ((L ++ [w.heap.size]).map sl64) ∧ Only (fun q => v.ownBlock = some q) w w1 ∧
      HasB w1 w.heap.size (List.replicate 64 0) ∧ (v.ownBlock = some g ∨ w.heap.size ≤ g)) → K (a.put o.dst (.slice (some ⟨g, 0, none⟩) (k + 1) cap)) w1) :
    if Region.wanted o (yielded ops a.tmps) = true then Oper.wp Try.prog o a (((w.alloc (.cells C 5)).alloc (.cells #[.slice (some ⟨w.heap.size, 0, none⟩) 64 64] 31)).drew) K Q else E := by
  obtain ⟨i0, hi0, hz0, hz1, hz2⟩ := info_parts Try.infoSl64
  have hal : (w.alloc (.cells C 5)).heap.size = w.heap.size + 1 := by simp
  refine step_append_lies (P := Try.prog) _ hgd x y 44 ho B 31 i0 _ 1 24 Try.underlying44 hi0 hz0 hz1 hz2 rfl (by decide) v k (L.map sl64) hx
    (((hrow.alloc _).alloc _).drew) ⟨w.heap.size + 1, 0, none⟩ 1 1 [sl64 w.heap.size] hy rfl (World.news_of_block (B := w.heap.size + 1) (by have := heap_alloc_new (w.alloc (.cells C 5)) (.cells #[.slice (some ⟨w.heap.size, 0, none⟩) 64 64] 31); rw [hal] at this; exact this)) ?_ Nat.zero_lt_one (by unfold maxLen; omega) (by omega) (by simp; omega) (w.heap.size + 2) (by simp) ?_
  · intro z hz
    rw [List.mem_singleton.1 hz]; rfl
  intro g cap w1 hown hgrow hat hlt
  have h0 : HasB (w.alloc (.cells C 5)) w.heap.size (List.replicate 64 0) := ⟨by rw [← hC]; exact heap_alloc_new w _, by simp⟩
  have o2 : Only (fun _ => False) (w.alloc (.cells C 5)) ((w.alloc (.cells C 5)).alloc (.cells #[.slice (some ⟨w.heap.size, 0, none⟩) 64 64] 31)).drew := ((Only.refl _ _).alloc _).drew
  have o1 : Only (fun q => v.ownBlock = some q) (w.alloc (.cells C 5)) w1 := (o2.mono (fun _ _ h => h.elim)).grown hgrow (fun k _ e => e)
  have o0 : Only (fun q => v.ownBlock = some q) w w1 := (((Only.refl (fun _ => False) w).alloc (.cells C 5)).mono (fun _ _ h => h.elim)).trans o1 (fun _ _ h => h)
  have hvw : v.ownBlock ≠ some w.heap.size := fun e => by have := own_lt hrow e; omega
  have hbl : w1.heap[r]? = w.heap[r]? := o0.block r (World.block_lt_of_cell? w _ hr) hne
  refine h g cap w1 ((World.cell?_of_block hbl).trans hr) (by rw [← hrf]; simp only [World.frozen?, hbl]) (Lib.hid ⟨by simpa using hown, o0, ⟨(o1.block _ (by simp) hvw).trans h0.1, by simp⟩, ?_⟩)
  rcases hat with h | h
  · exact .inl h
  · exact .inr (by omega)

set_option maxRecDepth 100000 in
set_option maxHeartbeats 2000000 in
theorem ref_new (n : Nat) (w : World) (h8 : 8 ≤ n) (hn : n ≤ 4096) :
    Calls Try.prog 11 #[.int .i64 n] w fun e w' => ∃ r gk gs ck cs kb sb, e = .returned (.tuple #[.pointer (some ⟨r, 0, none⟩), .int .i64 0]) ∧
      RefAt w' r gk gs ck cs (.slice none 0 0) (-1) kb sb [] (DS.new n) ∧ (∀ k, RFoot r gk gs (.slice none 0 0) kb sb [] k → w.heap.size ≤ k) ∧ Only (fun _ => False) w w' := by
  have h8' : ¬ (n : Int) < 8 := by omega
  have hn' : ¬ 4096 < (n : Int) := by omega
  go_enter Try.func11, Try.ntmps11
  go_wp2_with fail
  obtain ⟨C, hC⟩ : ∃ C, C = (u8s (List.replicate 64 0)).toArray := ⟨_, rfl⟩
  have hmk := run_make64
  rw [← hC] at hmk
  have HC := Lib.hid hC
  clear hC
  obtain ⟨r, hr⟩ : ∃ r, r = w.heap.size := ⟨_, rfl⟩
  have HR := Lib.hid hr
  have HN0 : Hid (RefN w (w.alloc (.cells #[.slice none 0 0, .slice none 0 0, .slice none 0 0, .int .i64 (-1), .bool false, .int .i64 0, .int .i64 0] 47)) r 0 0 (.slice none 0 0) (.slice none 0 0) [] []) :=
    Lib.hid ⟨by rw [hr]; exact heap_alloc_new w _, by omega, rfl, rfl, ⟨rfl, .inl ⟨rfl, rfl⟩⟩, ⟨rfl, .inl ⟨rfl, rfl⟩⟩, fun g e => (by cases e), fun b hb => (by simp at hb), (Only.refl _ w).alloc _⟩
  rw [← hr]
  clear hr
  generalize w.alloc (.cells #[.slice none 0 0, .slice none 0 0, .slice none 0 0, .int .i64 (-1), .bool false, .int .i64 0, .int .i64 0] 47) = w1 at *
  go_loopw [5] (fun i wr => ∃ (k : Nat) (vk vs : Value) (kb sb : List Nat), k ≤ n ∧ i = .int .i64 k ∧ Hid (RefN w wr r k k vk vs kb sb)) (fun i _ => n - (intOf i).toNat)
  case atStart => exact ⟨0, _, _, _, _, Nat.zero_le _, rfl, HN0⟩
  case round =>
    clear HN0
    obtain ⟨k, vk, vs, kb, sb, hk, rfl, HN⟩ := hrel
    by_cases hlt : k < n
    · have hltI : (k : Int) < (n : Int) := by omega
      have hk0 : (0 : Int) ≤ (k : Int) := by omega
      have hc0 : wr.cell? ⟨r, 0, none⟩ = some vk := by simp [World.cell?, HN.out.at']
      have hf0 : wr.frozen? ⟨r, 0, none⟩ = false := by simp [World.frozen?, HN.out.at']
      go_upto_region 7 with fail
      have hrl := lt_of_some HN.out.at'
      have hca : (wr.alloc (.cells C 5)).cell? ⟨r, 0, none⟩ = some vk := (World.cell?_of_block (Below.heap_alloc wr _ _ hrl)).trans hc0
      have hcb : ((wr.alloc (.cells C 5)).alloc (.cells #[.slice (some ⟨wr.heap.size, 0, none⟩) 64 64] 31)).cell? ⟨r, 0, none⟩ = some vk := (World.cell?_of_block (Below.heap_alloc _ _ _ (by simp; omega))).trans hca
      have HNK : Hid (vk.ownBlock ≠ some r) := Lib.hid (own_type HN.out.kept HN.out.at' (by decide))
      go_region_law ((refine step_ref wr w.heap.size C HC.out r 0 vk vk k kb HN.out.kept HN.out.only.size (by omega) hc0 hf0 HNK.out rfl (.tmp 23) (.tmp 25) rfl ?_ ?_ ?_; (go_must (simp [Act.eval])); (go_must (simp [Act.eval])); (go_must (intro g cap w2 c1 f1 HM))))
      all_goals
        clear hc0 hf0 hca hcb hrl c1 f1
        have HN1 := Lib.hid (HN.out.growK HM.out.1 HM.out.2.1 HM.out.2.2.1 (fun q e => by simp [Value.ownBlock] at e; subst e; exact HM.out.2.2.2))
        clear HN HM HNK
        generalize w2.setCell ⟨r, 0, none⟩ (.slice (some ⟨g, 0, none⟩) (k + 1) cap) = w3 at *
        generalize kb ++ [wr.heap.size] = kb1 at *
        have hc0 : w3.cell? ⟨r, 1, none⟩ = some vs := by simp [World.cell?, HN1.out.at']
        have hf0 : w3.frozen? ⟨r, 1, none⟩ = false := by simp [World.frozen?, HN1.out.at']
        have hrl := lt_of_some HN1.out.at'
        have hca : (w3.alloc (.cells C 5)).cell? ⟨r, 1, none⟩ = some vs := (World.cell?_of_block (Below.heap_alloc w3 _ _ hrl)).trans hc0
        have hcb : ((w3.alloc (.cells C 5)).alloc (.cells #[.slice (some ⟨w3.heap.size, 0, none⟩) 64 64] 31)).cell? ⟨r, 1, none⟩ = some vs := (World.cell?_of_block (Below.heap_alloc _ _ _ (by simp; omega))).trans hca
        have HNK : Hid (vs.ownBlock ≠ some r) := Lib.hid (own_type HN1.out.seen HN1.out.at' (by decide))
        go_upto_region 8 with fail
        go_region_law ((refine step_ref w3 w.heap.size C HC.out r 1 vs vs k sb HN1.out.seen HN1.out.only.size (by omega) hc0 hf0 HNK.out rfl (.tmp 33) (.tmp 35) rfl ?_ ?_ ?_; (go_must (simp [Act.eval])); (go_must (simp [Act.eval])); (go_must (intro g2 cap2 w4 c1 f1 HM))))
        all_goals
          clear hc0 hf0 hca hcb hrl c1 f1
          have HN2 := Lib.hid (HN1.out.growS HM.out.1 HM.out.2.1 HM.out.2.2.1 (fun q e => by simp [Value.ownBlock] at e; subst e; exact HM.out.2.2.2))
          clear HN1 HM HNK
          generalize w4.setCell ⟨r, 1, none⟩ (.slice (some ⟨g2, 0, none⟩) (k + 1) cap2) = w5 at *
          go_wp2
          go_roundw
          case rel => exact ⟨k + 1, _, _, _, _, by omega, by go_num, HN2⟩
          case measure => simp [intOf]; omega
    · obtain rfl : k = n := by omega
      obtain ⟨gk, gs, ck, cs, hR, hfoot⟩ := HN.out.made h8 hn
      have HRR := Lib.hid hR
      have HFT := Lib.hid hfoot
      have HO := Lib.hid HN.out.only
      clear hR hfoot HN
      go_wp2_with fail
      go_ret2
      exact ⟨_, _, _, _, _, _, _, rfl, HRR.out, HFT.out, HO.out⟩

end Go.Proofs.Ytidkeglldmbfeaa
