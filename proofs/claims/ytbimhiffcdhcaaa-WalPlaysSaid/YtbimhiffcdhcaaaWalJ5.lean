/-
  Joined: DiskRef8 DiskRef9 WalR4 WalR5 WalR6 WalR7 Wal6 Wal7 Wal8 Wal2 Wal3 Wal4 Wal9 Wal10.
-/
import Derived.Test.YtbimhiffcdhcaaaWalJ4
import Derived.StillTailTactics
import Derived.Deep.RegionHeld3
import Derived.BigQuiet
import Derived.Deep.QuietTactic

namespace Go.Proofs.Ytbimhiffcdhcaaa
open Go Go.RowKit
set_option linter.unusedVariables false
set_option linter.unusedSimpArgs false
set_option maxRecDepth 100000

set_option maxHeartbeats 400000 in
theorem ref_new_arg (n : Int) (w : World) (hn : n < 8 ∨ 4096 < n) :
    Calls Try.prog 13 #[.int .i64 n] w fun e w' => e = .returned (.tuple #[.pointer none, .int .i64 1]) ∧ w = w' := by
  rcases hn with h | h
  · go_enter Try.func13, Try.ntmps13
    go_wp2
    go_ret2
    exact ⟨rfl, rfl⟩
  · have h' : ¬ n < 8 := by omega
    go_enter Try.func13, Try.ntmps13
    go_wp2
    go_ret2
    exact ⟨rfl, rfl⟩

/-- A disk that is being made: k sectors of zeros in each picture. -/
structure RefN (w0 w : World) (r k l : Nat) (vk vs : Value) (kb sb : List Nat) : Prop where
  at' : w.heap[r]? = some (.cells #[vk, vs, .slice none 0 0, .int .i64 (-1), .bool false, .int .i64 0, .int .i64 0] 65 (0, 0))
  r : w0.heap.size ≤ r
  lk : kb.length = k
  ls : sb.length = l
  kept : w.ownsRow w0.heap.size 48 1 vk k (kb.map sl64)
  seen : w.ownsRow w0.heap.size 48 1 vs l (sb.map sl64)
  ne : ∀ g, vk.ownBlock = some g → vs.ownBlock ≠ some g
  hb : ∀ b, b ∈ kb ∨ b ∈ sb → w0.heap.size ≤ b ∧ HasB w b (List.replicate 64 0)
  only : Only (fun _ => False) w0 w

theorem RefN.growK {w0 w w1 : World} {r k l : Nat} {vk vs v1 : Value} {kb sb : List Nat} (h : RefN w0 w r k l vk vs kb sb) (hown : w1.ownsRow w0.heap.size 48 1 v1 (k + 1) ((kb ++ [w.heap.size]).map sl64))
    (ho : Only (fun q => vk.ownBlock = some q) w w1) (hp : HasB w1 w.heap.size (List.replicate 64 0)) (hv : ∀ g, v1.ownBlock = some g → vk.ownBlock = some g ∨ w.heap.size ≤ g) :
    RefN w0 (w1.setCell ⟨r, 0, none⟩ v1) r (k + 1) l v1 vs (kb ++ [w.heap.size]) sb := by
  have nk := own_type h.kept h.at' (by decide)
  have ns := own_type h.seen h.at' (by decide)
  have hrl := lt_of_some h.at'
  have hr : w1.heap[r]? = w.heap[r]? := ho.block r hrl nk
  have hk : ∀ k, k ≠ r → (w1.setCell ⟨r, 0, none⟩ v1).heap[k]? = w1.heap[k]? := fun k hk => Below.heap_setCell _ _ _ _ hk
  have hother : ∀ q, vs.ownBlock = some q → (w1.setCell ⟨r, 0, none⟩ v1).heap[q]? = w.heap[q]? := fun q e => (hk q (fun e2 => ns (e2 ▸ e))).trans (ho.block q (own_lt h.seen e) (fun e2 => h.ne q e2 e))
  have hmine : ∀ q, v1.ownBlock = some q → q ≠ r := fun q e e2 => by
    rcases hv q e with e3 | e3
    · exact nk (e2 ▸ e3)
    · omega
  have hbytes : ∀ b, w0.heap.size ≤ b ∧ HasB w b (List.replicate 64 0) → w0.heap.size ≤ b ∧ HasB (w1.setCell ⟨r, 0, none⟩ v1) b (List.replicate 64 0) := fun b hb => by
    refine ⟨hb.1, ⟨?_, hb.2.2⟩⟩
    have hbr : b ≠ r := fun e => by have a := hb.2.1; rw [e, h.at'] at a; simp at a
    exact ((hk b hbr).trans (ho.block b (lt_of_some hb.2.1) (own_type h.kept hb.2.1 (by decide)))).trans hb.2.1
  have hnew : w0.heap.size ≤ w.heap.size ∧ HasB (w1.setCell ⟨r, 0, none⟩ v1) w.heap.size (List.replicate 64 0) := ⟨h.only.size, ⟨(hk _ (by omega)).trans hp.1, hp.2⟩⟩
  have hge : ∀ q, vk.ownBlock = some q → w0.heap.size ≤ q := fun q e => (h.kept.lt q e).1
  refine ⟨by rw [heap_set (hr.trans h.at')]; rfl, h.r, by simp [h.lk], h.ls, own_keepAt hown (fun q e => hk q (hmine q e)), own_keepAt h.seen hother, fun g e e2 => by
    rcases hv g e with e3 | e3
    · exact h.ne g e3 e2
    · have := own_lt h.seen e2; omega, ?_, (h.only.trans ho (fun i hi e => by have := hge i e; omega)).setCell (fun h2 => by have := h.r; simp at h2; omega) _⟩
  rintro b (hb | hb)
  · rcases List.mem_append.1 hb with hb | hb
    · exact hbytes b (h.hb b (.inl hb))
    · rw [List.mem_singleton.1 hb]; exact hnew
  · exact hbytes b (h.hb b (.inr hb))
theorem RefN.growS {w0 w w1 : World} {r k l : Nat} {vk vs v1 : Value} {kb sb : List Nat} (h : RefN w0 w r k l vk vs kb sb) (hown : w1.ownsRow w0.heap.size 48 1 v1 (l + 1) ((sb ++ [w.heap.size]).map sl64))
    (ho : Only (fun q => vs.ownBlock = some q) w w1) (hp : HasB w1 w.heap.size (List.replicate 64 0)) (hv : ∀ g, v1.ownBlock = some g → vs.ownBlock = some g ∨ w.heap.size ≤ g) :
    RefN w0 (w1.setCell ⟨r, 1, none⟩ v1) r k (l + 1) vk v1 kb (sb ++ [w.heap.size]) := by
  have nk := own_type h.kept h.at' (by decide)
  have ns := own_type h.seen h.at' (by decide)
  have hrl := lt_of_some h.at'
  have hr : w1.heap[r]? = w.heap[r]? := ho.block r hrl ns
  have hk : ∀ k, k ≠ r → (w1.setCell ⟨r, 1, none⟩ v1).heap[k]? = w1.heap[k]? := fun k hk => Below.heap_setCell _ _ _ _ hk
  have hother : ∀ q, vk.ownBlock = some q → (w1.setCell ⟨r, 1, none⟩ v1).heap[q]? = w.heap[q]? := fun q e => (hk q (fun e2 => nk (e2 ▸ e))).trans (ho.block q (own_lt h.kept e) (fun e2 => h.ne q e e2))
  have hmine : ∀ q, v1.ownBlock = some q → q ≠ r := fun q e e2 => by
    rcases hv q e with e3 | e3
    · exact ns (e2 ▸ e3)
    · omega
  have hbytes : ∀ b, w0.heap.size ≤ b ∧ HasB w b (List.replicate 64 0) → w0.heap.size ≤ b ∧ HasB (w1.setCell ⟨r, 1, none⟩ v1) b (List.replicate 64 0) := fun b hb => by
    refine ⟨hb.1, ⟨?_, hb.2.2⟩⟩
    have hbr : b ≠ r := fun e => by have a := hb.2.1; rw [e, h.at'] at a; simp at a
    exact ((hk b hbr).trans (ho.block b (lt_of_some hb.2.1) (own_type h.seen hb.2.1 (by decide)))).trans hb.2.1
  have hnew : w0.heap.size ≤ w.heap.size ∧ HasB (w1.setCell ⟨r, 1, none⟩ v1) w.heap.size (List.replicate 64 0) := ⟨h.only.size, ⟨(hk _ (by omega)).trans hp.1, hp.2⟩⟩
  have hge : ∀ q, vs.ownBlock = some q → w0.heap.size ≤ q := fun q e => (h.seen.lt q e).1
  refine ⟨by rw [heap_set (hr.trans h.at')]; rfl, h.r, h.lk, by simp [h.ls], own_keepAt h.kept hother, own_keepAt hown (fun q e => hk q (hmine q e)), fun g e e2 => by
    rcases hv g e2 with e3 | e3
    · exact h.ne g e e3
    · have := own_lt h.kept e; omega, ?_, (h.only.trans ho (fun i hi e => by have := hge i e; omega)).setCell (fun h2 => by have := h.r; simp at h2; omega) _⟩
  rintro b (hb | hb)
  · exact hbytes b (h.hb b (.inl hb))
  · rcases List.mem_append.1 hb with hb | hb
    · exact hbytes b (h.hb b (.inr hb))
    · rw [List.mem_singleton.1 hb]; exact hnew
theorem sec_zeros {n j : Nat} (hj : j < n) : sec (List.replicate (n * 64) 0) j = List.replicate 64 0 := by
  simp only [sec, List.drop_replicate, List.take_replicate]
  congr 1
  omega
theorem RefN.made {w0 w : World} {r n : Nat} {vk vs : Value} {kb sb : List Nat} (h : RefN w0 w r n n vk vs kb sb) (h8 : 8 ≤ n) (hn : n ≤ 4096) :
    ∃ gk gs ck cs, RefAt w r gk gs ck cs (.slice none 0 0) (-1) kb sb [] (DS.new n) ∧ ∀ k, RFoot r gk gs (.slice none 0 0) kb sb [] k → w0.heap.size ≤ k := by
  have weak : ∀ {v : Value} {xs : List Value}, w.ownsRow w0.heap.size 48 1 v n xs → w.ownsRow 0 48 1 v n xs := fun {v xs} h => by
    refine ⟨h.1, ?_⟩
    rcases h.2 with h0 | ⟨g, cap, cur, e, _, rest⟩
    · exact .inl h0
    · exact .inr ⟨g, cap, cur, e, Nat.zero_le _, rest⟩
  have shape : ∀ {v : Value} {xs : List Value}, w.ownsRow w0.heap.size 48 1 v n xs → ∃ g c, v = .slice (some ⟨g, 0, none⟩) n c ∧ w0.heap.size ≤ g := fun {v xs} h => by
    rcases h.2 with ⟨_, h0⟩ | ⟨g, cap, cur, e, hb, _⟩
    · omega
    · exact ⟨g, cap, e, hb⟩
  obtain ⟨gk, ck, rfl, hgk⟩ := shape h.kept
  obtain ⟨gs, cs, rfl, hgs⟩ := shape h.seen
  refine ⟨gk, gs, ck, cs, ⟨⟨hn, by simp [DS.new], by simp [DS.new], fun x hx => (by cases hx), show (-9223372036854775808 : Int) ≤ -1 ∧ (-1 : Int) ≤ 9223372036854775807 from ⟨by decide, by decide⟩⟩,
    ⟨h.at', h.lk, h.ls, rfl, weak h.kept, weak h.seen, ⟨rfl, .inl ⟨rfl, rfl⟩⟩, fun e => h.ne gk rfl (by rw [e]; rfl)⟩, fun _ => rfl, fun j hj => ?_, fun j hj => ?_, fun j hj => (by cases hj)⟩, ?_⟩
  · have hj' : j < n := hj
    rw [show (DS.new n).K = List.replicate (n * 64) 0 from rfl, sec_zeros hj']
    exact (h.hb _ (.inl (mem_at (by rw [h.lk]; exact hj')))).2
  · have hj' : j < n := hj
    rw [show (DS.new n).N = List.replicate (n * 64) 0 from rfl, sec_zeros hj']
    exact (h.hb _ (.inr (mem_at (by rw [h.ls]; exact hj')))).2
  · rintro k (rfl | rfl | rfl | hk | hk | hk | hk)
    · exact h.r
    · exact hgk
    · exact hgs
    · cases hk
    · exact (h.hb k (.inl hk)).1
    · exact (h.hb k (.inr hk)).1
    · simp at hk
theorem Try.infoSl64 : (Try.prog.info? 48).map (fun i => (i.zero, i.size, i.bytes)) = some (some (.slice none 0 0), 1, 24) := by kernel_rfl
theorem Try.infoSl64' : (Try.prog.info? 48).map (fun i => (i.zero, i.size)) = some (some (.slice none 0 0), 1) := by kernel_rfl
/-- One more slice of zeros behind a row. -/
theorem step_ref {ops : Array Oper} {o : Oper} {a : Act} {K : Act → World → Prop} {Q : Exit → Act → World → Prop} {E : Prop} (w : World) (B : Nat) (C : Array Value) (hC : C = (u8s (List.replicate 64 0)).toArray) (r off : Nat) (u v : Value) (k : Nat) (L : List Nat)
    (hrow : w.ownsRow B 48 1 v k (L.map sl64)) (hB : B ≤ w.heap.size) (hk : k ≤ 4096) (hr : w.cell? ⟨r, off, none⟩ = some u) (hrf : w.frozen? ⟨r, off, none⟩ = false) (hne : v.ownBlock ≠ some r) (hgd : o.guard = none) (x y : Operand)
    (ho : o.op = .call { callee := .builtin .append, args := #[x, y], argTypes := #[62, 62] })
    (hx : a.eval x = v) (hy : a.eval y = .slice (some ⟨w.heap.size + 1, 0, none⟩) 1 1)
    (h : ∀ g cap w1, w1.cell? ⟨r, off, none⟩ = some u → w1.frozen? ⟨r, off, none⟩ = false → Hid (w1.ownsRow B 48 1 (.slice (some ⟨g, 0, none⟩) (k + 1) cap) (k + 1) ((L ++ [w.heap.size]).map sl64) ∧ Only (fun q => v.ownBlock = some q) w w1 ∧
      HasB w1 w.heap.size (List.replicate 64 0) ∧ (v.ownBlock = some g ∨ w.heap.size ≤ g)) → K (a.put o.dst (.slice (some ⟨g, 0, none⟩) (k + 1) cap)) w1) :
    if Region.wanted o (yielded ops a.tmps) = true then Oper.wp Try.prog o a (((w.alloc (.cells C 5)).alloc (.cells #[.slice (some ⟨w.heap.size, 0, none⟩) 64 64] 48)).drew) K Q else E := by
  obtain ⟨i0, hi0, hz0, hz1, hz2⟩ := info_parts Try.infoSl64
  have hal : (w.alloc (.cells C 5)).heap.size = w.heap.size + 1 := by simp
  refine step_append_lies (P := Try.prog) _ hgd x y 62 ho B 48 i0 _ 1 24 Try.underlying62 hi0 hz0 hz1 hz2 rfl (by decide) v k (L.map sl64) hx
    (((hrow.alloc _).alloc _).drew) ⟨w.heap.size + 1, 0, none⟩ 1 1 [sl64 w.heap.size] hy rfl (World.news_of_block (B := w.heap.size + 1) (by have := heap_alloc_new (w.alloc (.cells C 5)) (.cells #[.slice (some ⟨w.heap.size, 0, none⟩) 64 64] 48); rw [hal] at this; exact this)) ?_ Nat.zero_lt_one (by unfold maxLen; omega) (by omega) (by simp; omega) (w.heap.size + 2) (by simp) ?_
  · intro z hz
    rw [List.mem_singleton.1 hz]; rfl
  intro g cap w1 hown hgrow hat hlt
  have h0 : HasB (w.alloc (.cells C 5)) w.heap.size (List.replicate 64 0) := ⟨by rw [← hC]; exact heap_alloc_new w _, by simp⟩
  have o2 : Only (fun _ => False) (w.alloc (.cells C 5)) ((w.alloc (.cells C 5)).alloc (.cells #[.slice (some ⟨w.heap.size, 0, none⟩) 64 64] 48)).drew := ((Only.refl _ _).alloc _).drew
  have o1 : Only (fun q => v.ownBlock = some q) (w.alloc (.cells C 5)) w1 := (o2.mono (fun _ _ h => h.elim)).grown hgrow (fun k _ e => e)
  have o0 : Only (fun q => v.ownBlock = some q) w w1 := (((Only.refl (fun _ => False) w).alloc (.cells C 5)).mono (fun _ _ h => h.elim)).trans o1 (fun _ _ h => h)
  have hvw : v.ownBlock ≠ some w.heap.size := fun e => by have := own_lt hrow e; omega
  have hbl : w1.heap[r]? = w.heap[r]? := o0.block r (World.block_lt_of_cell? w _ hr) hne
  refine h g cap w1 ((World.cell?_of_block hbl).trans hr) (by rw [← hrf]; simp only [World.frozen?, hbl]) (Lib.hid ⟨by simpa using hown, o0, ⟨(o1.block _ (by simp) hvw).trans h0.1, by simp⟩, ?_⟩)
  rcases hat with h | h
  · exact .inl h
  · exact .inr (by omega)

set_option maxRecDepth 100000 in
set_option maxHeartbeats 2000000 in
theorem ref_new (n : Nat) (w : World) (h8 : 8 ≤ n) (hn : n ≤ 4096) :
    Calls Try.prog 13 #[.int .i64 n] w fun e w' => ∃ r gk gs ck cs kb sb, e = .returned (.tuple #[.pointer (some ⟨r, 0, none⟩), .int .i64 0]) ∧
      RefAt w' r gk gs ck cs (.slice none 0 0) (-1) kb sb [] (DS.new n) ∧ (∀ k, RFoot r gk gs (.slice none 0 0) kb sb [] k → w.heap.size ≤ k) ∧ Only (fun _ => False) w w' := by
  have h8' : ¬ (n : Int) < 8 := by omega
  have hn' : ¬ 4096 < (n : Int) := by omega
  go_enter Try.func13, Try.ntmps13
  go_wp2_with fail
  obtain ⟨C, hC⟩ : ∃ C, C = (u8s (List.replicate 64 0)).toArray := ⟨_, rfl⟩
  have hmk := run_make64
  rw [← hC] at hmk
  have HC := Lib.hid hC
  clear hC
  obtain ⟨r, hr⟩ : ∃ r, r = w.heap.size := ⟨_, rfl⟩
  have HR := Lib.hid hr
  have HN0 : Hid (RefN w (w.alloc (.cells #[.slice none 0 0, .slice none 0 0, .slice none 0 0, .int .i64 (-1), .bool false, .int .i64 0, .int .i64 0] 65)) r 0 0 (.slice none 0 0) (.slice none 0 0) [] []) :=
    Lib.hid ⟨by rw [hr]; exact heap_alloc_new w _, by omega, rfl, rfl, ⟨rfl, .inl ⟨rfl, rfl⟩⟩, ⟨rfl, .inl ⟨rfl, rfl⟩⟩, fun g e => (by cases e), fun b hb => (by simp at hb), (Only.refl _ w).alloc _⟩
  rw [← hr]
  clear hr
  generalize w.alloc (.cells #[.slice none 0 0, .slice none 0 0, .slice none 0 0, .int .i64 (-1), .bool false, .int .i64 0, .int .i64 0] 65) = w1 at *
  go_loopw [5] (fun i wr => ∃ (k : Nat) (vk vs : Value) (kb sb : List Nat), k ≤ n ∧ i = .int .i64 k ∧ Hid (RefN w wr r k k vk vs kb sb)) (fun i _ => n - (intOf i).toNat)
  case atStart => exact ⟨0, _, _, _, _, Nat.zero_le _, rfl, HN0⟩
  case round =>
    clear HN0
    obtain ⟨k, vk, vs, kb, sb, hk, rfl, HN⟩ := hrel
    by_cases hlt : k < n
    · have hltI : (k : Int) < (n : Int) := by omega
      have hk0 : (0 : Int) ≤ (k : Int) := by omega
      have hc0 : wr.cell? ⟨r, 0, none⟩ = some vk := by simp [World.cell?, HN.out.at']
      have hf0 : wr.frozen? ⟨r, 0, none⟩ = false := by simp [World.frozen?, HN.out.at']
      go_upto_region 7 with fail
      have hrl := lt_of_some HN.out.at'
      have hca : (wr.alloc (.cells C 5)).cell? ⟨r, 0, none⟩ = some vk := (World.cell?_of_block (Below.heap_alloc wr _ _ hrl)).trans hc0
      have hcb : ((wr.alloc (.cells C 5)).alloc (.cells #[.slice (some ⟨wr.heap.size, 0, none⟩) 64 64] 48)).cell? ⟨r, 0, none⟩ = some vk := (World.cell?_of_block (Below.heap_alloc _ _ _ (by simp; omega))).trans hca
      have HNK : Hid (vk.ownBlock ≠ some r) := Lib.hid (own_type HN.out.kept HN.out.at' (by decide))
      go_region_law ((refine step_ref wr w.heap.size C HC.out r 0 vk vk k kb HN.out.kept HN.out.only.size (by omega) hc0 hf0 HNK.out rfl (.tmp 23) (.tmp 25) rfl ?_ ?_ ?_; (go_must (simp [Act.eval])); (go_must (simp [Act.eval])); (go_must (intro g cap w2 c1 f1 HM))))
      all_goals
        clear hc0 hf0 hca hcb hrl c1 f1
        have HN1 := Lib.hid (HN.out.growK HM.out.1 HM.out.2.1 HM.out.2.2.1 (fun q e => by simp [Value.ownBlock] at e; subst e; exact HM.out.2.2.2))
        clear HN HM HNK
        generalize w2.setCell ⟨r, 0, none⟩ (.slice (some ⟨g, 0, none⟩) (k + 1) cap) = w3 at *
        generalize kb ++ [wr.heap.size] = kb1 at *
        have hc0 : w3.cell? ⟨r, 1, none⟩ = some vs := by simp [World.cell?, HN1.out.at']
        have hf0 : w3.frozen? ⟨r, 1, none⟩ = false := by simp [World.frozen?, HN1.out.at']
        have hrl := lt_of_some HN1.out.at'
        have hca : (w3.alloc (.cells C 5)).cell? ⟨r, 1, none⟩ = some vs := (World.cell?_of_block (Below.heap_alloc w3 _ _ hrl)).trans hc0
        have hcb : ((w3.alloc (.cells C 5)).alloc (.cells #[.slice (some ⟨w3.heap.size, 0, none⟩) 64 64] 48)).cell? ⟨r, 1, none⟩ = some vs := (World.cell?_of_block (Below.heap_alloc _ _ _ (by simp; omega))).trans hca
        have HNK : Hid (vs.ownBlock ≠ some r) := Lib.hid (own_type HN1.out.seen HN1.out.at' (by decide))
        go_upto_region 8 with fail
        go_region_law ((refine step_ref w3 w.heap.size C HC.out r 1 vs vs k sb HN1.out.seen HN1.out.only.size (by omega) hc0 hf0 HNK.out rfl (.tmp 33) (.tmp 35) rfl ?_ ?_ ?_; (go_must (simp [Act.eval])); (go_must (simp [Act.eval])); (go_must (intro g2 cap2 w4 c1 f1 HM))))
        all_goals
          clear hc0 hf0 hca hcb hrl c1 f1
          have HN2 := Lib.hid (HN1.out.growS HM.out.1 HM.out.2.1 HM.out.2.2.1 (fun q e => by simp [Value.ownBlock] at e; subst e; exact HM.out.2.2.2))
          clear HN1 HM HNK
          generalize w4.setCell ⟨r, 1, none⟩ (.slice (some ⟨g2, 0, none⟩) (k + 1) cap2) = w5 at *
          go_wp2
          go_roundw
          case rel => exact ⟨k + 1, _, _, _, _, by omega, by go_num, HN2⟩
          case measure => simp [intOf]; omega
    · obtain rfl : k = n := by omega
      obtain ⟨gk, gs, ck, cs, hR, hfoot⟩ := HN.out.made h8 hn
      have HRR := Lib.hid hR
      have HFT := Lib.hid hfoot
      have HO := Lib.hid HN.out.only
      clear hR hfoot HN
      go_wp2_with fail
      go_ret2
      exact ⟨_, _, _, _, _, _, _, rfl, HRR.out, HFT.out, HO.out⟩

end Go.Proofs.Ytbimhiffcdhcaaa

namespace Go.Proofs.Ytbimhiffcdhcaaa
open Go Go.RowKit
set_option linter.unusedVariables false
set_option linter.unusedSimpArgs false
set_option maxRecDepth 100000

theorem core_foot {r gk gs : Nat} {vw : Value} {kb sb : List Nat} {wb : List (Nat × Nat)} {k : Nat} (h : RCore r gk gs vw k) : RFoot r gk gs vw kb sb wb k := by
  rcases h with h | h | h | h
  · exact .inl h
  · exact .inr (.inl h)
  · exact .inr (.inr (.inl h))
  · exact .inr (.inr (.inr (.inl h)))
theorem rfoot_iff {F : Nat → Prop} {r gk gs : Nat} {vw : Value} {kb sb : List Nat} {wb : List (Nat × Nat)} (h : ∀ k, F k ↔ RFoot r gk gs vw kb sb wb k) : F = RFoot r gk gs vw kb sb wb := funext fun k => propext (h k)
theorem Own.ref {w0 w : World} {r : Nat} {D : DS} {J : Res} (h : Own w0 w (Sep (RefR r D) J)) : ∃ gk gs ck cs vw f kb sb wb, RefAt w r gk gs ck cs vw f kb sb wb D := by
  obtain ⟨F, ⟨gk, gs, ck, cs, vw, f, kb, sb, wb, h1, _⟩, _⟩ := h.fst
  exact ⟨gk, gs, ck, cs, vw, f, kb, sb, wb, h1⟩

theorem own_rnew {w0 w : World} {I : Res} [Stab I] (h : Own w0 w I) (n : Nat) (h8 : 8 ≤ n) (hn : n ≤ 4096) :
    Calls Try.prog 13 #[.int .i64 n] w fun e w' => ∃ r, e = .returned (.tuple #[.pointer (some ⟨r, 0, none⟩), .int .i64 0]) ∧ Own w0 w' (Sep (RefR r (DS.new n)) I) := by
  refine (ref_new n w h8 hn).mono ?_
  rintro e w' ⟨r, gk, gs, ck, cs, kb, sb, rfl, hR, hF, ho⟩
  exact ⟨_, rfl, h.fresh ho (B := RFoot r gk gs (.slice none 0 0) kb sb []) ⟨gk, gs, ck, cs, _, _, kb, sb, [], hR, fun _ => Iff.rfl⟩ hF⟩

theorem own_rfuse {w0 w : World} {r : Nat} {D : DS} {J : Res} [Stab J] (h : Own w0 w (Sep (RefR r D) J)) (n : Int) (hn : -9223372036854775808 ≤ n ∧ n ≤ 9223372036854775807) :
    Calls Try.prog 29 #[.pointer (some ⟨r, 0, none⟩), .int .i64 n] w fun e w' => e = .returned (.tuple #[]) ∧ Own w0 w' (Sep (RefR r (D.fused n)) J) := by
  refine (Own.call (val := fun _ : Unit => .tuple #[]) (Q := fun _ => RefR r (D.fused n)) h ?_).mono ?_
  · rintro F B hI hJ hd h0
    obtain ⟨gk, gs, ck, cs, vw, f, kb, sb, wb, hR, hF⟩ := hI
    obtain rfl := rfoot_iff hF
    refine (ref_fuse hR n hn).mono ?_
    rintro e w' ⟨rfl, ⟨f', h1⟩, ho⟩
    exact ⟨(), _, rfl, ⟨gk, gs, ck, cs, vw, f', kb, sb, wb, h1, fun _ => Iff.rfl⟩, fun k hk => .inl hk, ho.mono (fun _ _ e => core_foot e)⟩
  · rintro e w' ⟨_, rfl, hq⟩
    exact ⟨rfl, hq⟩

theorem own_rsync {w0 w : World} {r : Nat} {D : DS} {J : Res} [Stab J] (h : Own w0 w (Sep (RefR r D) J)) (hcoh : Coh D) (hsy : D.sy ≤ 1000000) :
    Calls Try.prog 27 #[.pointer (some ⟨r, 0, none⟩)] w fun e w' => e = .returned (.int .i64 (syE D)) ∧ Own w0 w' (Sep (RefR r D.sync) J) := by
  refine (Own.call (val := fun _ : Unit => .int .i64 (syE D)) (Q := fun _ => RefR r D.sync) h ?_).mono ?_
  · rintro F B hI hJ hd h0
    obtain ⟨gk, gs, ck, cs, vw, f, kb, sb, wb, hR, hF⟩ := hI
    obtain rfl := rfoot_iff hF
    cases hdn : D.down with
    | true =>
      have e1 : D.sync = D := by simp [DS.sync, hdn]
      have e2 : syE D = 4 := by simp [syE, hdn]
      rw [e1, e2]
      refine (ref_sync_gone hR hdn).mono ?_
      rintro e w' ⟨rfl, rfl⟩
      exact ⟨(), _, rfl, ⟨gk, gs, ck, cs, vw, f, kb, sb, wb, hR, fun _ => Iff.rfl⟩, fun k hk => .inl hk, Only.refl _ _⟩
    | false =>
      have e2 : syE D = 0 := by simp [syE, hdn]
      rw [e2]
      refine (ref_sync_ok hR hcoh hdn hsy).mono ?_
      rintro e w' ⟨rfl, h1, ho⟩
      refine ⟨(), _, rfl, ⟨gk, gs, ck, cs, _, f, sb, sb, [], h1, fun _ => Iff.rfl⟩, ?_, ho.mono (fun _ _ e => core_foot e)⟩
      rintro k (rfl | rfl | rfl | hk | hk | hk | hk)
      · exact .inl (.inl rfl)
      · exact .inl (.inr (.inl rfl))
      · exact .inl (.inr (.inr (.inl rfl)))
      · cases hk
      · exact .inl (.inr (.inr (.inr (.inr (.inr (.inl hk))))))
      · exact .inl (.inr (.inr (.inr (.inr (.inr (.inl hk))))))
      · simp at hk
  · rintro e w' ⟨_, rfl, hq⟩
    exact ⟨rfl, hq⟩

theorem own_rcrash {w0 w : World} {r : Nat} {D : DS} {J : Res} [Stab J] (h : Own w0 w (Sep (RefR r D) J)) (hcoh : Coh D) (ko : Option Addr) (kc : Nat) (keep : List Int)
    (hk : ∀ F B : Nat → Prop, J w B → (∀ k, F k → ¬ B k) → (∀ k, F k → w0.heap.size ≤ k) → (∀ k, F k → k < w.heap.size) → SlIO w F ko keep) (hW : D.W.length ≤ 1000000) :
    Calls Try.prog 33 #[.pointer (some ⟨r, 0, none⟩), .slice ko keep.length kc] w fun e w' => e = .returned (.tuple #[]) ∧ Own w0 w' (Sep (RefR r (D.crash keep)) J) := by
  refine (Own.call (val := fun _ : Unit => .tuple #[]) (Q := fun _ => RefR r (D.crash keep)) h ?_).mono ?_
  · rintro F B hI hJ hd h0
    have hlt := Stab.lt hI
    obtain ⟨gk, gs, ck, cs, vw, f, kb, sb, wb, hR, hF⟩ := hI
    obtain rfl := rfoot_iff hF
    have hko := hk _ B hJ hd h0 hlt
    refine (ref_crash hR hcoh ko kc keep ⟨hko.1, fun a e hn h => hko.2 a e hn (core_foot h)⟩ hW).mono ?_
    rintro e w' ⟨rfl, ⟨kb', h1, hm⟩, ho⟩
    refine ⟨(), _, rfl, ⟨gk, gs, ck, cs, _, _, kb', kb', [], h1, fun _ => Iff.rfl⟩, ?_, ho.mono (fun _ _ e => core_foot e)⟩
    rintro k (rfl | rfl | rfl | hk | hk | hk | hk)
    · exact .inl (.inl rfl)
    · exact .inl (.inr (.inl rfl))
    · exact .inl (.inr (.inr (.inl rfl)))
    · cases hk
    · exact .inl (hm k hk)
    · exact .inl (hm k hk)
    · simp at hk
  · rintro e w' ⟨_, rfl, hq⟩
    exact ⟨rfl, hq⟩

theorem own_rwrite {w0 w : World} {r : Nat} {D : DS} {J : Res} [Stab J] (h : Own w0 w (Sep (RefR r D) J)) (i : Int) (v : Value) (b : List UInt8)
    (hv : ∀ F B : Nat → Prop, J w B → (∀ k, F k → ¬ B k) → (∀ k, F k → w0.heap.size ≤ k) → (∀ k, F k → k < w.heap.size) → SlO w F v b) (hW : D.W.length ≤ 1000000) (hwr : D.wr ≤ 1000000) :
    Calls Try.prog 31 #[.pointer (some ⟨r, 0, none⟩), .int .i64 i, v] w fun e w' => e = .returned (.int .i64 (D.wrE i b)) ∧ Own w0 w' (Sep (RefR r (D.write i b)) J) := by
  refine (Own.call (val := fun _ : Unit => .int .i64 (D.wrE i b)) (Q := fun _ => RefR r (D.write i b)) h ?_).mono ?_
  · rintro F B hI hJ hd h0
    have hlt := Stab.lt hI
    obtain ⟨gk, gs, ck, cs, vw, f, kb, sb, wb, hR, hF⟩ := hI
    obtain rfl := rfoot_iff hF
    have hvo := hv _ B hJ hd h0 hlt
    have hvc : SlO w (RCore r gk gs vw) v b := ⟨hvo.1, fun a n c e hn h => hvo.2 a n c e hn (core_foot h)⟩
    by_cases hbad : D.has i = false ∨ 64 < b.length
    · have e0 : (!D.has i || decide (64 < b.length)) = true := by rcases hbad with h | h <;> simp [h]
      have e1 : D.write i b = D := by simp only [DS.write, e0, if_true]
      have e2 : D.wrE i b = 1 := by simp only [DS.wrE, e0, if_true]
      rw [e1, e2]
      obtain ⟨vo, vc, rfl⟩ := hvo.1.shape
      refine (ref_write_arg hR i vo b.length vc hbad).mono ?_
      rintro e w' ⟨rfl, rfl⟩
      exact ⟨(), _, rfl, ⟨gk, gs, ck, cs, vw, f, kb, sb, wb, hR, fun _ => Iff.rfl⟩, fun k hk => .inl hk, Only.refl _ _⟩
    · have hi : D.has i = true := by cases hh : D.has i with | true => rfl | false => exact absurd (.inl hh) hbad
      have hb : b.length ≤ 64 := by
        by_cases hb : b.length ≤ 64
        · exact hb
        · exact absurd (.inr (by omega)) hbad
      obtain ⟨n, rfl⟩ : ∃ n : Nat, i = n := ⟨i.toNat, by simp [DS.has] at hi; omega⟩
      have hin : n < D.n := by simp [DS.has] at hi; omega
      have e0 : (!D.has n || decide (64 < b.length)) = false := by simp [hi]; omega
      cases hl : D.lastB with
      | true =>
        have e1 : D.write n b = D.last.lay n (pad b) := by simp [DS.write, e0, hl]
        have e2 : D.wrE n b = 0 := by simp [DS.wrE, e0, hl]
        rw [e1, e2]
        refine (ref_write_ok hR n hin v b hb hl hvc hW hwr).mono ?_
        rintro e w' ⟨rfl, ⟨vw', f', sb', wb', h1, hft⟩, ho⟩
        exact ⟨(), _, rfl, ⟨gk, gs, ck, cs, vw', f', kb, sb', wb', h1, fun _ => Iff.rfl⟩, hft, ho.mono (fun _ _ e => core_foot e)⟩
      | false =>
        have e1 : D.write n b = D.last := by simp [DS.write, e0, hl]
        have e2 : D.wrE n b = 4 := by simp [DS.wrE, e0, hl]
        rw [e1, e2]
        obtain ⟨vo, vc, rfl⟩ := hvo.1.shape
        refine (ref_write_gone hR n hin vo b.length vc hb hl).mono ?_
        rintro e w' ⟨rfl, ⟨f', h1⟩, ho⟩
        exact ⟨(), _, rfl, ⟨gk, gs, ck, cs, vw, f', kb, sb, wb, h1, fun _ => Iff.rfl⟩, fun k hk => .inl hk, ho.mono (fun _ _ e => core_foot e)⟩
  · rintro e w' ⟨_, rfl, hq⟩
    exact ⟨rfl, hq⟩

end Go.Proofs.Ytbimhiffcdhcaaa

namespace Go.Proofs.Ytbimhiffcdhcaaa
open Go Go.RowKit Go.Lib
set_option linter.unusedVariables false
set_option linter.unusedSimpArgs false
set_option maxRecDepth 100000

theorem OwnB.apart {w : World} {v : Value} {xs : List UInt8} {J : Res} {F B : Nat → Prop} (hJ : Sep (OwnB v xs) J w B) (hd : ∀ k, F k → ¬ B k) : SlO w F v xs := by
  obtain ⟨A, C, hA, hC, hac, hB⟩ := hJ
  refine ⟨(own_toB hA.1).toC, fun a n c e hx hk => ?_⟩
  exact hd _ hk ((hB _).2 (.inl ((hA.2 _).2 (by rw [e]; rfl))))

def appE (D : DS) (base size M nxt : Nat) (xs : List UInt8) : Nat := bwR (D.app base size M nxt xs (cntN xs.length)).down
theorem app_few (D : DS) (base size M nxt : Nat) (xs : List UInt8) (k : Nat) : (D.app base size M nxt xs k).n = D.n ∧ (D.app base size M nxt xs k).W.length ≤ D.W.length + k ∧ (D.app base size M nxt xs k).wr ≤ D.wr + k := by
  induction k with
  | zero => exact ⟨rfl, Nat.le_refl _, Nat.le_refl _⟩
  | succ k ih =>
    obtain ⟨h1, h2, h3⟩ := ih
    have h4 := write_few (D.app base size M nxt xs k) ((ringS base size (nxt + k) : Nat) : Int) (pcB (nxt + k) (wPc M xs k))
    exact ⟨(write_sz _ _ _).trans h1, Nat.le_trans h4.1 (by omega), Nat.le_trans h4.2 (by omega)⟩
theorem app_down {D : DS} {base size M nxt : Nat} {xs : List UInt8} {k : Nat} (h : (D.app base size M nxt xs k).down = true) (j : Nat) : D.app base size M nxt xs (k + j) = D.app base size M nxt xs k := by
  induction j with
  | zero => rfl
  | succ j ih =>
    show (D.app base size M nxt xs (k + j)).write _ _ = _
    rw [ih, write_down h]

set_option maxRecDepth 100000 in
set_option maxHeartbeats 2000000 in
theorem rlog_append_bad {w : World} {q r base size M head nxt : Nat} (h : w.heap[q]? = some (rlogO r base size M head nxt)) (v : Value) (xs : List UInt8) (hv : SlN w v xs) (hx : 32768 < xs.length) :
    Calls Try.prog 23 #[.pointer (some ⟨q, 0, none⟩), v] w fun e w' => e = .returned (.tuple #[.int .u64 0, .int .i64 7]) ∧ w = w' := by
  obtain ⟨vo, vc, rfl, hvc⟩ := hv.2
  have hl : (32768 : Int) < (xs.length : Int) := by omega
  have hld : decide ((32768 : Int) < (xs.length : Int)) = true := decide_eq_true hl
  clear hv
  go_enter Try.func23, Try.ntmps23
  go_wp2_with fail
  go_ret2
  exact ⟨rfl, rfl⟩

set_option maxRecDepth 100000 in
set_option maxHeartbeats 4000000 in
theorem rlog_append_full {w0 w : World} {q r base size M head nxt : Nat} {J : Res} [Stab J] (h : Own w0 w (Sep (RLogR q r base size M head nxt) J)) (v : Value) (xs : List UInt8) (hv : SlN w0 v xs) (hx : xs.length ≤ 32768) (hh : head ≤ nxt) (hn : nxt < 9223372036854775808) (hs : size ≤ 4096) (hf : size < nxt + cntN xs.length - head) :
    Calls Try.prog 23 #[.pointer (some ⟨q, 0, none⟩), v] w fun e w' => e = .returned (.tuple #[.int .u64 0, .int .i64 3]) ∧ Own w0 w' (Sep (RLogR q r base size M head nxt) J) := by
  obtain ⟨vo, vc, rfl, hvc⟩ := hv.2
  have hl : ¬ (32768 : Int) < (xs.length : Int) := by omega
  have hld : decide ((32768 : Int) < (xs.length : Int)) = false := decide_eq_false hl
  have HP0 := Lib.hid (rpieces _ xs w0 w hv hx)
  have hm := cntN_max hx
  obtain ⟨c, hc⟩ : ∃ c, c = cntN xs.length := ⟨_, rfl⟩
  rw [← hc] at hf hm
  have HC := Lib.hid hc
  have H := Lib.hid h
  clear h hv hc hx
  go_enter Try.func23, Try.ntmps23
  go_wp2_with fail
  refine HP0.out.mono ?_
  rintro e w1 ⟨lo, lc, fo, fc, vs, rfl, hp⟩
  rw [← HC.out]
  obtain ⟨F, hF1, hF2, hF3⟩ := hp.own
  have H1 := Lib.hid (H.out.quiet hF3)
  clear hp hF1 hF2 hF3 H HP0
  obtain ⟨_, _, c2, _, c4, c5⟩ := rlog_cells H1.out.held
  obtain ⟨z, hz⟩ : ∃ z : Int, z = ((nxt + c : Nat) : Int) - (head : Int) := ⟨_, rfl⟩
  have e1 : IntKind.u64.wrap (c : Int) = (c : Int) := by rw [IntKind.wrap_u64]; omega
  have e2 : IntKind.u64.wrap ((nxt : Int) + (c : Int)) = (nxt : Int) + (c : Int) := by rw [IntKind.wrap_u64]; omega
  have e3 : IntKind.u64.wrap ((nxt : Int) + (c : Int) - (head : Int)) = z := by rw [IntKind.wrap_u64]; omega
  have e4 : IntKind.u64.wrap (size : Int) = (size : Int) := by rw [IntKind.wrap_u64]; omega
  have e5 : decide ((size : Int) < z) = true := decide_eq_true (by omega)
  go_wp2_with fail
  go_quiet (fail)
  have H2 := Lib.hid (H1.out.drewN nq)
  clear c2 c4 c5
  go_wp2_with fail
  go_ret2
  exact ⟨rfl, H2.out⟩

end Go.Proofs.Ytbimhiffcdhcaaa

namespace Go.Proofs.Ytbimhiffcdhcaaa
open Go Go.RowKit Go.Lib
set_option linter.unusedVariables false
set_option linter.unusedSimpArgs false
set_option maxRecDepth 100000

/-- What Append holds: the log, the disk, the pieces and their flags, and what else there is. -/
abbrev AppR (q r base size M head nxt c : Nat) (D : DS) (lo fo : Option Addr) (lc fc : Nat) (vs fs : List Value) (J : Res) : Res :=
  Sep (RefR r D) (Sep (RLogR q r base size M head nxt) (Sep (RowV 48 1 (.slice lo c lc) c vs) (Sep (RowV 3 1 (.slice fo c fc) c fs) J)))
theorem AppR.cells {w0 w : World} {q r base size M head nxt c k : Nat} {D : DS} {lo fo : Option Addr} {lc fc : Nat} {vs fs : List Value} {J : Res} {u x : Value} (h : Own w0 w (AppR q r base size M head nxt c D lo fo lc fc vs fs J)) (hu : vs[k]? = some u) (hx : fs[k]? = some x) :
    ∃ g1 g2, lo = some ⟨g1, 0, none⟩ ∧ fo = some ⟨g2, 0, none⟩ ∧ w.cell? ⟨g1, k, none⟩ = some u ∧ w.cell? ⟨g2, k, none⟩ = some x ∧ w.heap[q]? = some (rlogO r base size M head nxt) := by
  have h1 := h.snd
  obtain ⟨g1, e1, c1, _⟩ := rowV_cell h1.snd.owns hu
  obtain ⟨g2, e2, c2, _⟩ := rowV_cell h1.snd.snd.owns hx
  exact ⟨g1, g2, e1, e2, c1, c2, h1.held⟩

theorem pad_pad {b : List UInt8} (h : b.length ≤ 64) : pad (pad b) = pad b := by
  have := pad_length h
  show pad b ++ List.replicate (64 - (pad b).length) 0 = pad b
  rw [this]
  simp
theorem write_pad (D : DS) (i : Int) {b : List UInt8} (h : b.length ≤ 64) : D.write i (pad b) = D.write i b ∧ D.wrE i (pad b) = D.wrE i b := by
  have h1 := pad_length h
  have e : decide (64 < (pad b).length) = decide (64 < b.length) := by rw [h1]; simp; omega
  unfold DS.write DS.wrE
  rw [e, pad_pad h]
  exact ⟨rfl, rfl⟩

set_option maxRecDepth 100000 in
set_option maxHeartbeats 8000000 in
theorem rlog_append_go {w0 w : World} {q r base size M head nxt : Nat} {D : DS} {J : Res} [Stab J] (h : Own w0 w (Sep (RLogR q r base size M head nxt) (Sep (RefR r D) J))) (v : Value) (xs : List UInt8) (hv : SlN w0 v xs) (hx : xs.length ≤ 32768) (hh : head ≤ nxt) (hn : nxt ≤ 9223372036854770000) (hs : size ≤ 4096) (hM : M < 4294967296) (h0 : 0 < size) (hlies : base + size ≤ D.n) (h4 : D.n ≤ 4096) (hd : D.down = false)
    (hf : nxt + cntN xs.length - head ≤ size) (hW : D.W.length ≤ 900000) (hwr : D.wr ≤ 900000) :
    Calls Try.prog 23 #[.pointer (some ⟨q, 0, none⟩), v] w fun e w' => e = .returned (.tuple #[.int .u64 (if (D.app base size M nxt xs (cntN xs.length)).down then 0 else nxt : Nat), .int .i64 (appE D base size M nxt xs)]) ∧
      Own w0 w' (Sep (RLogR q r base size M head (if (D.app base size M nxt xs (cntN xs.length)).down then nxt else nxt + cntN xs.length)) (Sep (RefR r (D.app base size M nxt xs (cntN xs.length))) J)) := by
  obtain ⟨vo, vc, rfl, hvc⟩ := hv.2
  have hl : ¬ (32768 : Int) < (xs.length : Int) := by omega
  have hld : decide ((32768 : Int) < (xs.length : Int)) = false := decide_eq_false hl
  have HP0 := Lib.hid (rpieces _ xs w0 w hv hx)
  have hm := cntN_max hx
  have hpos := cntN_pos xs.length
  have HAPP : Hid (appE D base size M nxt xs = bwR (D.app base size M nxt xs (cntN xs.length)).down) := Lib.hid rfl
  obtain ⟨c, hc⟩ : ∃ c, c = cntN xs.length := ⟨_, rfl⟩
  rw [← hc] at hf hm hpos HAPP ⊢
  have HC := Lib.hid hc
  have H := Lib.hid h
  have HM := Lib.hid hM
  have HL := Lib.hid hlies
  have H4 := Lib.hid h4
  have HW := Lib.hid hW
  have HWR := Lib.hid hwr
  have HD := Lib.hid hd
  clear h hv hc hx hM hlies h4 hW hwr hd
  obtain ⟨E, hE⟩ : ∃ E, E = D.app base size M nxt xs c := ⟨_, rfl⟩
  obtain ⟨ee, hee⟩ : ∃ ee, ee = appE D base size M nxt xs := ⟨_, rfl⟩
  rw [← hE, ← hee] at HAPP ⊢
  have HE := Lib.hid hE
  obtain ⟨ra, hra⟩ : ∃ ra : Nat, ra = (if E.down then 0 else nxt) := ⟨_, rfl⟩
  obtain ⟨rn, hrn⟩ : ∃ rn : Nat, rn = (if E.down then nxt else nxt + c) := ⟨_, rfl⟩
  rw [← hra, ← hrn]
  have HRA := Lib.hid hra
  have HRN := Lib.hid hrn
  clear hE hee hra hrn
  go_enter Try.func23, Try.ntmps23
  go_wp2_with fail
  refine HP0.out.mono ?_
  rintro e w1 ⟨lo, lc, fo, fc, vs, rfl, hp⟩
  rw [← HC.out] at hp ⊢
  obtain ⟨F, hF1, hF2, hF3⟩ := hp.own
  have h1 := H.out.fresh hF3 hF1 hF2
  obtain ⟨fs, hfs⟩ : ∃ fs, fs = flagsV (cntN xs.length) c := ⟨_, rfl⟩
  rw [← hfs] at h1
  have H1 : Hid (Own w0 w1 (AppR q r base size M head nxt c D lo fo lc fc vs fs J)) := Lib.hid (h1.ac (J := Sep Emp (AppR q r base size M head nxt c D lo fo lc fc vs fs J)) (by unfold AppR; ac_rfl)).snd
  have HVL := Lib.hid hp.len
  have HVS := Lib.hid hp.sl
  have HFS := Lib.hid hfs
  clear hp hF1 hF2 hF3 H HP0 h1 hfs
  obtain ⟨_, _, c2, _, c4, c5⟩ := rlog_cells H1.out.snd.held
  obtain ⟨z, hz⟩ : ∃ z : Int, z = ((nxt + c : Nat) : Int) - (head : Int) := ⟨_, rfl⟩
  have e1 : IntKind.u64.wrap (c : Int) = (c : Int) := by rw [IntKind.wrap_u64]; omega
  have e2 : IntKind.u64.wrap ((nxt : Int) + (c : Int)) = (nxt : Int) + (c : Int) := by rw [IntKind.wrap_u64]; omega
  have e3 : IntKind.u64.wrap ((nxt : Int) + (c : Int) - (head : Int)) = z := by rw [IntKind.wrap_u64]; omega
  have e4 : IntKind.u64.wrap (size : Int) = (size : Int) := by rw [IntKind.wrap_u64]; omega
  have e5 : decide ((size : Int) < z) = false := decide_eq_false (by omega)
  go_wp2_with fail
  go_quiet (fail)
  have H2 : Hid (Own w0 (w1.drewN nq) (AppR q r base size M head nxt c (D.app base size M nxt xs 0) lo fo lc fc vs fs J)) := Lib.hid (H1.out.drewN nq)
  clear c2 c4 c5 H1 e3 e5 hz
  go_wp2_with fail
  go_loopw [8] (fun i wr => ∃ k : Nat, k ≤ c ∧ i = .int .i64 k ∧ (D.app base size M nxt xs k).down = false ∧ Hid (Own w0 wr (AppR q r base size M head nxt c (D.app base size M nxt xs k) lo fo lc fc vs fs J))) (fun i _ => c - (intOf i).toNat)
  case atStart => exact ⟨0, Nat.zero_le _, rfl, HD.out, H2⟩
  case round =>
    clear H2
    obtain ⟨k, hk, rfl, hdk, HQ⟩ := hrel
    have HDK := Lib.hid hdk
    clear hdk
    by_cases hlt : k < c
    · have hltI : (k : Int) < (c : Int) := by omega
      have hk0 : (0 : Int) ≤ (k : Int) := by omega
      obtain ⟨u, hu⟩ : ∃ u, vs[k]? = some u := ⟨vs[k]'(by rw [HVL.out]; exact hlt), List.getElem?_eq_getElem _⟩
      have hfk : fs[k]? = some (.int .i64 (wFlag c k : Int)) := by rw [HFS.out, ← HC.out]; simp [flagsV, hlt]
      obtain ⟨g1, g2, rfl, rfl, d1, d2, hq⟩ := AppR.cells HQ.out hu hfk
      obtain ⟨b0, b1, b2, b3, b4, b5⟩ := rlog_cells hq
      have hsl : SlC w0 u (pieceN xs k) := by have := HVS.out k hlt; rwa [List.getD_eq_getElem?_getD, hu] at this
      have HSL := Lib.hid hsl
      have HU := Lib.hid hu
      have HFK := Lib.hid hfk
      obtain ⟨sn, hsn⟩ : ∃ sn, sn = nxt + k := ⟨_, rfl⟩
      obtain ⟨rm, hrm⟩ : ∃ rm, rm = sn % size := ⟨_, rfl⟩
      obtain ⟨rg, hrg⟩ : ∃ rg, rg = ringS base size sn := ⟨_, rfl⟩
      have hrl : rg < base + size := by rw [hrg]; exact ring_lt h0 (Nat.le_refl _)
      have hbs : base + size ≤ 4096 := Nat.le_trans HL.out H4.out
      have hre : base + rm = rg := by rw [hrg, hrm]; rfl
      have q1 : IntKind.u64.wrap (k : Int) = (k : Int) := by rw [IntKind.wrap_u64]; omega
      have q2 : IntKind.u64.wrap ((nxt : Int) + (k : Int)) = (sn : Int) := by rw [IntKind.wrap_u64]; omega
      have q4 : (sn : Int).tmod (size : Int) = (rm : Int) := by rw [hrm]; rfl
      have q5 : IntKind.u64.wrap (rm : Int) = (rm : Int) := by rw [IntKind.wrap_u64]; omega
      have q6 : IntKind.i64.wrap (rm : Int) = (rm : Int) := IntWalk.i64_in _ (by omega)
      have q7 : IntKind.i64.wrap ((base : Int) + (rm : Int)) = (rg : Int) := by rw [IntWalk.i64_in _ (by omega)]; omega
      have q8 : ((size : Int) == 0) = false := by simp; omega
      have q9 : ¬ size = 0 := by omega
      have q10 : ¬ (size : Int) = 0 := by omega
      have q11 : sn % size = rm := hrm.symm
      obtain ⟨nk, hnk⟩ : ∃ nk : Int, nk = (sn : Int) := ⟨_, rfl⟩
      have HSN := Lib.hid hsn
      have HRG := Lib.hid hrg
      have HLT := Lib.hid hlt
      have HQd := Lib.hid HQ.out.drew
      have hfew := app_few D base size M nxt xs k
      have HB1 : Hid ((D.app base size M nxt xs k).W.length ≤ 1000000) := Lib.hid (by have := HW.out; omega)
      have HB2 : Hid ((D.app base size M nxt xs k).wr ≤ 1000000) := Lib.hid (by have := HWR.out; omega)
      have hpk : Pc.Ok ⟨M, wFlag c k, pieceN xs k⟩ := by have := wPc_ok (M := M) (xs := xs) (j := k) HM.out; rw [wPc, ← HC.out] at this; exact this
      have hsn64 : sn < 18446744073709551616 := by omega
      have hcall1 := fun (W : World) (hW : Own w0 W (AppR q r base size M head nxt c (D.app base size M nxt xs k) (some ⟨g1, 0, none⟩) (some ⟨g2, 0, none⟩) lc fc vs fs J)) =>
        (rsector sn ⟨M, wFlag c k, pieceN xs k⟩ hsn64 hpk u W (HSL.out.keep hW.only)).mono (R' := fun e w' => ∃ sv, e = .returned sv ∧ Own w0 w' (Sep (RefR r (D.app base size M nxt xs k)) (Sep (OwnB sv (pad (pcB sn (wPc M xs k)))) (Sep (RLogR q r base size M head nxt) (Sep (RowV 48 1 (.slice (some ⟨g1, 0, none⟩) c lc) c vs) (Sep (RowV 3 1 (.slice (some ⟨g2, 0, none⟩) c fc) c fs) J)))))) (by
          rintro e w' ⟨sv, rfl, ho, hon⟩
          refine ⟨sv, rfl, ?_⟩
          have hp64 : (pad (pcB sn (wPc M xs k))).length = 64 := pad_length (by rw [pcB_length]; have := pieceN_length xs k; show 14 + (pieceN xs k).length ≤ 64; omega)
          have hOB : OwnB sv (pad (pcB sn (wPc M xs k))) w' (fun k => sv.ownBlock = some k) := by
            refine ⟨?_, fun _ => Iff.rfl⟩
            rw [hp64]
            have := ho
            rw [show (⟨M, wFlag c k, pieceN xs k⟩ : Pc) = wPc M xs k by rw [wPc, ← HC.out]] at this
            exact own_base this (Nat.zero_le _)
          exact (hW.fresh hon hOB (fun b hb => (ho.lt b hb).1)).swap)
      have hcall2 := fun (W : World) (sv : Value) (hW : Own w0 W (Sep (RefR r (D.app base size M nxt xs k)) (Sep (OwnB sv (pad (pcB sn (wPc M xs k)))) (Sep (RLogR q r base size M head nxt) (Sep (RowV 48 1 (.slice (some ⟨g1, 0, none⟩) c lc) c vs) (Sep (RowV 3 1 (.slice (some ⟨g2, 0, none⟩) c fc) c fs) J)))))) =>
        own_rwrite hW (rg : Int) sv (pad (pcB sn (wPc M xs k))) (fun F B hJ hd' _ _ => OwnB.apart hJ hd') HB1.out HB2.out
      have HC1 := Lib.hid hcall1
      have HC2 := Lib.hid hcall2
      have HSIX : Hid (∀ (W : World), Own w0 W (Sep (RLogR q r base size M head nxt) (Sep (RowV 48 1 (.slice (some ⟨g1, 0, none⟩) c lc) c vs) (Sep (RowV 3 1 (.slice (some ⟨g2, 0, none⟩) c fc) c fs) J))) → W.cell? ⟨q, 0, none⟩ = some (.pointer (some ⟨r, 0, none⟩)) ∧ W.cell? ⟨q, 1, none⟩ = some (.int .i64 base) ∧ W.cell? ⟨q, 2, none⟩ = some (.int .i64 size) ∧ W.cell? ⟨q, 3, none⟩ = some (.int .u32 M) ∧ W.cell? ⟨g1, k, none⟩ = some u ∧ W.cell? ⟨g2, k, none⟩ = some (.int .i64 (wFlag c k : Int))) := Lib.hid (fun W hW => by
        obtain ⟨a0, a1, a2, a3, _⟩ := rlog_cells hW.held
        obtain ⟨x1, y1, z1, _⟩ := rowV_cell hW.snd.owns HU.out
        obtain ⟨x2, y2, z2, _⟩ := rowV_cell hW.snd.snd.owns HFK.out
        simp at y1 y2
        subst y1 y2
        exact ⟨a0, a1, a2, a3, z1, z2⟩)
      obtain ⟨flg, hflg⟩ : ∃ flg : Nat, flg = wFlag c k := ⟨_, rfl⟩
      have HFG := Lib.hid hflg
      clear hcall1 hcall2 hu hfk hsl hsn hrm hrg hfew hpk hq hnk hflg
      go_upto_region 10 with fail
      clear b0 b1 b2 b3 b4 b5 d1 d2
      go_region_held3 (fun w' => w'.cell? ⟨q, 0, none⟩ = some (.pointer (some ⟨r, 0, none⟩)) ∧ w'.cell? ⟨q, 1, none⟩ = some (.int .i64 base) ∧ w'.cell? ⟨q, 2, none⟩ = some (.int .i64 size) ∧ w'.cell? ⟨q, 3, none⟩ = some (.int .u32 M) ∧ w'.cell? ⟨g1, k, none⟩ = some u ∧ w'.cell? ⟨g2, k, none⟩ = some (.int .i64 (wFlag c k : Int)))
        (first
          | exact HSIX.out _ HA2.out.snd.snd
          | exact HSIX.out _ HA1.out.snd.snd
          | exact HSIX.out _ HQd.out.snd)
        (first
          | (go_at_call 42; (with_reducible refine (HC1.out _ HQd.out).mono ?_); rintro e w5 ⟨sv, rfl, ha⟩; have HA1 := Lib.hid ha; clear ha)
          | (go_at_call 31; (with_reducible refine (HC2.out _ _ HA1.out).mono ?_); rintro e w6 ⟨rfl, ha⟩; have HA2 := Lib.hid ha; clear ha))
      clear HC1 HC2 HSIX HQd HA1
      have hl64 : (pcB sn (wPc M xs k)).length ≤ 64 := by rw [pcB_length]; have := pieceN_length xs k; show 14 + (pieceN xs k).length ≤ 64; omega
      have hnext : D.app base size M nxt xs (k + 1) = (D.app base size M nxt xs k).write (rg : Int) (pad (pcB sn (wPc M xs k))) := by
        rw [(write_pad _ _ hl64).1, HRG.out, HSN.out]
        rfl
      have hwh := write_here (D := D.app base size M nxt xs k) (i := (rg : Int)) (b := pcB sn (wPc M xs k)) ⟨by omega, by have := (app_few D base size M nxt xs k).1; have := HL.out; omega⟩ hl64
      rw [← (write_pad _ _ hl64).1, ← (write_pad _ _ hl64).2, ← hnext] at hwh
      have H3 : Hid (Own w0 w6 (AppR q r base size M head nxt c (D.app base size M nxt xs (k + 1)) (some ⟨g1, 0, none⟩) (some ⟨g2, 0, none⟩) lc fc vs fs J)) := Lib.hid (by rw [hnext]; exact HA2.out.drop2)
      obtain ⟨er, her⟩ : ∃ er, er = (D.app base size M nxt xs k).wrE (rg : Int) (pad (pcB sn (wPc M xs k))) := ⟨_, rfl⟩
      rw [← her] at hwh ⊢
      clear HA2 her hnext hl64
      by_cases hlast : (D.app base size M nxt xs k).lastB = true
      · obtain ⟨rfl, hdn⟩ := hwh.1 hlast
        have HDN := Lib.hid hdn
        clear hwh hlast hdn
        go_wp2_with fail
        go_roundw
        case rel => exact ⟨k + 1, HLT.out, by go_num, HDN.out, H3⟩
        case measure => have := HLT.out; simp [intOf]; omega
      · obtain ⟨rfl, hdn⟩ := hwh.2 (by simpa using hlast)
        have hEk : E = D.app base size M nxt xs (k + 1) := by
          have := app_down hdn (c - (k + 1))
          rw [HE.out, ← this]
          congr 1
          have := HLT.out
          omega
        rw [← hEk] at H3 hdn
        have HDN := Lib.hid hdn
        clear hwh hlast hdn hEk
        go_wp2_with fail
        go_ret2
        have x1 := HRA.out
        have x2 := HRN.out
        have x3 := HAPP.out
        rw [HDN.out] at x1 x2 x3
        simp only [if_true] at x1 x2
        refine ⟨?_, ?_⟩
        · rw [x1, x3]; rfl
        · rw [x2]
          exact (H3.out.ac (J := Sep (Sep (RowV 48 1 (.slice (some ⟨g1, 0, none⟩) c lc) c vs) (RowV 3 1 (.slice (some ⟨g2, 0, none⟩) c fc) c fs)) (Sep (RLogR q r base size M head nxt) (Sep (RefR r E) J))) (by unfold AppR; ac_rfl)).snd
    · have hkc : k = c := by omega
      subst hkc
      have hltI : ¬ (k : Int) < (k : Int) := by omega
      have hq := HQ.out.snd.held
      have b5 := (rlog_cells hq).2.2.2.2.2
      have f5 : wr.frozen? ⟨q, 5, none⟩ = false := blk_free hq 5
      have HST := Lib.hid (HQ.out.swap.store 5 (.int .u64 ((nxt : Int) + (k : Int))))
      have hdn := HDK.out
      rw [← HE.out] at hdn
      have HDN := Lib.hid hdn
      clear hq HQ hdn
      go_wp2_with fail
      go_ret2
      have x1 := HRA.out
      have x2 := HRN.out
      have x3 := HAPP.out
      rw [HDN.out] at x1 x2 x3
      simp only [Bool.false_eq_true, if_false] at x1 x2
      refine ⟨?_, ?_⟩
      · rw [x1, x3]; rfl
      · rw [x2]
        have h9 := (HST.out.ac (J := Sep (Sep (RowV 48 1 (.slice lo k lc) k vs) (RowV 3 1 (.slice fo k fc) k fs)) (Sep (RLogR q r base size M head (nxt + k)) (Sep (RefR r (D.app base size M nxt xs k)) J))) (by unfold RLogR rlogO; ac_rfl)).snd
        rw [← HE.out] at h9
        exact h9

end Go.Proofs.Ytbimhiffcdhcaaa

namespace Go.Proofs.Ytbimhiffcdhcaaa
open Go Go.RowKit Go.Lib
set_option linter.unusedVariables false
set_option linter.unusedSimpArgs false
set_option maxRecDepth 100000

abbrev RecT := Nat × Nat × List UInt8
def recCells : List RecT → List Value → List Value
  | x :: rs, v :: vs => .int .u64 x.1 :: .int .u64 x.2.1 :: v :: recCells rs vs
  | _, _ => []
theorem recCells_length : ∀ {rs : List RecT} {vs : List Value}, vs.length = rs.length → (recCells rs vs).length = rs.length * 3
  | [], [], _ => rfl
  | x :: rs, v :: vs, h => by
    have := recCells_length (rs := rs) (vs := vs) (by simpa using h)
    simp [recCells, this]
    omega
  | x :: rs, [], h => by simp at h
  | [], v :: vs, h => by simp at h
theorem recCells_at : ∀ {rs : List RecT} {vs : List Value} {k : Nat}, vs.length = rs.length → k < rs.length →
    (recCells rs vs)[k * 3]? = some (.int .u64 (rs.getD k (0, 0, [])).1) ∧ (recCells rs vs)[k * 3 + 1]? = some (.int .u64 (rs.getD k (0, 0, [])).2.1) ∧ (recCells rs vs)[k * 3 + 2]? = some (vs.getD k (.slice none 0 0))
  | x :: rs, v :: vs, 0, _, _ => ⟨rfl, rfl, rfl⟩
  | x :: rs, v :: vs, k + 1, h, hk => by
    obtain ⟨h1, h2, h3⟩ := recCells_at (rs := rs) (vs := vs) (k := k) (by simpa using h) (by simpa using hk)
    refine ⟨?_, ?_, ?_⟩
    · rw [show (k + 1) * 3 = k * 3 + 1 + 1 + 1 by omega]; simpa [recCells] using h1
    · rw [show (k + 1) * 3 + 1 = k * 3 + 1 + 1 + 1 + 1 by omega]; simpa [recCells] using h2
    · rw [show (k + 1) * 3 + 2 = k * 3 + 2 + 1 + 1 + 1 by omega]; simpa [recCells] using h3
  | [], vs, k, _, hk => by simp at hk
  | x :: rs, [], k, h, _ => by simp at h

def RecsR (t : TypeId) (v : Value) (rs : List RecT) : Res := fun w F => ∃ vs : List Value, vs.length = rs.length ∧ w.ownsRow 0 t 3 v rs.length (recCells rs vs) ∧ (∀ k, v.ownBlock = some k → F k) ∧ (∀ k, F k → k < w.heap.size) ∧
  ∀ j, j < rs.length → SlC w (vs.getD j (.slice none 0 0)) (rs.getD j (0, 0, [])).2.2 ∧ ∀ a m c, vs.getD j (.slice none 0 0) = .slice (some a) m c → (rs.getD j (0, 0, [])).2.2 ≠ [] → F a.block
theorem SlC.at' {w w' : World} {v : Value} {xs : List UInt8} (h : SlC w v xs) (hk : ∀ a m c, v = .slice (some a) m c → xs ≠ [] → w'.heap[a.block]? = w.heap[a.block]?) : SlC w' v xs := by
  rcases h with h | ⟨a, cap, rfl, hc⟩
  · exact .inl h
  · refine .inr ⟨a, cap, rfl, fun j hj => ?_⟩
    have hne : xs ≠ [] := fun e => by rw [e] at hj; simp at hj
    have hb := hk a _ _ rfl hne
    have := hc j hj
    unfold World.cell? at this ⊢
    rw [add_block] at this ⊢
    rw [hb]
    exact this
instance {t : TypeId} {v : Value} {rs : List RecT} : Stab (RecsR t v rs) where
  lt := by
    rintro w F ⟨vs, _, _, _, h, _⟩ k hk
    exact h k hk
  keep := by
    rintro w w' F ⟨vs, h1, h2, h3, h4, h5⟩ hk
    refine ⟨vs, h1, own_keepAt h2 (fun k e => hk k (h3 k e)), h3, fun k hF => ?_, fun j hj => ⟨(h5 j hj).1.at' fun a m c e hne => hk _ ((h5 j hj).2 a m c e hne), (h5 j hj).2⟩⟩
    have := hk k hF
    have hlt := h4 k hF
    rw [Array.getElem?_eq_getElem hlt] at this
    exact lt_of_some this
theorem RecsR.shape {t : TypeId} {w0 w : World} {v : Value} {rs : List RecT} {J : Res} (h : Own w0 w (Sep (RecsR t v rs) J)) : ∃ ao cap, v = .slice ao rs.length cap := by
  obtain ⟨F, ⟨A, B, ⟨vs, _, h2, _⟩, _⟩, _⟩ := h
  exact own_shapeN h2
theorem rec_cells {t : TypeId} {w0 w : World} {ao : Option Addr} {n cap : Nat} {rs : List RecT} {J : Res} (hn : n = rs.length) (h : Own w0 w (Sep (RecsR t (.slice ao n cap) rs) J)) {k : Nat} (hk : k < rs.length) :
    ∃ g dv, ao = some ⟨g, 0, none⟩ ∧ w.cell? ⟨g, k * 3, none⟩ = some (.int .u64 (rs.getD k (0, 0, [])).1) ∧ w.cell? ⟨g, k * 3 + 1, none⟩ = some (.int .u64 (rs.getD k (0, 0, [])).2.1) ∧ w.cell? ⟨g, k * 3 + 2, none⟩ = some dv ∧ SlC w dv (rs.getD k (0, 0, [])).2.2 := by
  subst hn
  obtain ⟨F, ⟨A, B, ⟨vs, h1, h2, h3, h4, h5⟩, _⟩, _⟩ := h
  obtain ⟨c0, c1, c2⟩ := recCells_at h1 hk
  obtain ⟨g, e0, d0, _⟩ := rowV_cell h2 c0
  obtain ⟨g', e1, d1, _⟩ := rowV_cell h2 c1
  obtain ⟨g'', e2, d2, _⟩ := rowV_cell h2 c2
  subst e0
  simp at e1 e2
  subst e1 e2
  exact ⟨g, _, rfl, d0, d1, d2, (h5 k hk).1⟩

end Go.Proofs.Ytbimhiffcdhcaaa

namespace Go.Proofs.Ytbimhiffcdhcaaa
open Go Go.RowKit Go.Lib
set_option linter.unusedVariables false
set_option linter.unusedSimpArgs false
set_option maxRecDepth 100000

set_option maxHeartbeats 400000 in
theorem rawBytes (a b : Value) (xs : List UInt8) (w : World) (ha : SlC w a xs) (hb : SlC w b xs) :
    Calls Try.prog 36 #[a, b] w fun e w' => e = .returned (.bool true) ∧ w = w' := by
  have hca := run_strC ha
  have hcb := run_strC hb
  obtain ⟨ao, ac, rfl⟩ := ha.shape
  obtain ⟨bo, bc, rfl⟩ := hb.shape
  clear ha hb
  go_enter Try.func36, Try.ntmps36
  go_wp2
  go_ret
  exact ⟨rfl, rfl⟩

theorem quiet_bytes (a b : Value) (xs : List UInt8) (w : World) (ha : SlC w a xs) (hb : SlC w b xs) (q : Nat) :
    Calls Try.prog 36 #[a, b] (w.drewN q) fun e w' => e = .returned (.bool true) ∧ ∃ n, w' = (w.drewN q).drewN n := by
  refine (rawBytes a b xs (w.drewN q) (ha.keep ((Only.refl _ w).drewN q)) (hb.keep ((Only.refl _ w).drewN q))).mono ?_
  rintro e w' ⟨rfl, rfl⟩
  exact ⟨rfl, 0, rfl⟩

set_option maxRecDepth 100000 in
set_option maxHeartbeats 4000000 in
theorem wsame_any {w0 w : World} {v1 v2 : Value} {rs : List RecT} {J : Res} [Stab J] (h : Own w0 w (Sep (RecsR 68 v1 rs) (Sep (RecsR 88 v2 rs) J))) (hl : rs.length ≤ 4096) :
    Calls Try.prog 16 #[v1, v2] w fun e w' => e = .returned (.bool true) ∧ Own w0 w' (Sep (RecsR 68 v1 rs) (Sep (RecsR 88 v2 rs) J)) := by
  obtain ⟨o1, c1, rfl⟩ := RecsR.shape h
  obtain ⟨o2, c2, rfl⟩ := RecsR.shape h.snd
  obtain ⟨m, hm⟩ : ∃ m, m = rs.length := ⟨_, rfl⟩
  have H : Hid (Own w0 w (Sep (RecsR 68 (.slice o1 m c1) rs) (Sep (RecsR 88 (.slice o2 m c2) rs) J))) := Lib.hid (by rw [hm]; exact h)
  suffices hh : Calls Try.prog 16 #[.slice o1 m c1, .slice o2 m c2] w fun e w' => e = .returned (.bool true) ∧ Own w0 w' (Sep (RecsR 68 (.slice o1 m c1) rs) (Sep (RecsR 88 (.slice o2 m c2) rs) J)) by
    rw [hm] at hh; exact hh
  rw [← hm] at hl
  have HM := Lib.hid hm
  clear h hm
  have hmm : ((m : Int) != (m : Int)) = false := by simp
  go_enter Try.func16, Try.ntmps16
  go_wp2_with fail
  clear hmm
  go_loopw [5] (fun i wr => ∃ k : Nat, k ≤ m ∧ i = .int .i64 k ∧ Hid (Own w0 wr (Sep (RecsR 68 (.slice o1 m c1) rs) (Sep (RecsR 88 (.slice o2 m c2) rs) J)))) (fun i _ => m - (intOf i).toNat)
  case atStart => exact ⟨0, Nat.zero_le _, rfl, H⟩
  case round =>
    clear H
    obtain ⟨k, hk, rfl, HP⟩ := hrel
    by_cases hlt : k < m
    · have hltI : (k : Int) < (m : Int) := by omega
      have hk0 : (0 : Int) ≤ (k : Int) := by omega
      obtain ⟨g1, a1, rfl, d1, d2, d3, s1⟩ := rec_cells HM.out HP.out (k := k) (by rw [← HM.out]; exact hlt)
      obtain ⟨g2, a2, rfl, d4, d5, d6, s2⟩ := rec_cells HM.out HP.out.snd (k := k) (by rw [← HM.out]; exact hlt)
      obtain ⟨u, hu⟩ : ∃ u : Int, u = ((rs.getD k (0, 0, [])).1 : Int) := ⟨_, rfl⟩
      obtain ⟨x, hx⟩ : ∃ x : Int, x = ((rs.getD k (0, 0, [])).2.1 : Int) := ⟨_, rfl⟩
      rw [← hu] at d1 d4
      rw [← hx] at d2 d5
      have HC := Lib.hid (quiet_bytes a1 a2 _ wr s1 s2)
      clear hu hx s1 s2
      have huu : (u != u) = false := by simp
      have hxx : (x != x) = false := by simp
      go_wp2_with fail
      go_quiet ((go_at_call 36; exact Calls.quiet_of (HC.out _)))
      have HQ := Lib.hid (HP.out.drewN nq)
      clear d1 d2 d3 d4 d5 d6 huu hxx HC
      go_wp2_with fail
      go_roundw
      case rel => exact ⟨k + 1, by omega, by go_num, HQ⟩
      case measure => simp [intOf]; omega
    · have hltI : ¬ (k : Int) < (m : Int) := by omega
      go_wp2_with fail
      go_ret
      exact ⟨rfl, HP.out⟩

end Go.Proofs.Ytbimhiffcdhcaaa

namespace Go.Proofs.Ytbimhiffcdhcaaa
open Go Go.RowKit Go.Lib
set_option linter.unusedVariables false
set_option linter.unusedSimpArgs false
set_option maxRecDepth 100000

theorem formN_iff (f n : Nat) : formN f n = true ↔ f ≤ 3 ∧ (2 ≤ f ∨ n = 50) ∧ n ≤ 50 ∧ (f = 3 ∨ 0 < n) := by simp [formN, and_assoc]
theorem form_eq (x : Pc) : x.form = formN x.f x.d.length := rfl
theorem secPc_f (b : List UInt8) : (secPc b).f = wF b := rfl
theorem secPc_d (b : List UInt8) : (secPc b).d = (b.drop 14).take (wN b) := rfl
theorem secPc_ok {b : List UInt8} (h : (secPc b).d.length ≤ 50) : (secPc b).Ok :=
  ⟨by have := numB_le 4 ((b.drop 8).take 4) (by simp; omega); exact this, by have := numB_le 1 ((b.drop 12).take 1) (by simp; omega); exact this, h⟩

theorem pad_parts (s : Nat) (x : Pc) (h : x.Ok) : wN (pad (pcB s x)) = x.d.length ∧ (pad (pcB s x)).drop (14 + x.d.length) = List.replicate (50 - x.d.length) 0 := by
  rw [pcB_pad]
  obtain ⟨m, f, d⟩ := x
  obtain ⟨h1, h2, h3⟩ := h
  simp only at h1 h2 h3 ⊢
  have e8 : ∀ r : List UInt8, (beB 8 s ++ r).drop 8 = r := fun r => drop_l (beB_length 8 s)
  have e12 : ∀ r : List UInt8, (beB 8 s ++ (beB 4 m ++ r)).drop 12 = r := fun r => by
    rw [show (12 : Nat) = 8 + 4 from rfl, ← List.drop_drop, e8]; exact drop_l (beB_length 4 m)
  have e13 : ∀ r : List UInt8, (beB 8 s ++ (beB 4 m ++ (beB 1 f ++ r))).drop 13 = r := fun r => by
    rw [show (13 : Nat) = 12 + 1 from rfl, ← List.drop_drop, e12]; exact drop_l (beB_length 1 f)
  have e14 : ∀ r : List UInt8, (beB 8 s ++ (beB 4 m ++ (beB 1 f ++ (beB 1 d.length ++ r)))).drop 14 = r := fun r => by
    rw [show (14 : Nat) = 13 + 1 from rfl, ← List.drop_drop, e13]; exact drop_l (beB_length 1 _)
  constructor
  · unfold wN
    rw [e13, take_l (beB_length 1 d.length), numB_be' _ _ (by omega)]
  · rw [← List.drop_drop, e14, drop_l rfl]
theorem zerosB_rep (n : Nat) : zerosB (List.replicate n 0) = true := by simp [zerosB]

theorem take_parts (b : List UInt8) (n : Nat) : b = b.take 8 ++ ((b.drop 8).take 4 ++ ((b.drop 12).take 1 ++ ((b.drop 13).take 1 ++ ((b.drop 14).take n ++ b.drop (14 + n))))) := by
  have e (i k : Nat) : (b.drop i).take k ++ b.drop (i + k) = b.drop i := by rw [← List.drop_drop]; exact List.take_append_drop k _
  rw [e 14 n, e 13 1, e 12 1, e 8 4]
  exact (List.take_append_drop 8 b).symm

theorem tk_some {sn : Nat} {b : List UInt8} (hs : sn < 18446744073709551616) (hb : b.length = 64) (h : tkOk sn b = true) : rdP sn b = some (secPc b) ∧ (secPc b).form = true := by
  simp only [tkOk, Bool.and_eq_true, decide_eq_true_eq] at h
  obtain ⟨⟨h1, h2⟩, h3⟩ := h
  have h4 := (formN_iff _ _).1 h2
  have hd : (secPc b).d.length = wN b := by rw [secPc_d]; simp; omega
  have hz : b.drop (14 + wN b) = List.replicate (50 - wN b) 0 := by
    apply List.eq_replicate_iff.2
    refine ⟨by simp; omega, fun c hc => ?_⟩
    have := List.all_eq_true.1 h3 c hc
    simpa using this
  refine ⟨?_, by rw [form_eq, hd]; exact h2⟩
  unfold rdP
  refine if_pos ⟨hs, by rw [hd]; exact h4.2.2.1, ?_⟩
  rw [pcB_pad, hd]
  have k8 : beB 8 sn = b.take 8 := by rw [← h1]; exact beB_numB 8 _ (by simp; omega)
  have k4 : beB 4 (secPc b).m = (b.drop 8).take 4 := beB_numB 4 _ (by simp; omega)
  have k1 : beB 1 (secPc b).f = (b.drop 12).take 1 := beB_numB 1 _ (by simp; omega)
  have kn : beB 1 (wN b) = (b.drop 13).take 1 := beB_numB 1 _ (by simp; omega)
  rw [k8, k4, k1, kn, secPc_d, ← hz]
  exact take_parts b (wN b)
theorem tk_none {sn : Nat} {b : List UInt8} (h : tkOk sn b = false) {x : Pc} (hx : rdP sn b = some x) : x.form = false := by
  have hn := rdP_num hx
  unfold rdP at hx
  by_cases hc : sn < 18446744073709551616 ∧ (secPc b).d.length ≤ 50 ∧ b = pad (pcB sn (secPc b))
  · rw [if_pos hc] at hx
    simp at hx
    obtain ⟨_, h2, h3⟩ := hc
    have hok := secPc_ok h2
    obtain ⟨p1, p2⟩ := pad_parts sn (secPc b) hok
    rw [← h3] at p1 p2
    cases hf : x.form with
    | false => rfl
    | true =>
      rw [← hx, form_eq, secPc_f] at hf
      have : tkOk sn b = true := by
        simp only [tkOk, Bool.and_eq_true, decide_eq_true_eq]
        refine ⟨⟨hn.2, by rw [p1]; exact hf⟩, ?_⟩
        rw [p1, p2]
        exact zerosB_rep _
      rw [this] at h
      cases h
  · rw [if_neg hc] at hx; cases hx

/-- A piece is right, in the order in which the code asks. -/
theorem fits_step {x : Pc} {last mount most : Nat} {b : Bool} (hm : most = if b then mount else last) (hl : last ≤ mount) (hf : x.form = true) :
    x.fits last mount b = (decide (last ≤ x.m) && decide (x.m ≤ most) && (decide (x.f % 2 = 1) == b)) := by
  have h := (formN_iff _ _).1 hf
  subst hm
  have e : x.fits last mount b = true ↔ (decide (last ≤ x.m) && decide (x.m ≤ (if b then mount else last)) && (decide (x.f % 2 = 1) == b)) = true := by
    rw [Pc.fits_iff]
    simp only [Bool.and_eq_true, decide_eq_true_eq, beq_iff_eq]
    cases b
    · simp only [Bool.false_eq_true, if_false, false_or, decide_eq_false_iff_not, iff_false]
      constructor
      · rintro ⟨a1, a2, a3, a4, a5, _⟩; exact ⟨⟨a1, by omega⟩, a5⟩
      · rintro ⟨⟨a1, a2⟩, a3⟩; exact ⟨a1, by omega, by omega, h.1, a3, h.2.1, h.2.2.1, h.2.2.2⟩
    · simp only [if_true, true_or, true_and, decide_eq_true_eq, iff_true]
      constructor
      · rintro ⟨a1, a2, a4, a5, _⟩; exact ⟨⟨a1, a2⟩, a5⟩
      · rintro ⟨⟨a1, a2⟩, a3⟩; exact ⟨a1, a2, h.1, a3, h.2.1, h.2.2.1, h.2.2.2⟩
  exact Bool.eq_iff_iff.2 e
theorem fits_form {x : Pc} {last mount : Nat} {b : Bool} (hf : x.form = false) : x.fits last mount b = false := by
  cases h : x.fits last mount b with
  | false => rfl
  | true =>
    obtain ⟨_, _, _, h4, _, h6, h7, h8⟩ := Pc.fits_iff.1 h
    have := (formN_iff x.f x.d.length).2 ⟨h4, h6, h7, h8⟩
    rw [form_eq, this] at hf
    cases hf

/-- append of bytes onto a slice of one's own. -/
theorem wp_moreO {ops : Array Oper} {rest : List Oper} {o : Oper} {a : Act} {Q : Exit → Act → World → Prop} {w0 w : World} {v : Value} {ys : List UInt8} {J : Res} [Stab J] (hO : Own w0 w (Sep (OwnB v ys) J)) (u : Value) (xs : List UInt8) (hC : SlC w u xs) (hlen : ys.length + xs.length ≤ 140737488355328)
    (hcase : v = .slice none 0 0 ∨ 0 < xs.length)
    (hgd : o.guard = none) (s x : Operand) (ho : o.op = .call { callee := .builtin .append, args := #[s, x], argTypes := #[48, 48] })
    (hs : a.eval s = v) (hx : a.eval x = u) (m : Nat) (hm : (ys ++ xs).length = m)
    (h : ∀ ao cap w', Hid (Own w0 w' (Sep (OwnB (.slice ao m cap) (ys ++ xs)) J)) → wpList Try.prog ops Q rest (a.put o.dst (.slice ao m cap)) w') :
    wpList Try.prog ops Q (o :: rest) a w := by
  subst hm
  have hown : w.ownsRow 0 5 1 v ys.length (u8s ys) := Own.owns (e := 5) (size := 1) (v := v) (n := ys.length) (xs := u8s ys) hO
  obtain ⟨i0, hi, hz0, hz1, hz2⟩ := info_parts Try.infoU8
  rcases hC with ⟨rfl, rfl⟩ | ⟨ad, cap, rfl, hc⟩
  · obtain ⟨ao, cap, rfl⟩ := own_shape hown
    refine wpList_append_own_none hgd s x 48 ho 0 5 i0 1 Try.underlying48 hi _ ys.length (u8s ys) hs hown hx ?_
    have h1 := h ao cap w
    rw [List.append_nil] at h1
    exact h1 (Lib.hid hO)
  · have hnews : ∀ j u, (u8s xs)[j]? = some u → w.cell? (ad.add j) = some u := by
      intro j u hu
      obtain ⟨hj, rfl⟩ := u8s_get hu
      exact hc j hj
    by_cases hp : 0 < xs.length
    · refine wpList_append_lies _ hgd s x 48 ho 0 5 i0 (.int .u8 0) 1 1 Try.underlying48 hi hz0 hz1 hz2 rfl (by decide) v ys.length (u8s ys) hs hown ad xs.length cap (u8s xs) hx (by rw [u8s_length, Nat.mul_one]) hnews (u8s_oneCell xs) hp (by unfold maxLen; omega) (by omega) (Nat.zero_le _) w.heap.size rfl ?_
      intro g cap' w1 hown' hgrow hat _
      rw [← u8s_append] at hown'
      have h5 := Own.appended (e := 5) (size := 1) (v := v) (n := ys.length) (xs := u8s ys) hO hown' hgrow (hat.imp (fun h => h) (fun h => by omega))
      have h1 := h (some ⟨g, 0, none⟩) cap' w1
      rw [List.length_append] at h1
      refine h1 (Lib.hid ?_)
      show Own w0 w1 (Sep (RowV 5 1 (.slice (some ⟨g, 0, none⟩) (ys.length + xs.length) cap') (ys ++ xs).length (u8s (ys ++ xs))) J)
      rw [List.length_append]
      exact h5
    · have hv := hcase.resolve_right hp
      subst hv
      obtain ⟨ao, cp, e⟩ := own_shape hown
      simp at e
      have hy : ys = [] := List.eq_nil_of_length_eq_zero (by omega)
      subst hy
      refine wpList_append_own _ hgd s x 48 ho w.heap.size 5 i0 (.int .u8 0) 1 1 Try.underlying48 hi hz0 hz1 hz2 rfl (by decide) (.slice none 0 0) 0 [] hs (World.ownsRow_nil _ _ _ _) ad xs.length cap (u8s xs) hx (by rw [u8s_length, Nat.mul_one]) hnews (u8s_oneCell xs) (by unfold maxLen; omega) (by simp at hlen; omega) (Nat.le_refl _) ?_
      intro v' w1 hown' hg _
      simp only [Nat.zero_add, List.nil_append] at hown'
      obtain ⟨ao', cap', rfl⟩ := own_shape hown'
      have ho : Only (fun _ => False) w w1 := (Only.refl _ w).grown hg (fun k _ e => by cases e)
      have h1 := h ao' cap' w1
      simp only [List.nil_append, Nat.zero_add] at h1
      refine h1 (Lib.hid (hO.snd.fresh ho (B := fun k => (Value.slice ao' xs.length cap').ownBlock = some k) ⟨own_base hown' (Nat.zero_le _), fun _ => Iff.rfl⟩ (fun k hk => (hown'.lt k hk).1)))

end Go.Proofs.Ytbimhiffcdhcaaa

namespace Go.Proofs.Ytbimhiffcdhcaaa
open Go Go.RowKit Go.Lib
set_option linter.unusedVariables false
set_option linter.unusedSimpArgs false
set_option maxRecDepth 100000

abbrev recV (a t : Nat) (dv : Value) : Value := .agg #[.int .u64 a, .int .u64 t, dv]
abbrev recO (a t : Nat) (dv : Value) : Obj := .cells #[.int .u64 a, .int .u64 t, dv] 68 (0, 0)
/-- What record holds. -/
abbrev RcR (rb rs fr t : Nat) (dv : Value) (data : List UInt8) (I : Res) : Res := Sep (Blk rb (.cells #[.int .u64 fr, .int .u64 t, dv] 68 (0, 0))) (Sep (Blk rs (.cells #[.int .u64 0, .int .u64 0, .slice none 0 0] 68 (0, 0))) (Sep (OwnB dv data) I))
def RecPost (w0 : World) (fr : Nat) (r : Option (Nat × Nat × List UInt8)) (I : Res) (e : Ending) (w' : World) : Prop :=
  match r with
  | none => e = .returned (.tuple #[recV 0 0 (.slice none 0 0), .int .u32 0, .bool false]) ∧ Own w0 w' I
  | some (m, t, xs) => ∃ dv, e = .returned (.tuple #[recV fr t dv, .int .u32 m, .bool true]) ∧ Own w0 w' (Sep (OwnB dv xs) I)
theorem blk_cells3 {w : World} {k : Nat} {t : TypeId} {a0 a1 a2 : Value} (h : w.heap[k]? = some (.cells #[a0, a1, a2] t (0, 0))) :
    w.cell? ⟨k, 0, none⟩ = some a0 ∧ w.cell? ⟨k, 1, none⟩ = some a1 ∧ w.cell? ⟨k, 2, none⟩ = some a2 ∧
    w.frozen? ⟨k, 0, none⟩ = false ∧ w.frozen? ⟨k, 1, none⟩ = false ∧ w.frozen? ⟨k, 2, none⟩ = false :=
  ⟨blk_cell h 0 rfl, blk_cell h 1 rfl, blk_cell h 2 rfl, blk_free h 0, blk_free h 1, blk_free h 2⟩
theorem Own.store3 {w0 w : World} {k : Nat} {t : TypeId} {a0 a1 a2 : Value} {J : Res} [Stab J] (h : Own w0 w (Sep (Blk k (.cells #[a0, a1, a2] t (0, 0))) J)) (u0 u1 u2 : Value) :
    Own w0 (((w.setCell ⟨k, 0, none⟩ u0).setCell ⟨k, 1, none⟩ u1).setCell ⟨k, 2, none⟩ u2) (Sep (Blk k (.cells #[u0, u1, u2] t (0, 0))) J) :=
  ((h.store 0 u0).store 1 u1).store 2 u2
/-- The zero record is answered. -/
theorem RcR.zero {w0 w : World} {rb rs fr t : Nat} {dv : Value} {data : List UInt8} {I : Res} [Stab I] (h : Own w0 w (RcR rb rs fr t dv data I)) (u0 u1 u2 : Value) :
    Own w0 (((w.setCell ⟨rs, 0, none⟩ u0).setCell ⟨rs, 1, none⟩ u1).setCell ⟨rs, 2, none⟩ u2) (Sep (OwnB dv data) I) := (Own.store3 h.snd u0 u1 u2).snd
theorem RcR.cells {w0 w : World} {rb rs fr t : Nat} {dv : Value} {data : List UInt8} {I : Res} (h : Own w0 w (RcR rb rs fr t dv data I)) :
    w.heap[rb]? = some (.cells #[.int .u64 fr, .int .u64 t, dv] 68 (0, 0)) ∧ w.heap[rs]? = some (.cells #[.int .u64 0, .int .u64 0, .slice none 0 0] 68 (0, 0)) := ⟨h.held, h.snd.held⟩
def toOf : Option Value → Nat
  | some (.int _ n) => n.toNat
  | _ => 0

section
variable {N : List UInt8} {base size M n s last most : Nat} {b : Bool} {data xs : List UInt8} {m f : Nat}
theorem rec_gone (h : tkOk s (sec N (ringS base size s)) = false) : wOne (lookP N base size) M (n + 1) s last b data = none := by
  rw [wOne_succ]
  unfold lookP
  cases hx : rdP s (sec N (ringS base size s)) with
  | none => rfl
  | some x => simp only; rw [if_neg (by rw [fits_form (tk_none h hx)]; simp)]
theorem rec_is (hs : s < 18446744073709551616) (hb : (sec N (ringS base size s)).length = 64) (h : tkOk s (sec N (ringS base size s)) = true) (hx : (⟨m, f, xs⟩ : Pc) = secPc (sec N (ringS base size s))) :
    lookP N base size s = some ⟨m, f, xs⟩ ∧ (⟨m, f, xs⟩ : Pc).form = true := by
  obtain ⟨h1, h2⟩ := tk_some hs hb h
  rw [hx]
  exact ⟨h1, h2⟩
theorem rec_unfit (h : lookP N base size s = some ⟨m, f, xs⟩ ∧ (⟨m, f, xs⟩ : Pc).form = true) (hm : most = if b then M else last) (hl : last ≤ M) (hc : (decide (last ≤ m) && decide (m ≤ most) && (decide (f % 2 = 1) == b)) = false) :
    wOne (lookP N base size) M (n + 1) s last b data = none := by
  rw [wOne_succ, h.1]
  simp only
  rw [if_neg (by rw [fits_step hm hl h.2]; simp only; rw [hc]; simp)]
theorem rec_last (h : lookP N base size s = some ⟨m, f, xs⟩ ∧ (⟨m, f, xs⟩ : Pc).form = true) (hm : most = if b then M else last) (hl : last ≤ M) (hc : (decide (last ≤ m) && decide (m ≤ most) && (decide (f % 2 = 1) == b)) = true) (h2 : 2 ≤ f) (hd : (data ++ xs).length ≤ 32768) :
    wOne (lookP N base size) M (n + 1) s last b data = some (m, s + 1, data ++ xs) := by
  rw [wOne_succ, h.1]
  simp only
  rw [if_pos (by rw [fits_step hm hl h.2]; exact hc), if_pos h2, if_pos hd]
theorem rec_more (h : lookP N base size s = some ⟨m, f, xs⟩ ∧ (⟨m, f, xs⟩ : Pc).form = true) (hm : most = if b then M else last) (hl : last ≤ M) (hc : (decide (last ≤ m) && decide (m ≤ most) && (decide (f % 2 = 1) == b)) = true) (h2 : ¬ 2 ≤ f) :
    wOne (lookP N base size) M (n + 1) s last b data = wOne (lookP N base size) M n (s + 1) m false (data ++ xs) := by
  rw [wOne_succ, h.1]
  simp only
  rw [if_pos (by rw [fits_step hm hl h.2]; exact hc), if_neg h2]
end

set_option maxRecDepth 100000 in
set_option maxHeartbeats 8000000 in
theorem own_record {w0 w : World} {q p base size M head nxt : Nat} {D : DS} {J : Res} [Stab J] (h : Own w0 w (Sep (WLogR q p base size M head nxt) (Sep (DiskR p D) J))) (fr least : Nat) (hf : head ≤ fr) (hf2 : fr ≤ head + size) (hnum : head + size < 9223372036854775808) (h655 : size ≤ 655) (h0 : 0 < size) (hl : base + size ≤ D.n) (h4 : D.n ≤ 4096) (hlm : least ≤ M) :
    Calls Try.prog 50 #[.pointer (some ⟨q, 0, none⟩), .int .u64 fr, .int .u32 least] w
      (RecPost w0 fr (wOne (lookP D.N base size) M (head + size - fr) fr least true []) (Sep (WLogR q p base size M head nxt) (Sep (DiskR p D) J))) := by
  have hNl : D.N.length = D.n * 64 := by obtain ⟨gn, gk, vw, hD⟩ := h.snd.disk; exact hD.ok.N
  have HSEC : Hid (∀ s, (sec D.N (ringS base size s)).length = 64) := Lib.hid fun s => sec_length hNl (ring_lt h0 hl)
  have h655I : (size : Int) ≤ 655 := by omega
  have HTAKE : Hid (∀ (W : World) (K : Res) [Stab K] (t : Nat), t < 18446744073709551616 → Own w0 W (Sep (WLogR q p base size M head nxt) (Sep (DiskR p D) K)) →
      Calls Try.prog 57 #[.pointer (some ⟨q, 0, none⟩), .int .u64 t] W (TkPost w0 t (sec D.N (ringS base size t)) (Sep (WLogR q p base size M head nxt) (Sep (DiskR p D) K)))) := Lib.hid fun W K _ t ht hW => own_take hW t ht h0 hl h4
  obtain ⟨rs, hrs⟩ : ∃ rs, rs = w.heap.size := ⟨_, rfl⟩
  obtain ⟨R, hR⟩ : ∃ R, R = wOne (lookP D.N base size) M (head + size - fr) fr least true [] := ⟨_, rfl⟩
  rw [← hR]
  have h1 := (h.alloc (.cells #[.int .u64 0, .int .u64 0, .slice none 0 0] 68 (0, 0))).alloc (.cells #[.int .u64 fr, .int .u64 fr, .slice none 0 0] 68 (0, 0))
  rw [← hrs] at h1
  have hsz : (w.alloc (.cells #[.int .u64 0, .int .u64 0, .slice none 0 0] 68 (0, 0))).heap.size = rs + 1 := by simp [hrs]
  rw [hsz] at h1
  obtain ⟨rb, hrb⟩ : ∃ rb, rb = rs + 1 := ⟨_, rfl⟩
  rw [← hrb] at h1
  have H1 : Hid (Own w0 ((w.alloc (.cells #[.int .u64 0, .int .u64 0, .slice none 0 0] 68 (0, 0))).alloc (.cells #[.int .u64 fr, .int .u64 fr, .slice none 0 0] 68 (0, 0))) (RcR rb rs fr fr (.slice none 0 0) [] (Sep (WLogR q p base size M head nxt) (Sep (DiskR p D) J)))) := Lib.hid (h1.ownB_nil.ac (by unfold RcR; ac_rfl))
  have HRS := Lib.hid hrs
  have HRB := Lib.hid hrb
  have HR := Lib.hid hR
  obtain ⟨W1, hW1⟩ : ∃ W1, W1 = (w.alloc (.cells #[.int .u64 0, .int .u64 0, .slice none 0 0] 68)).alloc (.cells #[.int .u64 fr, .int .u64 fr, .slice none 0 0] 68) := ⟨_, rfl⟩
  have H2 : Hid (Own w0 W1 (RcR rb rs fr fr (.slice none 0 0) [] (Sep (WLogR q p base size M head nxt) (Sep (DiskR p D) J)))) := Lib.hid (by rw [hW1]; exact H1.out)
  have HW1 := Lib.hid hW1
  have HLM := Lib.hid hlm
  have HF := Lib.hid hf
  have HF2 := Lib.hid hf2
  have HNUM := Lib.hid hnum
  have H655 := Lib.hid h655
  obtain ⟨_, _, _, l3, _, _⟩ := wlog_cells H2.out.snd.snd.snd.held
  clear h h1 hsz hrs hrb hR hW1 H1 hNl hl h4 hlm hf hf2 hnum
  go_enter Try.func50, Try.ntmps50
  go_upto_region 2 with fail
  rw [← HW1.out, ← HRS.out]
  rw [show (rs + 1 : Nat) = rb from HRB.out.symm]
  go_wp2_with fail
  clear l3
  go_loopw [2, 10] (fun lv mv wr => ∃ (t last most : Nat) (dv : Value) (data : List UInt8), lv = .int .u32 last ∧ mv = .int .u32 most ∧
      Hid (fr ≤ t ∧ t ≤ head + size ∧ (most = if decide (t = fr) then M else last) ∧ last ≤ M ∧ data.length ≤ 50 * (t - fr) ∧ (t = fr → dv = .slice none 0 0 ∧ data = []) ∧ R = wOne (lookP D.N base size) M (head + size - t) t last (decide (t = fr)) data) ∧
      Hid (Own w0 wr (RcR rb rs fr t dv data (Sep (WLogR q p base size M head nxt) (Sep (DiskR p D) J))))) (fun _ _ wr => head + size - toOf (wr.cell? ⟨rb, 1, none⟩))
  case atStart => exact ⟨fr, least, M, .slice none 0 0, [], rfl, rfl, Lib.hid ⟨Nat.le_refl _, HF2.out, by simp, HLM.out, by simp, fun _ => ⟨rfl, rfl⟩, by rw [HR.out]; simp⟩, H2⟩
  case round =>
    clear H2
    obtain ⟨t, last, most, dv, data, rfl, rfl, HI, HQ⟩ := hrel
    obtain ⟨hi1, hi2, hi3, hi4, hi5, hi6, hi7⟩ := HI.out
    have hh := HQ.out.snd.snd.snd.held
    obtain ⟨_, _, l2, l3, l4, _⟩ := wlog_cells hh
    obtain ⟨c0, c1, c2, g0, g1, g2⟩ := blk_cells3 (RcR.cells HQ.out).1
    have hto : toOf (wr.cell? ⟨rb, 1, none⟩) = t := by rw [c1]; simp [toOf]
    have HTO := Lib.hid hto
    obtain ⟨dvo, dvc, hdv⟩ : ∃ ao cap, dv = .slice ao data.length cap := by
      obtain ⟨F, ⟨A, B, hA, _⟩, _⟩ := HQ.out.snd.snd
      exact own_shapeN hA.1
    obtain ⟨dl, hdl⟩ : ∃ dl, dl = data.length := ⟨_, rfl⟩
    rw [← hdl] at hdv
    subst hdv
    have HDL := Lib.hid hdl
    have hhf := HF.out
    have hnum := HNUM.out
    obtain ⟨z, hz⟩ : ∃ z : Int, z = (t : Int) - (head : Int) := ⟨_, rfl⟩
    have e1 : IntKind.u64.wrap ((t : Int) - (head : Int)) = z := by rw [IntKind.wrap_u64]; omega
    have e2 : IntKind.u64.wrap (size : Int) = (size : Int) := by rw [IntKind.wrap_u64]; omega
    have HI1 := Lib.hid hi1
    have HI2 := Lib.hid hi2
    have HI3 := Lib.hid hi3
    have HI4 := Lib.hid hi4
    have HI5 := Lib.hid hi5
    have HI6 := Lib.hid hi6
    have HI7 := Lib.hid hi7
    clear hto hdl hh hi3 hi4 hi5 hi6 hi7 HI
    by_cases hlt : t < head + size
    · have hzl : z < (size : Int) := by omega
      have hzB : decide (z < (size : Int)) = true := decide_eq_true hzl
      have ht1 : t + 1 < 9223372036854775808 := by omega
      have HT1 := Lib.hid ht1
      have HLT := Lib.hid hlt
      obtain ⟨n, hn⟩ : ∃ n, head + size - t = n + 1 := ⟨head + size - t - 1, by omega⟩
      have HNN := Lib.hid hn
      clear hlt hn hi1 hi2 hz hhf hnum ht1
      go_wp2_with fail
      go_quiet (fail)
      have HQ2 := Lib.hid (HQ.out.drewN nq)
      clear HQ l2 l3 l4 c0 c1 c2 g0 g1 g2 e1 e2 hzl hzB
      obtain ⟨c0, c1, c2, g0, g1, g2⟩ := blk_cells3 (RcR.cells HQ2.out).1
      go_wp2_with fail
      have hq3 : Own w0 (wr.drewN nq) (Sep (WLogR q p base size M head nxt) (Sep (DiskR p D) (Sep (Blk rb (.cells #[.int .u64 fr, .int .u64 t, .slice dvo dl dvc] 68 (0, 0))) (Sep (Blk rs (.cells #[.int .u64 0, .int .u64 0, .slice none 0 0] 68 (0, 0))) (Sep (OwnB (.slice dvo dl dvc) data) J))))) := HQ2.out.ac (by unfold RcR; ac_rfl)
      refine (HTAKE.out _ _ t (by have := HT1.out; omega) hq3).mono ?_
      rintro e w1 ⟨a, m, f, pv, xs, rfl, himp, hown⟩
      unfold pcV
      obtain ⟨po, pc, hpv⟩ : ∃ ao cap, pv = .slice ao xs.length cap := by
        obtain ⟨F, ⟨A, B, hA, _⟩, _⟩ := hown
        exact own_shapeN hA.1
      obtain ⟨pl, hpl⟩ : ∃ pl, pl = xs.length := ⟨_, rfl⟩
      rw [← hpl] at hpv
      subst hpv
      have HPL := Lib.hid hpl
      obtain ⟨pb, hpb⟩ : ∃ pb, pb = w1.heap.size := ⟨_, rfl⟩
      have hown2 := hown.alloc (.cells #[.int .u64 a, .int .u32 m, .int .u8 f, .slice po pl pc] 90 (0, 0))
      rw [← hpb] at hown2
      obtain ⟨w2, hw2⟩ : ∃ W, W = w1.alloc (.cells #[.int .u64 a, .int .u32 m, .int .u8 f, .slice po pl pc] 90) := ⟨_, rfl⟩
      have H3 : Hid (Own w0 w2 (RcR rb rs fr t (.slice dvo dl dvc) data (Sep (Sep (Blk pb (.cells #[.int .u64 a, .int .u32 m, .int .u8 f, .slice po pl pc] 90 (0, 0))) (OwnB (.slice po pl pc) xs)) (Sep (WLogR q p base size M head nxt) (Sep (DiskR p D) J))))) := Lib.hid (by rw [hw2]; exact hown2.ac (by unfold RcR; ac_rfl))
      have HIMP := Lib.hid himp
      have HPB := Lib.hid hpb
      have HW2 := Lib.hid hw2
      clear hq3 HQ2 hown hown2 hpl hpb hw2 himp c0 c1 c2 g0 g1 g2
      obtain ⟨ok, hok⟩ : ∃ ok, ok = tkOk t (sec D.N (ringS base size t)) := ⟨_, rfl⟩
      rw [← hok] at HIMP ⊢
      have HOK := Lib.hid hok
      clear hok
      obtain ⟨c0, c1, c2, g0, g1, g2⟩ := blk_cells3 (RcR.cells H3.out).1
      obtain ⟨d0, d1, d2, k0, k1, k2⟩ := blk_cells3 (RcR.cells H3.out).2
      obtain ⟨x0, x1, x2, x3, y0, y1, y2, y3⟩ := blk_cells4 (show w2.heap[pb]? = _ from H3.out.snd.snd.snd.assoc.held)
      go_upto_region 5 with fail
      rw [← HPB.out, ← HW2.out]
      have HG0 := Lib.hid (RcR.zero H3.out (.int .u64 0) (.int .u64 0) (.slice none 0 0)).snd.snd
      have HG : Hid (Own w0 (((w2.setCell ⟨rs, 0, none⟩ (.int .u64 0)).setCell ⟨rs, 1, none⟩ (.int .u64 0)).setCell ⟨rs, 2, none⟩ (.slice none 0 0)) (Sep (WLogR q p base size M head nxt) (Sep (DiskR p D) J))) := HG0
      clear HG0
      obtain ⟨b, hb⟩ : ∃ b : Bool, b = decide (t = fr) := ⟨_, rfl⟩
      rw [← hb] at HI3 HI7
      have HB := Lib.hid hb
      have b1 : ((t : Int) == (fr : Int)) = b := by
        rw [hb]
        by_cases e : t = fr
        · subst e; simp
        · have : ¬ (t : Int) = (fr : Int) := by omega
          simp [e, this]
      have b2 : (t == fr) = b := by rw [hb]; by_cases e : t = fr <;> simp [e]
      have b3 : decide (t = fr) = b := hb.symm
      clear hb
      cases ok with
      | false =>
        have HRN : Hid (R = none) := Lib.hid (by rw [HI7.out, HNN.out]; exact rec_gone HOK.out.symm)
        clear H3
        go_wp2_with fail
        refine bodyPost_ret (v := .tuple #[recV 0 0 (.slice none 0 0), .int .u32 0, .bool false]) (by simp [results, Try.results50, go_sem, d0, d1, d2]) rfl ?_
        rw [HRN.out]
        exact ⟨rfl, HG.out⟩
      | true =>
        have hrc : (⟨m, f, xs⟩ : Pc) = secPc (sec D.N (ringS base size t)) := (HIMP.out rfl).2
        have hri := rec_is (base := base) (size := size) (by have := HT1.out; omega) (HSEC.out t) HOK.out.symm hrc
        have HRI := Lib.hid hri
        have hfm := (formN_iff _ _).1 hri.2
        simp only at hfm
        have hf256 : f < 256 := by omega
        have HF3 := Lib.hid hfm
        have HF256 := Lib.hid hf256
        have HH1 := Lib.hid (whas1 a m f (.slice po pl pc) hf256)
        have HH2 := Lib.hid (whas2 a m f (.slice po pl pc) hf256)
        unfold pcV at HH1 HH2
        clear hri hrc hfm hf256 HIMP
        by_cases hm1 : m < last
        · have hmI : (m : Int) < (last : Int) := by omega
          have hmB : decide ((m : Int) < (last : Int)) = true := decide_eq_true hmI
          have HRN : Hid (R = none) := Lib.hid (by rw [HI7.out, HNN.out]; exact rec_unfit HRI.out HI3.out HI4.out (by rw [decide_eq_false (by omega : ¬ last ≤ m)]; simp))
          clear H3
          go_wp2_with fail
          refine bodyPost_ret (v := .tuple #[recV 0 0 (.slice none 0 0), .int .u32 0, .bool false]) (by simp [results, Try.results50, go_sem, d0, d1, d2]) rfl ?_
          rw [HRN.out]
          exact ⟨rfl, HG.out⟩
        · have hmI : ¬ (m : Int) < (last : Int) := by omega
          have hmB : decide ((m : Int) < (last : Int)) = false := decide_eq_false hmI
          by_cases hm2 : most < m
          · have hmJ : (most : Int) < (m : Int) := by omega
            have hmC : decide ((most : Int) < (m : Int)) = true := decide_eq_true hmJ
            have HRN : Hid (R = none) := Lib.hid (by rw [HI7.out, HNN.out]; exact rec_unfit HRI.out HI3.out HI4.out (by rw [decide_eq_false (by omega : ¬ m ≤ most)]; simp))
            clear H3
            go_wp2_with fail
            refine bodyPost_ret (v := .tuple #[recV 0 0 (.slice none 0 0), .int .u32 0, .bool false]) (by simp [results, Try.results50, go_sem, d0, d1, d2]) rfl ?_
            rw [HRN.out]
            exact ⟨rfl, HG.out⟩
          · have hmJ : ¬ (most : Int) < (m : Int) := by omega
            have hmC : decide ((most : Int) < (m : Int)) = false := decide_eq_false hmJ
            have HMS : Hid ((decide (last ≤ m) && decide (m ≤ most)) = true) := Lib.hid (by rw [decide_eq_true (by omega : last ≤ m), decide_eq_true (by omega : m ≤ most)]; rfl)
            obtain ⟨h1, hh1⟩ : ∃ h1 : Bool, h1 = decide (f % 2 = 1) := ⟨_, rfl⟩
            rw [← hh1] at HH1
            have HHE := Lib.hid hh1
            clear hh1 hm1 hm2
            go_wp2_with fail
            refine (HH1.out _).mono ?_
            rintro e w3 ⟨rfl, ho⟩
            have H4 := Lib.hid (H3.out.quiet ho)
            clear ho H3 HG c0 c1 c2 g0 g1 g2 d0 d1 d2 k0 k1 k2 x0 x1 x2 x3 y0 y1 y2 y3
            by_cases hbb : h1 = b
            · subst hbb
              have hnB : (h1 != h1) = false := by simp
              have HCO : Hid ((decide (last ≤ m) && decide (m ≤ most) && (decide (f % 2 = 1) == h1)) = true) := Lib.hid (by rw [HMS.out, ← HHE.out]; simp)
              have hcase : (Value.slice dvo dl dvc) = .slice none 0 0 ∨ 0 < xs.length := by
                by_cases e : t = fr
                · exact .inl (HI6.out e).1
                · refine .inr ?_
                  have e1 := HB.out
                  rw [decide_eq_false e] at e1
                  have e2 := HHE.out
                  rw [e1] at e2
                  have e3 : ¬ f % 2 = 1 := of_decide_eq_false e2.symm
                  rcases HF3.out.2.2.2 with h | h
                  · omega
                  · exact h
              have hq5 : Own w0 w3 (Sep (OwnB (.slice dvo dl dvc) data) (Sep (Blk rb (.cells #[.int .u64 fr, .int .u64 t, .slice dvo dl dvc] 68 (0, 0))) (Sep (Blk rs (.cells #[.int .u64 0, .int .u64 0, .slice none 0 0] 68 (0, 0))) (Sep (Blk pb (.cells #[.int .u64 a, .int .u32 m, .int .u8 f, .slice po pl pc] 90 (0, 0))) (Sep (OwnB (.slice po pl pc) xs) (Sep (WLogR q p base size M head nxt) (Sep (DiskR p D) J))))))) := H4.out.ac (by unfold RcR; ac_rfl)
              have HSX : Hid (SlC w3 (.slice po pl pc) xs) := Lib.hid (by
                obtain ⟨F, ⟨A, B, hA, _⟩, _⟩ := hq5.snd.snd.snd.snd
                exact (own_toB hA.1).toC)
              obtain ⟨c0, c1, c2, g0, g1, g2⟩ := blk_cells3 hq5.snd.held
              obtain ⟨x0, x1, x2, x3, y0, y1, y2, y3⟩ := blk_cells4 hq5.snd.snd.snd.held
              have hdt := HI5.out
              have hx50 := HF3.out.2.2.1
              have hti := HI2.out
              have hfi := HF.out
              have h6 := H655.out
              have HLEN : Hid ((data ++ xs).length ≤ 50 * (t + 1 - fr) ∧ (data ++ xs).length ≤ 32768) := Lib.hid (by
                have h7 := HI1.out
                have h8 := HLT.out
                rw [List.length_append]
                constructor <;> omega)
              obtain ⟨ml, hml⟩ : ∃ ml, ml = (data ++ xs).length := ⟨_, rfl⟩
              have HQ5 := Lib.hid hq5
              have HML := Lib.hid hml
              have HCS := Lib.hid hcase
              have u1 : IntKind.u64.wrap ((t : Int) + 1) = (t : Int) + 1 := by rw [IntKind.wrap_u64]; have := HT1.out; omega
              clear hq5 hml hcase hdt hx50 hti hfi h6 H4
              go_upto_region 7 with fail
              go_wp2_with (first | (at_builtin; refine wp_moreO HQ5.out (.slice po pl pc) xs HSX.out (by have := HLEN.out.2; rw [List.length_append] at this; omega) HCS.out rfl (.tmp 66) (.tmp 68) rfl rfl rfl ml HML.out.symm ?_))
              intro ao cp w4 H5
              obtain ⟨c0, c1, c2, g0, g1, g2⟩ := blk_cells3 H5.out.snd.held
              obtain ⟨d0, d1, d2, k0, k1, k2⟩ := blk_cells3 H5.out.snd.snd.held
              obtain ⟨x0, x1, x2, x3, y0, y1, y2, y3⟩ := blk_cells4 H5.out.snd.snd.snd.held
              have hs6 := (H5.out.swap.store 2 (.slice ao ml cp)).store 1 (.int .u64 ((t : Int) + 1))
              obtain ⟨w5, hw5⟩ : ∃ w5, w5 = (w4.setCell ⟨rb, 2, none⟩ (.slice ao ml cp)).setCell ⟨rb, 1, none⟩ (.int .u64 ((t : Int) + 1)) := ⟨_, rfl⟩
              have H6 : Hid (Own w0 w5 (Sep (Blk rb (.cells #[.int .u64 fr, .int .u64 ((t : Int) + 1), .slice ao ml cp] 68 (0, 0))) (Sep (OwnB (.slice ao ml cp) (data ++ xs)) (Sep (Blk rs (.cells #[.int .u64 0, .int .u64 0, .slice none 0 0] 68 (0, 0))) (Sep (Blk pb (.cells #[.int .u64 a, .int .u32 m, .int .u8 f, .slice po pl pc] 90 (0, 0))) (Sep (OwnB (.slice po pl pc) xs) (Sep (WLogR q p base size M head nxt) (Sep (DiskR p D) J)))))))) := Lib.hid (by rw [hw5]; exact hs6)
              have HW5 := Lib.hid hw5
              clear HQ5 HSX HCS hs6 hw5 H5
              go_upto_region 9 with fail
              rw [← HW5.out]
              clear c0 c1 c2 g0 g1 g2 d0 d1 d2 k0 k1 k2 x0 x1 x2 x3 y0 y1 y2 y3
              obtain ⟨x0, x1, x2, x3, y0, y1, y2, y3⟩ := blk_cells4 H6.out.snd.snd.snd.held
              by_cases h2f : 2 ≤ f
              · have e2 : decide (f / 2 % 2 = 1) = true := decide_eq_true (by have := HF3.out.1; omega)
                rw [e2] at HH2
                have HRN : Hid (R = some (m, t + 1, data ++ xs)) := Lib.hid (by rw [HI7.out, HNN.out]; exact rec_last HRI.out HI3.out HI4.out HCO.out h2f HLEN.out.2)
                clear e2 h2f
                go_wp2_with fail
                refine (HH2.out _).mono ?_
                rintro e w6 ⟨rfl, ho⟩
                have H7 := Lib.hid (H6.out.quiet ho)
                clear ho H6 x0 x1 x2 x3 y0 y1 y2 y3
                obtain ⟨c0, c1, c2, g0, g1, g2⟩ := blk_cells3 H7.out.held
                obtain ⟨d0, d1, d2, k0, k1, k2⟩ := blk_cells3 H7.out.snd.snd.held
                obtain ⟨x0, x1, x2, x3, y0, y1, y2, y3⟩ := blk_cells4 H7.out.snd.snd.snd.held
                have h8 : Own w0 w6.drew (Sep (Blk rs (.cells #[.int .u64 0, .int .u64 0, .slice none 0 0] 68 (0, 0))) (Sep (Sep (Blk rb (.cells #[.int .u64 fr, .int .u64 ((t : Int) + 1), .slice ao ml cp] 68 (0, 0))) (Sep (Blk pb (.cells #[.int .u64 a, .int .u32 m, .int .u8 f, .slice po pl pc] 90 (0, 0))) (OwnB (.slice po pl pc) xs))) (Sep (OwnB (.slice ao ml cp) (data ++ xs)) (Sep (WLogR q p base size M head nxt) (Sep (DiskR p D) J))))) := H7.out.drew.ac (by ac_rfl)
                have HG := Lib.hid (Own.store3 h8 (.int .u64 fr) (.int .u64 ((t : Int) + 1)) (.slice ao ml cp)).snd.snd
                have hne : rs ≠ pb := fun e => by
                  have a1 := H7.out.snd.snd.held
                  have a2 := H7.out.snd.snd.snd.held
                  rw [e, a2] at a1
                  simp at a1
                have z1 : (w6.setCell ⟨rs, 0, none⟩ (.int .u64 fr)).cell? ⟨pb, 1, none⟩ = some (.int .u32 m) := by rw [World.cell?_setCell_far _ _ _ _ hne]; exact x1
                have z2 : ((w6.setCell ⟨rs, 0, none⟩ (.int .u64 fr)).setCell ⟨rs, 1, none⟩ (.int .u64 ((t : Int) + 1))).cell? ⟨pb, 1, none⟩ = some (.int .u32 m) := by rw [World.cell?_setCell_far _ _ _ _ hne]; exact z1
                have z3 : (((w6.setCell ⟨rs, 0, none⟩ (.int .u64 fr)).setCell ⟨rs, 1, none⟩ (.int .u64 ((t : Int) + 1))).setCell ⟨rs, 2, none⟩ (.slice ao ml cp)).cell? ⟨pb, 1, none⟩ = some (.int .u32 m) := by rw [World.cell?_setCell_far _ _ _ _ hne]; exact z2
                clear h8 H7 hne
                go_upto_region 10 with fail
                go_region
                all_goals
                  go_wp2
                  refine bodyPost_ret (v := .tuple #[recV fr (t + 1) (.slice ao ml cp), .int .u32 m, .bool true]) (by simp [results, Try.results50, go_sem, d0, d1, d2]) rfl ?_
                  rw [HRN.out]
                  exact ⟨_, rfl, HG.out⟩
              · have e2 : decide (f / 2 % 2 = 1) = false := decide_eq_false (by omega)
                rw [e2] at HH2
                have HRN : Hid (R = wOne (lookP D.N base size) M n (t + 1) m false (data ++ xs)) := Lib.hid (by rw [HI7.out, HNN.out]; exact rec_more HRI.out HI3.out HI4.out HCO.out h2f)
                have HMM : Hid (m ≤ M) := Lib.hid (by
                  have h1 := HMS.out
                  have h2 := HI3.out
                  have h3 := HI4.out
                  simp only [Bool.and_eq_true, decide_eq_true_eq] at h1
                  split at h2 <;> omega)
                clear e2 h2f
                go_wp2_with fail
                refine (HH2.out _).mono ?_
                rintro e w6 ⟨rfl, ho⟩
                have H7 := Lib.hid (H6.out.quiet ho)
                clear ho H6 x0 x1 x2 x3 y0 y1 y2 y3
                obtain ⟨x0, x1, x2, x3, y0, y1, y2, y3⟩ := blk_cells4 H7.out.snd.snd.snd.held
                have HQD := Lib.hid (fun nq => H7.out.drewN nq)
                go_upto_region 11 with fail
                go_quiet (fail)
                have H8 := Lib.hid (HQD.out nq)
                have h9 : Own w0 (w6.drewN nq) (Sep (Sep (Blk pb (.cells #[.int .u64 a, .int .u32 m, .int .u8 f, .slice po pl pc] 90 (0, 0))) (OwnB (.slice po pl pc) xs)) (RcR rb rs fr (t + 1) (.slice ao ml cp) (data ++ xs) (Sep (WLogR q p base size M head nxt) (Sep (DiskR p D) J)))) := H8.out.ac (by unfold RcR; show Sep (Blk rb (.cells #[.int .u64 fr, .int .u64 ((t + 1 : Nat) : Int), .slice ao ml cp] 68 (0, 0))) _ = _; ac_rfl)
                have H9 := Lib.hid h9.snd
                have HTN : Hid (toOf ((w6.drewN nq).cell? ⟨rb, 1, none⟩) = t + 1) := Lib.hid (by rw [(blk_cells3 (RcR.cells H9.out).1).2.1]; simp [toOf])
                clear h9 H8 HQD H7
                go_wp2_with fail
                go_roundw
                case rel =>
                  have hne : ¬ t + 1 = fr := by have := HI1.out; omega
                  refine ⟨t + 1, m, m, .slice ao ml cp, data ++ xs, rfl, rfl, Lib.hid ⟨by have := HI1.out; omega, HLT.out, by rw [decide_eq_false hne]; rfl, HMM.out, HLEN.out.1, fun e => absurd e hne, ?_⟩, H9⟩
                  rw [decide_eq_false hne, HRN.out]
                  congr 1
                  have := HNN.out
                  omega
                case measure => rw [HTO.out, HTN.out]; have := HLT.out; omega
            · have HRN : Hid (R = none) := Lib.hid (by rw [HI7.out, HNN.out]; exact rec_unfit HRI.out HI3.out HI4.out (by rw [HMS.out, ← HHE.out]; cases h1 <;> cases b <;> simp at hbb ⊢))
              obtain ⟨d0, d1, d2, k0, k1, k2⟩ := blk_cells3 (RcR.cells H4.out).2
              have HG : Hid (Own w0 (((w3.setCell ⟨rs, 0, none⟩ (.int .u64 0)).setCell ⟨rs, 1, none⟩ (.int .u64 0)).setCell ⟨rs, 2, none⟩ (.slice none 0 0)) (Sep (WLogR q p base size M head nxt) (Sep (DiskR p D) J))) := Lib.hid (RcR.zero H4.out (.int .u64 0) (.int .u64 0) (.slice none 0 0)).snd.snd
              have htwo : (h1 = true ∧ b = false) ∨ (h1 = false ∧ b = true) := by cases h1 <;> cases b <;> simp at hbb ⊢
              clear H4 hbb b1 b2 b3 HB HHE HI3 HI7
              rcases htwo with ⟨rfl, rfl⟩ | ⟨rfl, rfl⟩
              · go_wp2_with fail
                refine bodyPost_ret (v := .tuple #[recV 0 0 (.slice none 0 0), .int .u32 0, .bool false]) (by simp [results, Try.results50, go_sem, d0, d1, d2]) rfl ?_
                rw [HRN.out]
                exact ⟨rfl, HG.out⟩
              · go_wp2_with fail
                refine bodyPost_ret (v := .tuple #[recV 0 0 (.slice none 0 0), .int .u32 0, .bool false]) (by simp [results, Try.results50, go_sem, d0, d1, d2]) rfl ?_
                rw [HRN.out]
                exact ⟨rfl, HG.out⟩
    · have hzl : ¬ z < (size : Int) := by omega
      have hzB : decide (z < (size : Int)) = false := decide_eq_false hzl
      have HRN : Hid (R = none) := Lib.hid (by rw [HI7.out, show head + size - t = 0 by omega]; rfl)
      have HQD := Lib.hid (fun nq => HQ.out.drewN nq)
      clear hlt hz hhf hnum hi1 hi2
      go_wp2_with fail
      go_quiet (fail)
      have HQ2 := Lib.hid (HQD.out nq)
      have HG : Hid (Own w0 ((((wr.drewN nq).setCell ⟨rs, 0, none⟩ (.int .u64 0)).setCell ⟨rs, 1, none⟩ (.int .u64 0)).setCell ⟨rs, 2, none⟩ (.slice none 0 0)) (Sep (WLogR q p base size M head nxt) (Sep (DiskR p D) J))) := Lib.hid (RcR.zero HQ2.out (.int .u64 0) (.int .u64 0) (.slice none 0 0)).snd
      obtain ⟨d0, d1, d2, k0, k1, k2⟩ := blk_cells3 (RcR.cells HQ2.out).2
      clear HQ HQD HQ2 l2 l3 l4 c0 c1 c2 g0 g1 g2 e1 e2 hzl hzB
      go_wp2_with fail
      refine bodyPost_ret (v := .tuple #[recV 0 0 (.slice none 0 0), .int .u32 0, .bool false]) (by simp [results, Try.results50, go_sem, d0, d1, d2]) rfl ?_
      rw [HRN.out]
      exact ⟨rfl, HG.out⟩

end Go.Proofs.Ytbimhiffcdhcaaa

namespace Go.Proofs.Ytbimhiffcdhcaaa
open Go Go.RowKit Go.Lib
set_option linter.unusedVariables false
set_option linter.unusedSimpArgs false
set_option maxRecDepth 100000

theorem Try.infoRec : (Try.prog.info? 68).map (fun i => (i.zero, i.size)) = some (some (.agg #[.int .u64 0, .int .u64 0, .slice none 0 0]), 3) := by kernel_rfl
theorem Try.infoRec3 : (Try.prog.info? 68).map (fun i => (i.zero, i.size, i.bytes)) = some (some (.agg #[.int .u64 0, .int .u64 0, .slice none 0 0]), 3, 40) := by kernel_rfl

/-- The records' data, wherever they lie. -/
def DatR (vs : List Value) (rs : List RecT) : Res := fun w F => vs.length = rs.length ∧ (∀ k, F k → k < w.heap.size) ∧
  ∀ j, j < rs.length → SlC w (vs.getD j (.slice none 0 0)) (rs.getD j (0, 0, [])).2.2 ∧ ∀ a m c, vs.getD j (.slice none 0 0) = .slice (some a) m c → (rs.getD j (0, 0, [])).2.2 ≠ [] → F a.block
instance {vs : List Value} {rs : List RecT} : Stab (DatR vs rs) where
  lt := fun h k hk => h.2.1 k hk
  keep := by
    rintro w w' F ⟨h1, h4, h5⟩ hk
    refine ⟨h1, fun k hF => ?_, fun j hj => ⟨(h5 j hj).1.at' fun a m c e hne => hk _ ((h5 j hj).2 a m c e hne), (h5 j hj).2⟩⟩
    have := hk k hF
    have hlt := h4 k hF
    rw [Array.getElem?_eq_getElem hlt] at this
    exact lt_of_some this
theorem DatR.nil (w : World) : DatR [] [] w (fun _ => False) := ⟨rfl, fun k h => h.elim, fun j hj => by simp at hj⟩
theorem Own.dat_nil {w0 w : World} {I : Res} (h : Own w0 w I) : Own w0 w (Sep (DatR [] []) I) := by
  obtain ⟨F, h1, h2, h3⟩ := h
  exact ⟨F, ⟨fun _ => False, F, DatR.nil w, h1, fun _ h => h.elim, fun k => by simp⟩, h2, h3⟩
theorem OwnB.lie {w : World} {v : Value} {xs : List UInt8} {F : Nat → Prop} (h : OwnB v xs w F) : SlC w v xs ∧ (∀ a m c, v = .slice (some a) m c → xs ≠ [] → F a.block) ∧ ∀ k, F k → k < w.heap.size := by
  refine ⟨(own_toB h.1).toC, fun a m c e _ => ?_, fun k hk => Stab.lt h k hk⟩
  rw [h.2]
  rcases h.1.2 with ⟨e2, _⟩ | ⟨g, cap, cur, e2, _⟩
  · rw [e] at e2; cases e2
  · rw [e] at e2
    simp at e2
    rw [e2.1] at e
    rw [e, e2.1]
    rfl
theorem DatR.push {vs : List Value} {rs : List RecT} {v : Value} {a t : Nat} {xs : List UInt8} {w : World} {F : Nat → Prop} (h : Sep (OwnB v xs) (DatR vs rs) w F) : DatR (vs ++ [v]) (rs ++ [(a, t, xs)]) w F := by
  obtain ⟨A, B, hA, ⟨h1, h2, h3⟩, hd, hF⟩ := h
  obtain ⟨k1, k2, k3⟩ := hA.lie
  refine ⟨by simp [h1], fun k hk => ((hF k).1 hk).elim (k3 k) (h2 k), fun j hj => ?_⟩
  simp at hj
  by_cases e : j = rs.length
  · subst e
    have e1 : (vs ++ [v]).getD rs.length (.slice none 0 0) = v := by rw [← h1]; simp [List.getD_eq_getElem?_getD]
    have e2 : (rs ++ [(a, t, xs)]).getD rs.length (0, 0, []) = (a, t, xs) := by simp [List.getD_eq_getElem?_getD]
    rw [e1, e2]
    exact ⟨k1, fun b m c e hne => (hF _).2 (.inl (k2 b m c e hne))⟩
  · have hl : j < rs.length := by omega
    have e1 : (vs ++ [v]).getD j (.slice none 0 0) = vs.getD j (.slice none 0 0) := by
      rw [List.getD_eq_getElem?_getD, List.getD_eq_getElem?_getD, List.getElem?_append_left (by omega)]
    have e2 : (rs ++ [(a, t, xs)]).getD j (0, 0, []) = rs.getD j (0, 0, []) := by
      rw [List.getD_eq_getElem?_getD, List.getD_eq_getElem?_getD, List.getElem?_append_left hl]
    rw [e1, e2]
    exact ⟨(h3 j hl).1, fun b m c e hne => (hF _).2 (.inr ((h3 j hl).2 b m c e hne))⟩
theorem recCells_snoc : ∀ {rs : List RecT} {vs : List Value} (h : vs.length = rs.length) (a t : Nat) (xs : List UInt8) (v : Value), recCells (rs ++ [(a, t, xs)]) (vs ++ [v]) = recCells rs vs ++ [.int .u64 a, .int .u64 t, v]
  | [], [], _, a, t, xs, v => rfl
  | x :: rs, u :: vs, h, a, t, xs, v => by
    have := recCells_snoc (rs := rs) (vs := vs) (by simpa using h) a t xs v
    simp only [List.cons_append, recCells, this]
  | x :: rs, [], h, _, _, _, _ => by simp at h
  | [], v :: vs, h, _, _, _, _ => by simp at h
theorem Own.recs {ty : TypeId} {w0 w : World} {v : Value} {vs : List Value} {rs : List RecT} {n : Nat} {I : Res} (hn : n = rs.length) (h : Own w0 w (Sep (Sep (RowV ty 3 v n (recCells rs vs)) (DatR vs rs)) I)) : Own w0 w (Sep (RecsR ty v rs) I) := by
  subst hn
  refine h.imp fun F hF => hF.imp (fun G hG => ?_) (fun _ h => h)
  obtain ⟨A, B, hA, ⟨h1, h2, h3⟩, hd, hG⟩ := hG
  exact ⟨vs, h1, hA.1, fun k hk => (hG k).2 (.inl ((hA.2 k).2 hk)), fun k hk => ((hG k).1 hk).elim (fun a => Stab.lt hA k a) (h2 k), fun j hj => ⟨(h3 j hj).1, fun a m c e hne => (hG _).2 (.inr ((h3 j hj).2 a m c e hne))⟩⟩

theorem wAll_none' {P : Nat → Option Pc} {mount fuel s last from' : Nat} (h : wOne P mount fuel s last true [] = none) : wAll P mount fuel s last true from' [] = [] := by rw [wAll_one, h]
theorem wAll_some' {P : Nat → Option Pc} {mount fuel s last from' m t : Nat} {xs : List UInt8} (h : wOne P mount fuel s last true [] = some (m, t, xs)) : wAll P mount fuel s last true from' [] = (from', t, xs) :: wAll P mount (s + fuel - t) t m true t [] := by rw [wAll_one, h]
theorem wAll_len {P : Nat → Option Pc} {mount : Nat} : ∀ (fuel s last from' : Nat) (b : Bool) (data : List UInt8), (wAll P mount fuel s last b from' data).length ≤ fuel
  | 0, _, _, _, _, _ => Nat.le_refl _
  | fuel + 1, s, last, from', b, data => by
    rw [wAll_succ]
    cases P s with
    | none => simp
    | some x =>
      simp only
      split
      · split
        · split
          · have := wAll_len (P := P) (mount := mount) fuel (s + 1) x.m (s + 1) true []
            simp only [List.length_cons]; omega
          · simp
        · have := wAll_len (P := P) (mount := mount) fuel (s + 1) x.m from' false (data ++ x.d)
          omega
      · simp

set_option maxRecDepth 100000 in
set_option maxHeartbeats 8000000 in
theorem own_records {w0 w : World} {q p base size M head nxt : Nat} {D : DS} {J : Res} [Stab J] (h : Own w0 w (Sep (WLogR q p base size M head nxt) (Sep (DiskR p D) J))) (least : Nat) (hnum : head + size < 9223372036854775808) (h655 : size ≤ 655) (h0 : 0 < size) (hl : base + size ≤ D.n) (h4 : D.n ≤ 4096) (hlm : least ≤ M) :
    Calls Try.prog 40 #[.pointer (some ⟨q, 0, none⟩), .int .u32 least] w fun e w' => ∃ v, e = .returned v ∧ Own w0 w' (Sep (RecsR 68 v (D.found base size least M head)) (Sep (WLogR q p base size M head nxt) (Sep (DiskR p D) J))) := by
  have HREC : Hid (∀ (W : World) (K : Res) [Stab K] (fr last : Nat), head ≤ fr → fr ≤ head + size → last ≤ M → Own w0 W (Sep (WLogR q p base size M head nxt) (Sep (DiskR p D) K)) →
      Calls Try.prog 50 #[.pointer (some ⟨q, 0, none⟩), .int .u64 fr, .int .u32 last] W (RecPost w0 fr (wOne (lookP D.N base size) M (head + size - fr) fr last true []) (Sep (WLogR q p base size M head nxt) (Sep (DiskR p D) K)))) :=
    Lib.hid fun W K _ fr last a1 a2 a3 hW => own_record hW fr last a1 a2 hnum h655 h0 hl h4 a3
  obtain ⟨R, hR⟩ : ∃ R, R = D.found base size least M head := ⟨_, rfl⟩
  rw [← hR]
  have HR0 : Hid (R.length ≤ 655) := Lib.hid (by rw [hR]; exact Nat.le_trans (wAll_len _ _ _ _ _ _) h655)
  have HR : Hid (R = [] ++ wAll (lookP D.N base size) M (head + size - head) head least true head []) := Lib.hid (by rw [hR, show head + size - head = size by omega]; rfl)
  have HNUM := Lib.hid hnum
  have HLM := Lib.hid hlm
  obtain ⟨_, _, _, _, l4, _⟩ := wlog_cells h.held
  have hst := h.dat_nil.row_nil 68 3
  have H1 : Hid (Own w0 w (Sep (RowV 68 3 (.slice none 0 0) 0 (recCells [] [])) (Sep (DatR [] []) (Sep (WLogR q p base size M head nxt) (Sep (DiskR p D) J))))) := Lib.hid hst
  clear h hst hR hnum h655 hl h4 hlm
  go_enter Try.func40, Try.ntmps40
  go_wp2_with fail
  clear l4
  go_loopw [1, 5, 6] (fun lv rv fv wr => ∃ (last fr : Nat) (ao : Option Addr) (cap : Nat) (rs : List RecT) (vs : List Value), lv = .int .u32 last ∧ rv = .slice ao rs.length cap ∧ fv = .int .u64 fr ∧
      Hid (head ≤ fr ∧ fr ≤ head + size ∧ last ≤ M ∧ R = rs ++ wAll (lookP D.N base size) M (head + size - fr) fr last true fr []) ∧
      Hid (Own w0 wr (Sep (RowV 68 3 (.slice ao rs.length cap) rs.length (recCells rs vs)) (Sep (DatR vs rs) (Sep (WLogR q p base size M head nxt) (Sep (DiskR p D) J)))))) (fun _ _ fv _ => head + size - (intOf fv).toNat)
  case atStart => exact ⟨least, head, none, 0, [], [], rfl, rfl, rfl, Lib.hid ⟨Nat.le_refl _, Nat.le_add_right _ _, HLM.out, HR.out⟩, H1⟩
  case round =>
    clear H1 HR
    obtain ⟨last, fr, ao, cap, rs, vs, rfl, rfl, rfl, HI, HQ⟩ := hrel
    obtain ⟨n, hn⟩ : ∃ n, n = rs.length := ⟨_, rfl⟩
    rw [← hn] at HQ ⊢
    have HN := Lib.hid hn
    clear hn
    have hq2 : Own w0 wr (Sep (WLogR q p base size M head nxt) (Sep (DiskR p D) (Sep (RowV 68 3 (.slice ao n cap) n (recCells rs vs)) (Sep (DatR vs rs) J)))) := HQ.out.ac (by ac_rfl)
    have HC := Lib.hid (HREC.out wr _ fr last HI.out.1 HI.out.2.1 HI.out.2.2.1 hq2)
    obtain ⟨r, hr⟩ : ∃ r, r = wOne (lookP D.N base size) M (head + size - fr) fr last true [] := ⟨_, rfl⟩
    rw [← hr] at HC
    have HRR := Lib.hid hr
    clear hr hq2 HQ
    go_wp2_with fail
    refine HC.out.mono ?_
    clear HC
    intro e w1 hpost
    cases r with
    | none =>
      obtain ⟨rfl, hown⟩ := hpost
      have HF : Hid (R = rs) := Lib.hid (by rw [HI.out.2.2.2, wAll_none' HRR.out.symm, List.append_nil])
      have ho2 := (hown.alloc (.cells #[.int .u64 0, .int .u64 0, .slice none 0 0] 68 (0, 0))).snd
      have HG := Lib.hid (Own.recs (I := Sep (WLogR q p base size M head nxt) (Sep (DiskR p D) J)) HN.out (ho2.ac (by ac_rfl)))
      clear hown ho2
      go_wp2_with fail
      go_ret
      exact ⟨_, rfl, by rw [HF.out]; exact HG.out⟩
    | some rr =>
      obtain ⟨m, t, xs⟩ := rr
      obtain ⟨dv, rfl, hown⟩ := hpost
      obtain ⟨so, sc, hdv⟩ : ∃ ao cap, dv = .slice ao xs.length cap := by
        obtain ⟨F, ⟨A, B, hA, _⟩, _⟩ := hown
        exact own_shapeN hA.1
      obtain ⟨sl, hsl⟩ : ∃ sl, sl = xs.length := ⟨_, rfl⟩
      rw [← hsl] at hdv
      subst hdv
      have hsm := wOne_some HRR.out.symm
      have HSM := Lib.hid hsm
      have HNX : Hid (R = (rs ++ [(fr, t, xs)]) ++ wAll (lookP D.N base size) M (head + size - t) t m true t []) := Lib.hid (by
        rw [HI.out.2.2.2, wAll_some' HRR.out.symm, List.append_assoc]
        have := HI.out.2.1
        rw [show fr + (head + size - fr) - t = head + size - t by omega]
        rfl)
      have HRL : Hid (n < 655) := Lib.hid (by have h1 := HR0.out; rw [HNX.out] at h1; simp at h1; have := HN.out; omega)
      have hn655 : n < 655 := HRL.out
      obtain ⟨xb, hxb⟩ : ∃ xb, xb = w1.heap.size := ⟨_, rfl⟩
      obtain ⟨w2, hw2⟩ : ∃ w2, w2 = w1.alloc (.cells #[.int .u64 fr, .int .u64 t, .slice so sl sc] 68) := ⟨_, rfl⟩
      have ho2 := hown.alloc (.cells #[.int .u64 fr, .int .u64 t, .slice so sl sc] 68 (0, 0))
      rw [← hxb] at ho2
      have H2 : Hid (Own w0 w2 (Sep (RowV 68 3 (.slice ao n cap) n (recCells rs vs)) (Sep (Blk xb (.cells #[.int .u64 fr, .int .u64 t, .slice so sl sc] 68 (0, 0))) (Sep (Sep (OwnB (.slice so sl sc) xs) (DatR vs rs)) (Sep (WLogR q p base size M head nxt) (Sep (DiskR p D) J)))))) := Lib.hid (by rw [hw2]; exact ho2.ac (by ac_rfl))
      obtain ⟨c0, c1, c2, _, _, _⟩ := blk_cells3 H2.out.snd.held
      have HXB := Lib.hid hxb
      have HW2 := Lib.hid hw2
      have hvl : vs.length = rs.length := by
        obtain ⟨F, hA, _⟩ := H2.out.snd.snd.fst.snd
        exact hA.1
      have HVL := Lib.hid hvl
      have hbs := fun w => run_buildSlice_one (P := Try.prog) w 35 68 _ 3 Try.underlying35 Try.infoRec rfl (by decide) (by decide) #[.int .u64 (fr : Int), .int .u64 (t : Int), .slice so sl sc] rfl
      obtain ⟨i0, hi0, hz0, hz1, hz2⟩ := info_parts Try.infoRec3
      have HRW := Lib.hid (H2.out.owns.alloc (.cells #[.int .u64 (fr : Int), .int .u64 (t : Int), .slice so sl sc] 68))
      have HA := Lib.hid ((H2.out.alloc (.cells #[.int .u64 (fr : Int), .int .u64 (t : Int), .slice so sl sc] 68)).snd)
      clear hown ho2 hsl hsm hxb hw2 hvl
      go_upto_region 4 with fail
      rw [← HXB.out, ← HW2.out]
      go_upto_region 6 with fail
      go_wp2_with (first | (at_builtin; refine wpList_append_lies _ rfl (.tmp 25) (.tmp 27) 35 rfl 0 68 i0 _ 3 40 Try.underlying35 hi0 hz0 hz1 hz2 rfl (by decide) (.slice ao n cap) n (recCells rs vs) rfl HRW.out ⟨w2.heap.size, 0, none⟩ 1 1 [.int .u64 (fr : Int), .int .u64 (t : Int), .slice so sl sc] rfl rfl (World.news_of_block (heap_alloc_new w2 _)) ?_ Nat.zero_lt_one ?_ ?_ (Nat.zero_le _) (w2.heap.size + 1) ?_ ?_))
      · intro u hu
        rcases List.mem_cons.1 hu with rfl | hu
        · rfl
        · rcases List.mem_cons.1 hu with rfl | hu
          · rfl
          · rw [List.mem_singleton.1 hu]; rfl
      · unfold maxLen; omega
      · omega
      · simp
      intro g cap2 w5 hown hgrow hat hlt5
      have h5 := HA.out.appended hown hgrow (hat.imp (fun h => h) (fun h => by simp; omega))
      obtain ⟨c0, c1, c2, _, _, _⟩ := blk_cells3 h5.snd.held
      have h6 : Own w0 w5 (Sep (Blk xb (.cells #[.int .u64 fr, .int .u64 t, .slice so sl sc] 68 (0, 0))) (Sep (RowV 68 3 (.slice (some ⟨g, 0, none⟩) (n + 1) cap2) (n + 1) (recCells rs vs ++ [.int .u64 (fr : Int), .int .u64 (t : Int), .slice so sl sc])) (Sep (Sep (OwnB (.slice so sl sc) xs) (DatR vs rs)) (Sep (WLogR q p base size M head nxt) (Sep (DiskR p D) J))))) := h5.ac (by ac_rfl)
      have h7 : Own w0 w5 (Sep (RowV 68 3 (.slice (some ⟨g, 0, none⟩) (n + 1) cap2) (n + 1) (recCells (rs ++ [(fr, t, xs)]) (vs ++ [.slice so sl sc]))) (Sep (DatR (vs ++ [.slice so sl sc]) (rs ++ [(fr, t, xs)])) (Sep (WLogR q p base size M head nxt) (Sep (DiskR p D) J)))) := by
        rw [recCells_snoc HVL.out]
        exact h6.snd.imp fun F hF => hF.imp (fun _ h => h) (fun B hB => hB.imp (fun _ h => DatR.push h) (fun _ h => h))
      have H7 := Lib.hid h7
      clear hown hgrow hat hlt5 h5 h6 h7 HA HRW H2 hi0 hz0 hz1 hz2 hbs
      go_wp2_with fail
      go_roundw
      case rel => exact ⟨m, t, some ⟨g, 0, none⟩, cap2, rs ++ [(fr, t, xs)], vs ++ [.slice so sl sc], rfl, by rw [List.length_append, ← HN.out]; rfl, rfl, Lib.hid ⟨by have := HSM.out.1; have := HI.out.1; omega, by have := HSM.out.2.1; have := HI.out.2.1; omega, HSM.out.2.2.2.2.1, HNX.out⟩, Lib.hid (by have := H7.out; rw [List.length_append, ← HN.out]; exact this)⟩
      case measure => have h1 := HSM.out.1; have h2 := HSM.out.2.1; have h3 := HI.out.2.1; simp [intOf]; omega

end Go.Proofs.Ytbimhiffcdhcaaa

namespace Go.Proofs.Ytbimhiffcdhcaaa
open Go Go.RowKit Go.Lib
set_option linter.unusedVariables false
set_option linter.unusedSimpArgs false
set_option maxRecDepth 100000

theorem SlC.sub {w : World} {vo : Option Addr} {n vc : Nat} {xs : List UInt8} (h : SlC w (.slice vo n vc) xs) {a : Nat} (ha : a < xs.length) :
    ∃ g off, vo = some ⟨g, off, none⟩ ∧ ∀ m c, m = ((xs.drop a).take 50).length → SlC w (.slice (some ⟨g, off + a, none⟩) m c) ((xs.drop a).take 50) := by
  rcases h with ⟨e, rfl⟩ | ⟨ad, cap, e, hc⟩
  · simp at ha
  · simp at e
    obtain ⟨rfl, rfl, rfl⟩ := e
    have h0 := hc 0 (by omega)
    obtain ⟨g, off, spot⟩ := ad
    have hspot : spot = none := by simpa [Addr.add] using World.cell?_spot h0
    subst hspot
    refine ⟨g, off, rfl, fun m c hm => .inr ⟨⟨g, off + a, none⟩, c, by rw [hm], fun j hj => ?_⟩⟩
    rw [add_lit]
    have hj' : j < 50 ∧ a + j < xs.length := by simp at hj; omega
    have := hc (a + j) hj'.2
    rw [add_lit] at this
    rw [Nat.add_assoc, this]
    congr 3
    simp [List.getD_eq_getElem?_getD, List.getElem?_take, hj'.1]

theorem or1 : ∀ f : Fin 256, bits .or .u8 ((f : Nat) : Int) 1 = (((f : Nat) ||| 1 : Nat) : Int) := by decide
theorem or2 : ∀ f : Fin 256, bits .or .u8 ((f : Nat) : Int) 2 = (((f : Nat) ||| 2 : Nat) : Int) := by decide

set_option maxHeartbeats 4000000 in
theorem wpiece_any {w : World} {q p base size M head nxt : Nat} (h : w.heap[q]? = some (wlogO p base size M head nxt)) (vo : Option Addr) (n vc : Nat) (xs : List UInt8) (hn : n = xs.length) (hv : SlC w (.slice vo n vc) xs) (hc : n ≤ vc) (hx : n ≤ 32768)
    (c k : Nat) (hcc : c = cntN n) (hk : k < c) (hnx : nxt + k < 18446744073709551616) :
    Calls Try.prog 43 #[.pointer (some ⟨q, 0, none⟩), .slice vo n vc, .int .i64 k, .int .i64 c] w fun e w' => ∃ dv, e = .returned (pcV (nxt + k) M (wFlag c k) dv) ∧ SlC w' dv (pieceN xs k) ∧ Only (fun _ => False) w w' := by
  have hbx := (Only.refl (fun _ => False) w).alloc (.cells #[.int .u64 0, .int .u32 0, .int .u8 0, .slice none 0 0] 90)
  have hby := hbx.alloc (.cells #[.int .u64 0, .int .u32 0, .int .u8 0, .slice none 0 0] 90)
  obtain ⟨_, _, _, c3, _, c5⟩ := wlog_cells (hbx.keep h (fun h => h))
  obtain ⟨_, _, _, d3, _, d5⟩ := wlog_cells (hby.keep h (fun h => h))
  have hft := cntN_fits n
  have hm := cntN_max hx
  rw [← hcc] at hft hm
  have hk0 : (0 : Int) ≤ (k : Int) := by omega
  have hk6 : (k : Int) ≤ 656 := by omega
  obtain ⟨a, ha⟩ : ∃ a : Nat, a = k * 50 := ⟨_, rfl⟩
  have s1 : (k : Int) * 50 = (a : Int) := by omega
  obtain ⟨m, hmm⟩ : ∃ m : Nat, (if (n : Int) < (a : Int) + 50 then (n : Int) else (a : Int) + 50) = m := by
    by_cases hq : (n : Int) < (a : Int) + 50
    · exact ⟨n, if_pos hq⟩
    · exact ⟨a + 50, if_neg hq⟩
  obtain ⟨dt, hdt⟩ : ∃ dt, dt = pieceN xs k := ⟨_, rfl⟩
  have hpl : dt.length = m - a ∧ a ≤ m ∧ m ≤ n ∧ (n ≠ 0 → a < n) := by
    rw [hdt]
    unfold pieceN
    rw [List.length_take, List.length_drop, ← ha, ← hn]
    by_cases hq : (n : Int) < (a : Int) + 50
    · rw [if_pos hq] at hmm; refine ⟨?_, ?_, ?_, ?_⟩ <;> omega
    · rw [if_neg hq] at hmm; refine ⟨?_, ?_, ?_, ?_⟩ <;> omega
  have hthree : (vo = none ∧ vc = 0 ∧ a = 0 ∧ m = 0 ∧ n = 0 ∧ dt = []) ∨ (∃ ad, vo = some ad ∧ a = 0 ∧ m = 0 ∧ n = 0 ∧ dt = []) ∨
      ∃ g off, vo = some ⟨g, off, none⟩ ∧ a < vc ∧ m ≤ vc ∧ SlC w (.slice (some ⟨g, off + a, none⟩) (m - a) (vc - a)) dt := by
    by_cases hx0 : n = 0
    · have hc1 : c = 1 := by rw [hcc, hx0]; rfl
      have hd : dt = [] := List.eq_nil_of_length_eq_zero (by omega)
      rcases hv with ⟨e, _⟩ | ⟨ad, cap, e, _⟩
      · simp at e
        exact .inl ⟨e.1, e.2.2, by omega, by omega, hx0, hd⟩
      · simp at e
        exact .inr (.inl ⟨ad, e.1, by omega, by omega, hx0, hd⟩)
    · rw [hn] at hv
      obtain ⟨g, off, rfl, hsub⟩ := hv.sub (a := a) (by have := hpl.2.2.2 hx0; omega)
      refine .inr (.inr ⟨g, off, rfl, by have := hpl.2.2.2 hx0; omega, Nat.le_trans hpl.2.2.1 hc, ?_⟩)
      rw [hdt]
      have := hsub (m - a) (vc - a) (by have := hpl.1; rw [hdt, pieceN, ← ha] at this; exact this.symm)
      rw [pieceN, ← ha]
      exact this
  have q1 : a ≤ m := hpl.2.1
  have q4 : (a : Int) ≤ (m : Int) := by omega
  have u1 : IntKind.u64.wrap (k : Int) = (k : Int) := by rw [IntKind.wrap_u64]; omega
  obtain ⟨sn, hsn⟩ : ∃ sn : Nat, sn = nxt + k := ⟨_, rfl⟩
  have u2 : IntKind.u64.wrap ((nxt : Int) + (k : Int)) = (sn : Int) := by rw [IntKind.wrap_u64]; omega
  rw [← hsn, ← hdt]
  have HBY := Lib.hid hby
  have HCC := Lib.hid hcc
  have HK := Lib.hid hk
  have HSN := Lib.hid hsn
  clear h hv hft hpl hdt hsn hbx hby hcc hk hn ha
  obtain ⟨fl, hfl⟩ : ∃ fl, fl = wFlag c k := ⟨_, rfl⟩
  rw [← hfl]
  have hfour : (k = 0 ∧ k + 1 = c ∧ fl = 3) ∨ (k = 0 ∧ ¬ k + 1 = c ∧ fl = 1) ∨ (¬ k = 0 ∧ k + 1 = c ∧ fl = 2) ∨ (¬ k = 0 ∧ ¬ k + 1 = c ∧ fl = 0) := by
    unfold wFlag at hfl
    by_cases k0 : k = 0
    · by_cases k1 : k + 1 = c
      · rw [if_pos k0, if_pos k1] at hfl; exact .inl ⟨k0, k1, hfl⟩
      · rw [if_pos k0, if_neg k1] at hfl; exact .inr (.inl ⟨k0, k1, hfl⟩)
    · by_cases k1 : k + 1 = c
      · rw [if_neg k0, if_pos k1] at hfl; exact .inr (.inr (.inl ⟨k0, k1, hfl⟩))
      · rw [if_neg k0, if_neg k1] at hfl; exact .inr (.inr (.inr ⟨k0, k1, hfl⟩))
  have HO : Hid (∀ o1 o2, Only (fun _ => False) w ((w.alloc o1).alloc o2).drew) := Lib.hid fun o1 o2 => (((Only.refl (fun _ => False) w).alloc o1).alloc o2).drew
  clear hfl
  have HQ := Lib.hid hthree
  clear hthree
  have HFO := Lib.hid hfour
  clear hfour
  rcases HQ.out with ⟨rfl, rfl, rfl, rfl, rfl, rfl⟩ | ⟨ad, rfl, rfl, rfl, rfl, rfl⟩ | ⟨g, off, rfl, q3, q2, hq⟩
  · clear HQ
    go_enter Try.func43, Try.ntmps43
    go_upto_region 3 with fail
    go_region
    rcases HFO.out with ⟨k0, k1, rfl⟩ | ⟨k0, k1, rfl⟩ | ⟨k0, k1, rfl⟩ | ⟨k0, k1, rfl⟩
    · have k0B : ((k : Int) == 0) = true := by rw [k0]; rfl
      have k1B : ((k : Int) == (c : Int) - 1) = true := by simp; omega
      clear k0 k1 HFO
      go_wp2_with fail
      refine bodyPost_ret (v := pcV sn M 3 (.slice none 0 0)) (by simp [results, Try.results43, go_sem, pcV] <;> rfl) rfl ?_
      exact ⟨_, rfl, .inl ⟨rfl, rfl⟩, HO.out _ _⟩
    · have k0B : ((k : Int) == 0) = true := by rw [k0]; rfl
      have k1B : ((k : Int) == (c : Int) - 1) = false := by simp; omega
      have k1I : ¬ (k : Int) = (c : Int) - 1 := by omega
      clear k0 k1 HFO
      go_wp2_with fail
      refine bodyPost_ret (v := pcV sn M 1 (.slice none 0 0)) (by simp [results, Try.results43, go_sem, pcV] <;> rfl) rfl ?_
      exact ⟨_, rfl, .inl ⟨rfl, rfl⟩, HO.out _ _⟩
    · exfalso; omega
    · exfalso; omega
  · clear HQ
    go_enter Try.func43, Try.ntmps43
    go_upto_region 3 with fail
    go_region
    rcases HFO.out with ⟨k0, k1, rfl⟩ | ⟨k0, k1, rfl⟩ | ⟨k0, k1, rfl⟩ | ⟨k0, k1, rfl⟩
    · have k0B : ((k : Int) == 0) = true := by rw [k0]; rfl
      have k1B : ((k : Int) == (c : Int) - 1) = true := by simp; omega
      clear k0 k1 HFO
      go_wp2_with fail
      refine bodyPost_ret (v := pcV sn M 3 (.slice (some ad) 0 vc)) (by simp [results, Try.results43, go_sem, pcV] <;> rfl) rfl ?_
      exact ⟨_, rfl, .inr ⟨ad, vc, rfl, fun j hj => by simp at hj⟩, HO.out _ _⟩
    · have k0B : ((k : Int) == 0) = true := by rw [k0]; rfl
      have k1B : ((k : Int) == (c : Int) - 1) = false := by simp; omega
      have k1I : ¬ (k : Int) = (c : Int) - 1 := by omega
      clear k0 k1 HFO
      go_wp2_with fail
      refine bodyPost_ret (v := pcV sn M 1 (.slice (some ad) 0 vc)) (by simp [results, Try.results43, go_sem, pcV] <;> rfl) rfl ?_
      exact ⟨_, rfl, .inr ⟨ad, vc, rfl, fun j hj => by simp at hj⟩, HO.out _ _⟩
    · exfalso; omega
    · exfalso; omega
  · have q5 : (m : Int) ≤ (vc : Int) := by omega
    have HQ3 := Lib.hid hq
    clear hq HQ
    go_enter Try.func43, Try.ntmps43
    go_upto_region 3 with fail
    go_region
    rcases HFO.out with ⟨k0, k1, rfl⟩ | ⟨k0, k1, rfl⟩ | ⟨k0, k1, rfl⟩ | ⟨k0, k1, rfl⟩
    · have k0B : ((k : Int) == 0) = true := by rw [k0]; rfl
      have k1B : ((k : Int) == (c : Int) - 1) = true := by simp; omega
      clear k0 k1 HFO
      go_wp2_with fail
      refine bodyPost_ret (v := pcV sn M 3 (.slice (some ⟨g, off + a, none⟩) (m - a) (vc - a))) (by simp [results, Try.results43, go_sem, pcV] <;> rfl) rfl ?_
      exact ⟨_, rfl, HQ3.out.keep (HO.out _ _), HO.out _ _⟩
    · have k0B : ((k : Int) == 0) = true := by rw [k0]; rfl
      have k1B : ((k : Int) == (c : Int) - 1) = false := by simp; omega
      have k1I : ¬ (k : Int) = (c : Int) - 1 := by omega
      clear k0 k1 HFO
      go_wp2_with fail
      refine bodyPost_ret (v := pcV sn M 1 (.slice (some ⟨g, off + a, none⟩) (m - a) (vc - a))) (by simp [results, Try.results43, go_sem, pcV] <;> rfl) rfl ?_
      exact ⟨_, rfl, HQ3.out.keep (HO.out _ _), HO.out _ _⟩
    · have k0B : ((k : Int) == 0) = false := by simpa using k0
      have k1B : ((k : Int) == (c : Int) - 1) = true := by simp; omega
      have k0I : ¬ (k : Int) = 0 := by omega
      clear k0 k1 HFO
      go_wp2_with fail
      refine bodyPost_ret (v := pcV sn M 2 (.slice (some ⟨g, off + a, none⟩) (m - a) (vc - a))) (by simp [results, Try.results43, go_sem, pcV] <;> rfl) rfl ?_
      exact ⟨_, rfl, HQ3.out.keep (HO.out _ _), HO.out _ _⟩
    · have k0B : ((k : Int) == 0) = false := by simpa using k0
      have k1B : ((k : Int) == (c : Int) - 1) = false := by simp; omega
      have k0I : ¬ (k : Int) = 0 := by omega
      have k1I : ¬ (k : Int) = (c : Int) - 1 := by omega
      clear k0 k1 HFO
      go_wp2_with fail
      refine bodyPost_ret (v := pcV sn M 0 (.slice (some ⟨g, off + a, none⟩) (m - a) (vc - a))) (by simp [results, Try.results43, go_sem, pcV]) rfl ?_
      exact ⟨_, rfl, HQ3.out.keep (HO.out _ _), HO.out _ _⟩

end Go.Proofs.Ytbimhiffcdhcaaa

namespace Go.Proofs.Ytbimhiffcdhcaaa
open Go Go.RowKit Go.Lib
set_option linter.unusedVariables false
set_option linter.unusedSimpArgs false
set_option maxRecDepth 100000

/-- The piece and an Out, made since w. -/
structure PutP (w w1 : World) (pb po n m f : Nat) (dv v : Value) (xs : List UInt8) : Prop where
  box : w1.heap[pb]? = some (pcO n m f dv)
  out : OutV w1 po v xs
  ne : pb ≠ po
  gb : w.heap.size ≤ pb
  go : w.heap.size ≤ po
  row : v.ownBlock = .none ∨ ∃ g, v.ownBlock = some g ∧ w.heap.size ≤ g
  only : Only (fun _ => False) w w1
theorem PutP.put {w w1 w2 : World} {pb po n m f : Nat} {dv v v' : Value} {xs ys : List UInt8} (h : PutP w w1 pb po n m f dv v xs) (hO : OutV w2 po v' ys)
    (hr : v'.ownBlock = v.ownBlock ∨ ∃ g, v'.ownBlock = some g ∧ w1.heap.size ≤ g) (ho : Only (OutS po v) w1 w2) : PutP w w2 pb po n m f dv v' ys := by
  refine ⟨ho.keep h.box ?_, hO, h.ne, h.gb, h.go, row_ge h.only.size h.row hr, h.only.none ho (OutS.ge h.go h.row)⟩
  rintro (e | e)
  · exact h.ne e
  · exact h.out.rowne h.box (by decide) e
theorem PutP.cells {w w1 : World} {pb po n m f : Nat} {dv v : Value} {xs : List UInt8} (h : PutP w w1 pb po n m f dv v xs) :
    w1.cell? ⟨pb, 0, none⟩ = some (.int .u64 n) ∧ w1.cell? ⟨pb, 1, none⟩ = some (.int .u32 m) ∧ w1.cell? ⟨pb, 2, none⟩ = some (.int .u8 f) ∧ w1.cell? ⟨pb, 3, none⟩ = some dv :=
  ⟨blk_cell h.box 0 rfl, blk_cell h.box 1 rfl, blk_cell h.box 2 rfl, blk_cell h.box 3 rfl⟩

theorem beB1_one (b : UInt8) : beB 1 b.toNat = [b] := by
  apply List.ext_getElem <;> simp [beB]
set_option maxHeartbeats 4000000 in
theorem wbytes_any (n m f : Nat) (dv : Value) (xs : List UInt8) (hn : n < 18446744073709551616) (hm : m < 4294967296) (hf : f < 256) (hx : xs.length ≤ 50) (w : World) (hv : SlC w dv xs) :
    Calls Try.prog 45 #[pcV n m f dv] w (ClonePost w (pcB n ⟨m, f, xs⟩)) := by
  obtain ⟨ao, cap, rfl⟩ := hv.shape
  have H0 : Hid (PutP w ((w.alloc (pcO n m f (.slice ao xs.length cap))).alloc (.cells #[.slice none 0 0] 112)) w.heap.size (w.heap.size + 1) n m f (.slice ao xs.length cap) (.slice none 0 0) []) := by
    refine Lib.hid ⟨?_, ?_, by omega, Nat.le_refl _, by omega, .inl rfl, ((Only.refl (fun _ => False) w).alloc _).alloc _⟩
    · exact ((Only.refl (fun _ => False) _).alloc _).keep (heap_alloc_new w _) (fun h => h)
    · have := OutV.new (w.alloc (pcO n m f (.slice ao xs.length cap)))
      rwa [show (w.alloc (pcO n m f (.slice ao xs.length cap))).heap.size = w.heap.size + 1 by simp] at this
  obtain ⟨l, hl⟩ : ∃ l, l = xs.length := ⟨_, rfl⟩
  rw [← hl] at H0 hx hv ⊢
  have HLW : Hid (IntKind.u8.wrap (l : Int) = (l : Int)) := Lib.hid (by rw [IntKind.wrap_u8]; omega)
  have HN := Lib.hid hn
  have HM := Lib.hid hm
  have HF := Lib.hid hf
  have HX := Lib.hid hx
  have HL := Lib.hid hl
  have HV := Lib.hid hv
  have HG : Hid ((([] ++ beB 8 n) ++ beB 4 m) ++ beB 1 f ++ beB 1 l ++ xs = pcB n ⟨m, f, xs⟩) := Lib.hid (by simp [pcB, hl])
  have HG' : Hid ((([] ++ beB 8 n) ++ beB 4 m ++ beB 1 f ++ beB 1 l).length = 14) := Lib.hid (by simp [beB_length])
  have hl50 : (l : Int) ≤ 50 := by omega
  clear hn hm hf hx hl hv
  unfold pcV
  go_enter Try.func45, Try.ntmps45
  go_upto_region 2 with fail
  obtain ⟨c0, c1, c2, c3⟩ := H0.out.cells
  unfold pcO at c0 c1 c2 c3
  go_wp2_with fail
  refine (outU64 (w.heap.size + 1) n _ [] _ H0.out.out HN.out (by simp)).mono ?_
  rintro e w1 ⟨rfl, v1, hV1, hr1, ho1⟩
  have H1 := Lib.hid (H0.out.put hV1 hr1 ho1)
  clear c0 c1 c2 c3 hV1 hr1 ho1 H0
  obtain ⟨c0, c1, c2, c3⟩ := H1.out.cells
  go_wp2_with fail
  refine (outU32 (w.heap.size + 1) m _ _ _ H1.out.out HM.out (by simp [beB_length])).mono ?_
  rintro e w2 ⟨rfl, v2, hV2, hr2, ho2⟩
  have H2 := Lib.hid (H1.out.put hV2 hr2 ho2)
  clear c0 c1 c2 c3 hV2 hr2 ho2 H1
  obtain ⟨c0, c1, c2, c3⟩ := H2.out.cells
  go_wp2_with fail
  refine (outU8 (w.heap.size + 1) f _ _ _ H2.out.out HF.out (by simp [beB_length])).mono ?_
  rintro e w3 ⟨rfl, v3, hV3, hr3, ho3⟩
  have H3 := Lib.hid (H2.out.put hV3 hr3 ho3)
  clear c0 c1 c2 c3 hV3 hr3 ho3 H2
  obtain ⟨c0, c1, c2, c3⟩ := H3.out.cells
  go_wp2_with fail
  try rw [HLW.out]
  refine (outU8 (w.heap.size + 1) l _ _ _ H3.out.out (by have := HX.out; omega) (by simp [beB_length])).mono ?_
  rintro e w4 ⟨rfl, v4, hV4, hr4, ho4⟩
  have H4 := Lib.hid (H3.out.put hV4 hr4 ho4)
  clear c0 c1 c2 c3 hV4 hr4 ho4 H3
  obtain ⟨c0, c1, c2, c3⟩ := H4.out.cells
  obtain ⟨hd, hhd⟩ : ∃ hd, hd = ([] ++ beB 8 n) ++ beB 4 m ++ beB 1 f ++ beB 1 l := ⟨_, rfl⟩
  rw [← hhd] at H4 HG HG'
  have HP : Hid (∃ v, PutP w w4 w.heap.size (w.heap.size + 1) n m f (.slice ao l cap) v (hd ++ xs.take 0)) := Lib.hid ⟨v4, by simpa using H4.out⟩
  clear H4 hhd
  go_wp2_with fail
  clear c0 c1 c2 c3
  go_loopw [29] (fun i wr => ∃ k : Nat, k ≤ l ∧ i = .int .i64 k ∧ Hid (∃ v, PutP w wr w.heap.size (w.heap.size + 1) n m f (.slice ao l cap) v (hd ++ xs.take k))) (fun i _ => l - (intOf i).toNat)
  case atStart => exact ⟨0, Nat.zero_le _, rfl, HP⟩
  case round =>
    clear HP
    obtain ⟨k, hk, rfl, HQ⟩ := hrel
    by_cases hlt : k < l
    · have hltI : (k : Int) < (l : Int) := by omega
      have hk0 : (0 : Int) ≤ (k : Int) := by omega
      have HLT := Lib.hid hlt
      obtain ⟨v, hv⟩ := HQ.out
      have HS : Hid (∃ ad : Addr, ao = some ad ∧ wr.cell? (ad.add k) = some (.int .u8 (xs.getD k 0).toNat)) := Lib.hid (by
        have := HV.out.keep hv.only
        rcases this with ⟨e, e2⟩ | ⟨ad, cp, e, hc⟩
        · have := HL.out; rw [e2] at this; simp at this; omega
        · simp at e
          exact ⟨ad, e.1, hc k (by rw [← HL.out]; exact hlt)⟩)
      obtain ⟨ad, rfl, hc⟩ := HS.out
      obtain ⟨b, hb⟩ : ∃ b, b = xs.getD k 0 := ⟨_, rfl⟩
      rw [← hb] at hc
      have HB := Lib.hid hb
      have HV2 := Lib.hid hv
      have hb8 : b.toNat < 256 := b.toNat_lt
      clear hv hb hlt hk HS
      go_wp2_with fail
      refine (outU8 (w.heap.size + 1) b.toNat _ _ _ HV2.out.out hb8 (by have := HG'.out; have := HLT.out; have := HX.out; simp; omega)).mono ?_
      rintro e w5 ⟨rfl, v5, hV5, hr5, ho5⟩
      have HN5 : Hid (∃ v, PutP w w5 w.heap.size (w.heap.size + 1) n m f (.slice (some ad) l cap) v (hd ++ xs.take (k + 1))) := Lib.hid ⟨v5, by
        have h5 := HV2.out.put hV5 hr5 ho5
        rw [beB1_one, List.append_assoc, HB.out, ← take_snoc8 xs k (by rw [← HL.out]; exact HLT.out)] at h5
        exact h5⟩
      clear hV5 hr5 ho5 HV2 HQ hc
      go_wp2_with fail
      go_roundw
      case rel => exact ⟨k + 1, HLT.out, by go_num, HN5⟩
      case measure => have := HLT.out; simp [intOf]; omega
    · have hltI : ¬ (k : Int) < (l : Int) := by omega
      have hkl : k = l := by omega
      have HKL := Lib.hid hkl
      obtain ⟨v, hv⟩ := HQ.out
      rw [hkl, show xs.take l = xs by rw [HL.out]; simp, HG.out] at hv
      have hlen : (pcB n ⟨m, f, xs⟩).length ≤ 140737488355328 := by rw [pcB_length]; have := HX.out; have := HL.out; simp only; omega
      obtain ⟨zs, hzs⟩ : ∃ zs, zs = pcB n ⟨m, f, xs⟩ := ⟨_, rfl⟩
      rw [← hzs] at hv hlen ⊢
      have HV2 := Lib.hid hv
      have HLN := Lib.hid hlen
      have HZS := Lib.hid hzs
      clear hv hlen hzs hkl hk hlt HQ
      go_wp2_with fail
      refine (outBytes (w.heap.size + 1) _ _ _ HV2.out.out HLN.out).mono ?_
      rintro e w5 ⟨r, rfl, hr, ho⟩
      obtain ⟨ro, rc, hrv⟩ := own_shapeN hr
      subst hrv
      have HR : Hid (w5.ownsRow w.heap.size 5 1 (.slice ro zs.length rc) (pcB n ⟨m, f, xs⟩).length (u8s (pcB n ⟨m, f, xs⟩))) := Lib.hid (by have := own_base hr HV2.out.only.size; rw [HZS.out] at this ⊢; exact this)
      have HO := Lib.hid (HV2.out.only.trans ho (fun _ _ h => h))
      clear hr ho
      go_wp2_with fail
      go_ret
      exact ⟨.slice ro zs.length rc, rfl, HR.out, HO.out⟩

end Go.Proofs.Ytbimhiffcdhcaaa

namespace Go.Proofs.Ytbimhiffcdhcaaa
open Go Go.RowKit Go.Lib
set_option linter.unusedVariables false
set_option linter.unusedSimpArgs false
set_option maxRecDepth 100000

set_option maxHeartbeats 1000000 in
theorem wlog_append_bad {w : World} {q : Nat} (vo : Option Addr) (n vc : Nat) (hx : 32768 < n) :
    Calls Try.prog 17 #[.pointer (some ⟨q, 0, none⟩), .slice vo n vc] w fun e w' => e = .returned (.tuple #[.int .u64 0, .int .i64 7]) ∧ w = w' := by
  have hc : cnt (n : Int) = 0 := (cnt_zero _).2 (.inr (by omega))
  have HC := Lib.hid (fun w => wcount_any (n : Int) w)
  rw [hc] at HC
  clear hc
  go_enter Try.func17, Try.ntmps17
  go_wp2_with fail
  refine (HC.out _).mono ?_
  rintro e w' ⟨rfl, rfl⟩
  go_wp2_with fail
  go_ret2
  exact ⟨rfl, rfl⟩

set_option maxHeartbeats 1000000 in
theorem wlog_append_full {w0 w : World} {q p base size M head nxt : Nat} {J : Res} [Stab J] (h : Own w0 w (Sep (WLogR q p base size M head nxt) J)) (vo : Option Addr) (n vc : Nat) (hx : n ≤ 32768) (hh : head ≤ nxt) (hn : nxt < 9223372036854775808) (hs : size ≤ 4096) (hf : size < nxt + cntN n - head) :
    Calls Try.prog 17 #[.pointer (some ⟨q, 0, none⟩), .slice vo n vc] w fun e w' => e = .returned (.tuple #[.int .u64 0, .int .i64 3]) ∧ Own w0 w' (Sep (WLogR q p base size M head nxt) J) := by
  have HC := Lib.hid (fun w => wcount_any (n : Int) w)
  rw [cnt_nat hx] at HC
  have hm := cntN_max hx
  have hp := cntN_pos n
  obtain ⟨c, hc⟩ : ∃ c, c = cntN n := ⟨_, rfl⟩
  rw [← hc] at hf hm HC hp
  obtain ⟨z, hz⟩ : ∃ z : Int, z = (size : Int) - ((nxt : Int) - (head : Int)) := ⟨_, rfl⟩
  have HR := Lib.hid (wroom_any h.held hh hn hs)
  rw [← hz] at HR
  have h1 : ¬ (c : Int) = 0 := by omega
  have h2 : z < (c : Int) := by omega
  have h1B : ((c : Int) == 0) = false := by simpa using h1
  have h2B : decide (z < (c : Int)) = true := decide_eq_true h2
  have H := Lib.hid h
  clear h hc hz hf
  go_enter Try.func17, Try.ntmps17
  go_wp2_with fail
  refine (HC.out _).mono ?_
  rintro e w' ⟨rfl, rfl⟩
  go_wp2_with fail
  refine HR.out.mono ?_
  rintro e w' ⟨rfl, m, rfl⟩
  have H2 := Lib.hid (H.out.drewN m)
  clear H HR
  go_wp2_with fail
  go_ret2
  exact ⟨rfl, H2.out⟩

set_option maxRecDepth 100000 in
set_option maxHeartbeats 8000000 in
theorem wlog_append_go {w0 w : World} {q p base size M head nxt : Nat} {D : DS} {J : Res} [Stab J] (h : Own w0 w (Sep (WLogR q p base size M head nxt) (Sep (DiskR p D) J))) (vo : Option Addr) (n vc : Nat) (xs : List UInt8) (hnx : n = xs.length) (hvc : n ≤ vc)
    (hv : ∀ (w' : World) (B : Nat → Prop), J w' B → Only (fun _ => False) w0 w' → SlC w' (.slice vo n vc) xs) (hx : n ≤ 32768) (hh : head ≤ nxt) (hn : nxt ≤ 9223372036854770000) (hM : M < 4294967296) (h0 : 0 < size) (hlies : base + size ≤ D.n) (h4 : D.n ≤ 4096) (hd : D.down = false)
    (hf : nxt + cntN n - head ≤ size) (hW : D.W.length ≤ 900000) (hwr : D.wr ≤ 900000) :
    Calls Try.prog 17 #[.pointer (some ⟨q, 0, none⟩), .slice vo n vc] w fun e w' => e = .returned (.tuple #[.int .u64 (if (D.app base size M nxt xs (cntN n)).down then 0 else nxt : Nat), .int .i64 (appE D base size M nxt xs)]) ∧
      Own w0 w' (Sep (WLogR q p base size M head (if (D.app base size M nxt xs (cntN n)).down then nxt else nxt + cntN n)) (Sep (DiskR p (D.app base size M nxt xs (cntN n))) J)) := by
  have HCN := Lib.hid (fun w => wcount_any (n : Int) w)
  rw [cnt_nat hx] at HCN
  have hm := cntN_max hx
  have hpos := cntN_pos n
  have HAPP : Hid (appE D base size M nxt xs = bwR (D.app base size M nxt xs (cntN n)).down) := Lib.hid (by rw [hnx]; rfl)
  obtain ⟨c, hc⟩ : ∃ c, c = cntN n := ⟨_, rfl⟩
  rw [← hc] at hf hm hpos HAPP HCN ⊢
  obtain ⟨z, hz⟩ : ∃ z : Int, z = (size : Int) - ((nxt : Int) - (head : Int)) := ⟨_, rfl⟩
  have HR := Lib.hid (wroom_any h.held hh (by omega) (Nat.le_trans (Nat.le_trans (Nat.le_add_left _ _) hlies) h4))
  rw [← hz] at HR
  have h1 : ¬ (c : Int) = 0 := by omega
  have h2 : ¬ z < (c : Int) := by omega
  have h1B : ((c : Int) == 0) = false := by simpa using h1
  have h2B : decide (z < (c : Int)) = false := decide_eq_false h2
  have hbs : base + size ≤ 4096 := Nat.le_trans hlies h4
  have HC := Lib.hid hc
  have HM := Lib.hid hM
  have HL := Lib.hid hlies
  have H4 := Lib.hid h4
  have HW := Lib.hid hW
  have HWR := Lib.hid hwr
  have HD := Lib.hid hd
  have HV := Lib.hid hv
  have HNX := Lib.hid hnx
  have HVC := Lib.hid hvc
  have HX := Lib.hid hx
  have HF := Lib.hid hf
  have HH := Lib.hid hh
  have HN := Lib.hid hn
  have H0 := Lib.hid h0
  have HBS := Lib.hid hbs
  have H : Hid (Own w0 w (Sep (DiskR p (D.app base size M nxt xs 0)) (Sep (WLogR q p base size M head nxt) J))) := Lib.hid h.swap
  clear h hv hc hx hM hlies h4 hW hwr hd hnx hvc hz hf hh hbs
  obtain ⟨E, hE⟩ : ∃ E, E = D.app base size M nxt xs c := ⟨_, rfl⟩
  obtain ⟨ee, hee⟩ : ∃ ee, ee = appE D base size M nxt xs := ⟨_, rfl⟩
  rw [← hE, ← hee] at HAPP ⊢
  have HE := Lib.hid hE
  obtain ⟨ra, hra⟩ : ∃ ra : Nat, ra = (if E.down then 0 else nxt) := ⟨_, rfl⟩
  obtain ⟨rn, hrn⟩ : ∃ rn : Nat, rn = (if E.down then nxt else nxt + c) := ⟨_, rfl⟩
  rw [← hra, ← hrn]
  have HRA := Lib.hid hra
  have HRN := Lib.hid hrn
  clear hE hee hra hrn
  go_enter Try.func17, Try.ntmps17
  go_wp2_with fail
  refine (HCN.out _).mono ?_
  rintro e w' ⟨rfl, rfl⟩
  go_wp2_with fail
  refine HR.out.mono ?_
  rintro e w' ⟨rfl, nq, rfl⟩
  have H2 := Lib.hid (H.out.drewN nq)
  clear H HR
  go_wp2_with fail
  clear h2 h2B h1 h1B
  go_loopw [23] (fun i wr => ∃ k : Nat, k ≤ c ∧ i = .int .i64 k ∧ (D.app base size M nxt xs k).down = false ∧ Hid (Own w0 wr (Sep (DiskR p (D.app base size M nxt xs k)) (Sep (WLogR q p base size M head nxt) J)))) (fun i _ => c - (intOf i).toNat)
  case atStart => exact ⟨0, Nat.zero_le _, rfl, HD.out, H2⟩
  case round =>
    clear H2
    obtain ⟨k, hk, rfl, hdk, HQ⟩ := hrel
    have HDK := Lib.hid hdk
    clear hdk
    by_cases hlt : k < c
    · have hltI : (k : Int) < (c : Int) := by omega
      have hk0 : (0 : Int) ≤ (k : Int) := by omega
      have HLT := Lib.hid hlt
      have hsn64 : nxt + k < 18446744073709551616 := by omega
      have hslr : SlC wr (.slice vo n vc) xs := by
        obtain ⟨F, hJ, _, ho⟩ := HQ.out.snd.snd
        exact HV.out wr F hJ ho
      have HPC := Lib.hid (wpiece_any HQ.out.snd.held vo n vc xs HNX.out hslr HVC.out HX.out c k HC.out hlt hsn64)
      obtain ⟨sn, hsn⟩ : ∃ sn, sn = nxt + k := ⟨_, rfl⟩
      obtain ⟨fl, hfl⟩ : ∃ fl, fl = wFlag c k := ⟨_, rfl⟩
      rw [← hsn, ← hfl] at HPC
      rw [← hsn] at hsn64
      have hf256 : fl < 256 := by rw [hfl]; unfold wFlag; split <;> split <;> omega
      have HSN := Lib.hid hsn
      have HFL := Lib.hid hfl
      have HF256 := Lib.hid hf256
      have HS64 := Lib.hid hsn64
      clear hlt hk hslr hsn hfl hf256 hsn64
      go_wp2_with fail
      refine HPC.out.mono ?_
      rintro e w1 ⟨dv, rfl, hsl, ho1⟩
      unfold pcV
      obtain ⟨dvo, dvc, hdv⟩ := hsl.shape
      obtain ⟨dl, hdl⟩ : ∃ dl, dl = (pieceN xs k).length := ⟨_, rfl⟩
      rw [← hdl] at hdv
      subst hdv
      clear hdl
      obtain ⟨b, hb⟩ : ∃ b, b = w1.heap.size := ⟨_, rfl⟩
      have hq1 := (HQ.out.quiet ho1).lend (.cells #[.int .u64 sn, .int .u32 M, .int .u8 fl, .slice dvo dl dvc] 90 (0, 0))
      rw [← hb] at hq1
      have HB := Lib.hid hb
      have HQ1 := Lib.hid hq1
      have HO1 := Lib.hid ((Only.refl (fun _ => False) w1).alloc (.cells #[.int .u64 sn, .int .u32 M, .int .u8 fl, .slice dvo dl dvc] 90 (0, 0)))
      have HSL := Lib.hid hsl
      clear hsl ho1 HPC HQ hb hq1
      go_upto_region 12 with fail
      have HDL : Hid (SlC w1 (.slice dvo dl dvc) (pieceN xs k)) := HSL
      obtain ⟨W1, hW1⟩ : ∃ W1, W1 = w1.alloc (Obj.cells #[.int .u64 sn, .int .u32 M, .int .u8 fl, .slice dvo dl dvc] 90) := ⟨_, rfl⟩
      have hb1 : b < W1.heap.size := by rw [hW1, HB.out]; simp
      rw [← hW1] at HQ1 HO1
      rw [← HB.out, ← hW1]
      have HQd : Hid (Own w0 W1.drew (Sep (DiskR p (D.app base size M nxt xs k)) (Sep (Blk b (.cells #[.int .u64 sn, .int .u32 M, .int .u8 fl, .slice dvo dl dvc] 90 (0, 0))) (Sep (WLogR q p base size M head nxt) J))) ∧ Only (fun _ => False) w1 W1.drew) := Lib.hid ⟨HQ1.out.drew, HO1.out.drew⟩
      obtain ⟨rg, hrg⟩ : ∃ rg, rg = ringS base size sn := ⟨_, rfl⟩
      have hrl : rg < base + size := by rw [hrg]; exact ring_lt h0 (Nat.le_refl _)
      have hfew := app_few D base size M nxt xs k
      have HB1 : Hid ((D.app base size M nxt xs k).W.length ≤ 1000000) := Lib.hid (by have := HW.out; have := HLT.out; omega)
      have HB2 : Hid ((D.app base size M nxt xs k).wr ≤ 1000000) := Lib.hid (by have := HWR.out; have := HLT.out; omega)
      obtain ⟨bs, hbs⟩ : ∃ bs, bs = pcB sn (wPc M xs k) := ⟨_, rfl⟩
      have HBS2 := Lib.hid hbs
      have HC1 : Hid (∀ (W : World), (Own w0 W (Sep (DiskR p (D.app base size M nxt xs k)) (Sep (Blk b (.cells #[.int .u64 sn, .int .u32 M, .int .u8 fl, .slice dvo dl dvc] 90 (0, 0))) (Sep (WLogR q p base size M head nxt) J))) ∧ Only (fun _ => False) w1 W) →
          Calls Try.prog 44 #[.pointer (some ⟨q, 0, none⟩), .int .u64 sn] W fun e w' => e = .returned (.int .i64 rg) ∧ (Own w0 w' (Sep (DiskR p (D.app base size M nxt xs k)) (Sep (Blk b (.cells #[.int .u64 sn, .int .u32 M, .int .u8 fl, .slice dvo dl dvc] 90 (0, 0))) (Sep (WLogR q p base size M head nxt) J))) ∧ Only (fun _ => False) w1 w')) := Lib.hid (by
        rintro W ⟨hW, hO⟩
        refine (wsector_any hW.snd.snd.held sn HS64.out h0 HBS.out).mono ?_
        rintro e w' ⟨rfl, n, rfl⟩
        exact ⟨by rw [hrg], hW.drewN n, hO.drewN n⟩)
      have HC2 : Hid (∀ (W : World), (Own w0 W (Sep (DiskR p (D.app base size M nxt xs k)) (Sep (Blk b (.cells #[.int .u64 sn, .int .u32 M, .int .u8 fl, .slice dvo dl dvc] 90 (0, 0))) (Sep (WLogR q p base size M head nxt) J))) ∧ Only (fun _ => False) w1 W) →
          Calls Try.prog 45 #[.agg #[.int .u64 sn, .int .u32 M, .int .u8 fl, .slice dvo dl dvc]] W fun e w' => ∃ sv, e = .returned sv ∧ Own w0 w' (Sep (DiskR p (D.app base size M nxt xs k)) (Sep (OwnB sv bs) (Sep (Blk b (.cells #[.int .u64 sn, .int .u32 M, .int .u8 fl, .slice dvo dl dvc] 90 (0, 0))) (Sep (WLogR q p base size M head nxt) J))))) := Lib.hid (by
        rintro W ⟨hW, hO⟩
        refine (wbytes_any sn M fl (.slice dvo dl dvc) (pieceN xs k) HS64.out HM.out HF256.out (pieceN_length xs k) W (HDL.out.keep hO)).mono ?_
        rintro e w' ⟨r, rfl, hr, hon⟩
        refine ⟨r, rfl, ?_⟩
        have hwp : (⟨M, fl, pieceN xs k⟩ : Pc) = wPc M xs k := by rw [wPc, HFL.out, HC.out, HNX.out]
        rw [hwp, ← hbs] at hr
        have hOB : OwnB r bs w' (fun k => r.ownBlock = some k) := ⟨own_base hr (Nat.zero_le _), fun _ => Iff.rfl⟩
        exact (hW.fresh hon hOB (fun b hb => (hr.lt b hb).1)).swap)
      have HC3 : Hid (∀ (W : World) (sv : Value), Own w0 W (Sep (DiskR p (D.app base size M nxt xs k)) (Sep (OwnB sv bs) (Sep (Blk b (.cells #[.int .u64 sn, .int .u32 M, .int .u8 fl, .slice dvo dl dvc] 90 (0, 0))) (Sep (WLogR q p base size M head nxt) J)))) →
          Calls Try.prog 30 #[.pointer (some ⟨p, 0, none⟩), .int .i64 rg, sv] W fun e w' => e = .returned (.int .i64 ((D.app base size M nxt xs k).wrE rg bs)) ∧ Own w0 w' (Sep (DiskR p ((D.app base size M nxt xs k).write rg bs)) (Sep (OwnB sv bs) (Sep (Blk b (.cells #[.int .u64 sn, .int .u32 M, .int .u8 fl, .slice dvo dl dvc] 90 (0, 0))) (Sep (WLogR q p base size M head nxt) J))))) := Lib.hid (fun W sv hW =>
        own_write hW (rg : Int) sv bs (fun F B hJ hd' _ _ => OwnB.apart hJ hd') HB1.out HB2.out)
      have HSIX : Hid (∀ (W : World), Own w0 W (Sep (Blk b (.cells #[.int .u64 sn, .int .u32 M, .int .u8 fl, .slice dvo dl dvc] 90 (0, 0))) (Sep (WLogR q p base size M head nxt) J)) → W.cell? ⟨q, 0, none⟩ = some (.pointer (some ⟨p, 0, none⟩)) ∧ W.cell? ⟨b, 0, none⟩ = some (.int .u64 sn) ∧ W.cell? ⟨b, 1, none⟩ = some (.int .u32 M) ∧ W.cell? ⟨b, 2, none⟩ = some (.int .u8 fl) ∧ W.cell? ⟨b, 3, none⟩ = some (.slice dvo dl dvc)) := Lib.hid (fun W hW => by
        obtain ⟨a0, _⟩ := wlog_cells hW.snd.held
        exact ⟨a0, blk_cell hW.held 0 rfl, blk_cell hW.held 1 rfl, blk_cell hW.held 2 rfl, blk_cell hW.held 3 rfl⟩)
      have HRG := Lib.hid hrg
      have HRL := Lib.hid hrl
      clear HQ1 HO1 hW1 hrg hrl hfew hbs hb1
      go_region_held3 (fun w' => w'.cell? ⟨q, 0, none⟩ = some (.pointer (some ⟨p, 0, none⟩)) ∧ w'.cell? ⟨b, 0, none⟩ = some (.int .u64 sn) ∧ w'.cell? ⟨b, 1, none⟩ = some (.int .u32 M) ∧ w'.cell? ⟨b, 2, none⟩ = some (.int .u8 fl) ∧ w'.cell? ⟨b, 3, none⟩ = some (.slice dvo dl dvc))
        (first
          | exact HSIX.out _ HA3.out.snd.snd
          | exact HSIX.out _ HA2.out.snd.snd
          | exact HSIX.out _ HA1.out.1.snd
          | exact HSIX.out _ HQd.out.1.snd)
        (first
          | (go_at_call 44; (with_reducible refine (HC1.out _ HQd.out).mono ?_); rintro e w5 ⟨rfl, ha⟩; have HA1 := Lib.hid ha; clear ha)
          | (go_at_call 45; (with_reducible refine (HC2.out _ HA1.out).mono ?_); rintro e w6 ⟨sv, rfl, ha⟩; have HA2 := Lib.hid ha; clear ha)
          | (go_at_call 30; (with_reducible refine (HC3.out _ _ HA2.out).mono ?_); rintro e w7 ⟨rfl, ha⟩; have HA3 := Lib.hid ha; clear ha))
      clear HC1 HC2 HC3 HSIX HQd HA1 HA2
      have hl64 : (pcB sn (wPc M xs k)).length ≤ 64 := by rw [pcB_length]; have := pieceN_length xs k; show 14 + (pieceN xs k).length ≤ 64; omega
      have hnext : D.app base size M nxt xs (k + 1) = (D.app base size M nxt xs k).write (rg : Int) bs := by
        rw [HRG.out, HBS2.out, HSN.out]
        rfl
      have hwh := write_here (D := D.app base size M nxt xs k) (i := (rg : Int)) (b := bs) ⟨by omega, by have := (app_few D base size M nxt xs k).1; have := HL.out; have := HRL.out; omega⟩ (by rw [HBS2.out]; exact hl64)
      rw [← hnext] at hwh
      have H3 : Hid (Own w0 w7 (Sep (DiskR p (D.app base size M nxt xs (k + 1))) (Sep (WLogR q p base size M head nxt) J))) := Lib.hid (by rw [hnext]; exact HA3.out.drop2.drop2)
      obtain ⟨er, her⟩ : ∃ er, er = (D.app base size M nxt xs k).wrE (rg : Int) bs := ⟨_, rfl⟩
      rw [← her] at hwh ⊢
      clear HA3 her hnext hl64
      by_cases hlast : (D.app base size M nxt xs k).lastB = true
      · obtain ⟨rfl, hdn⟩ := hwh.1 hlast
        have HDN := Lib.hid hdn
        clear hwh hlast hdn
        go_wp2_with fail
        go_roundw
        case rel => exact ⟨k + 1, HLT.out, by go_num, HDN.out, H3⟩
        case measure => have := HLT.out; simp [intOf]; omega
      · obtain ⟨rfl, hdn⟩ := hwh.2 (by simpa using hlast)
        have hEk : E = D.app base size M nxt xs (k + 1) := by
          have := app_down hdn (c - (k + 1))
          rw [HE.out, ← this]
          congr 1
          have := HLT.out
          omega
        rw [← hEk] at H3 hdn
        have HDN := Lib.hid hdn
        clear hwh hlast hdn hEk
        go_wp2_with fail
        go_ret2
        have x1 := HRA.out
        have x2 := HRN.out
        have x3 := HAPP.out
        rw [HDN.out] at x1 x2 x3
        simp only [if_true] at x1 x2
        refine ⟨?_, ?_⟩
        · rw [x1, x3]; rfl
        · rw [x2]
          exact H3.out.swap
    · have hkc : k = c := by omega
      subst hkc
      have hltI : ¬ (k : Int) < (k : Int) := by omega
      have hq := HQ.out.snd.held
      have b5 := (wlog_cells hq).2.2.2.2.2
      have f5 : wr.frozen? ⟨q, 5, none⟩ = false := blk_free hq 5
      have e1 : IntKind.u64.wrap (k : Int) = (k : Int) := by rw [IntKind.wrap_u64]; omega
      have e2 : IntKind.u64.wrap ((nxt : Int) + (k : Int)) = (nxt : Int) + (k : Int) := by rw [IntKind.wrap_u64]; omega
      have HST := Lib.hid (HQ.out.swap.store 5 (.int .u64 ((nxt : Int) + (k : Int))))
      have hdn := HDK.out
      rw [← HE.out] at hdn
      have HDN := Lib.hid hdn
      clear hq HQ hdn
      go_wp2_with fail
      go_ret2
      have x1 := HRA.out
      have x2 := HRN.out
      have x3 := HAPP.out
      rw [HDN.out] at x1 x2 x3
      simp only [Bool.false_eq_true, if_false] at x1 x2
      refine ⟨?_, ?_⟩
      · rw [x1, x3]; rfl
      · rw [x2]
        have h9 : Own w0 _ (Sep (WLogR q p base size M head (nxt + k)) (Sep (DiskR p (D.app base size M nxt xs k)) J)) := HST.out
        rw [← HE.out] at h9
        exact h9

end Go.Proofs.Ytbimhiffcdhcaaa

namespace Go.Proofs.Ytbimhiffcdhcaaa
open Go Go.RowKit Go.Lib
set_option linter.unusedVariables false
set_option linter.unusedSimpArgs false
set_option maxRecDepth 100000

/-- The piece that is written next, behind what was found. -/
def nextOf (head : Nat) (rs : List RecT) : Nat := if rs.length = 0 then head else (rs.getD (rs.length - 1) (0, 0, [])).2.1

set_option maxRecDepth 100000 in
set_option maxHeartbeats 4000000 in
theorem own_open {w0 w : World} {p : Nat} {D : DS} {J : Res} [Stab J] (h : Own w0 w (Sep (DiskR p D) J)) (base size least M head : Nat) (hs4 : 4 ≤ size) (h655 : size ≤ 655) (hl : base + size ≤ D.n) (hl0 : 0 < least) (hlm : least ≤ M) (hh0 : 0 < head) (hh : head ≤ 4611686018427387904) :
    Calls Try.prog 14 #[.pointer (some ⟨p, 0, none⟩), .int .i64 base, .int .i64 size, .int .u32 least, .int .u32 M, .int .u64 head] w fun e w' => ∃ q v, e = .returned (.tuple #[.pointer (some ⟨q, 0, none⟩), v, .int .i64 0]) ∧
      Own w0 w' (Sep (WLogR q p base size M head (nextOf head (D.found base size least M head))) (Sep (RecsR 68 v (D.found base size least M head)) (Sep (DiskR p D) J))) := by
  obtain ⟨gn, gk, vw, hD⟩ := h.disk
  have HSZ := Lib.hid (disk_size hD)
  have h4 := hD.ok.n
  obtain ⟨zb, hzb⟩ : ∃ zb : Int, zb = (base : Int) := ⟨_, rfl⟩
  obtain ⟨zs, hzs⟩ : ∃ zs : Int, zs = (size : Int) := ⟨_, rfl⟩
  obtain ⟨zn, hzn⟩ : ∃ zn : Int, zn = (D.n : Int) := ⟨_, rfl⟩
  rw [← hzn] at HSZ
  have f1 : ¬ zb < 0 := by omega
  have f2 : ¬ zs < 4 := by omega
  have e3 : IntKind.i64.wrap (zn - zs) = zn - zs := IntWalk.i64_in _ (by omega)
  have f3 : ¬ zn - zs < zb := by omega
  have f4 : ¬ (least : Int) = 0 := by omega
  have f4N : ¬ least = 0 := by omega
  have f4B : ((least : Int) == 0) = false := by simpa using f4
  have f5 : ¬ (M : Int) < (least : Int) := by omega
  have f5N : ¬ M < least := by omega
  have f6 : ¬ (head : Int) = 0 := by omega
  have f6N : ¬ head = 0 := by omega
  have f6B : ((head : Int) == 0) = false := by simpa using f6
  obtain ⟨zh, hzh⟩ : ∃ zh : Int, zh = (head : Int) := ⟨_, rfl⟩
  have f7 : ¬ (4611686018427387904 : Int) < zh := by omega
  have f8 : ¬ zh = 0 := by omega
  have f8B : (zh == 0) = false := by simpa using f8
  have g1 : decide (zb < 0) = false := decide_eq_false f1
  have g2 : decide (zs < 4) = false := decide_eq_false f2
  have g3 : decide (zn - zs < zb) = false := decide_eq_false f3
  have g5 : decide ((M : Int) < (least : Int)) = false := decide_eq_false f5
  have g7 : decide ((4611686018427387904 : Int) < zh) = false := decide_eq_false f7
  rw [← hzb, ← hzs, ← hzh]
  have HZB := Lib.hid hzb
  have HZS := Lib.hid hzs
  have HZH := Lib.hid hzh
  obtain ⟨q, hq⟩ : ∃ q, q = w.heap.size := ⟨_, rfl⟩
  obtain ⟨W1, hW1⟩ : ∃ W1, W1 = w.alloc (.cells #[.pointer (some ⟨p, 0, none⟩), .int .i64 zb, .int .i64 zs, .int .u32 M, .int .u64 zh, .int .u64 zh] 81) := ⟨_, rfl⟩
  have h1 : Own w0 W1 (Sep (WLogR q p base size M head head) (Sep (DiskR p D) J)) := by
    have := h.alloc (.cells #[.pointer (some ⟨p, 0, none⟩), .int .i64 zb, .int .i64 zs, .int .u32 M, .int .u64 zh, .int .u64 zh] 81 (0, 0))
    rw [← hq] at this
    rw [hW1]
    rw [hzb, hzs, hzh] at this ⊢
    exact this
  have HC := Lib.hid (own_records h1 least (by omega) h655 (by omega) hl h4 hlm)
  obtain ⟨rs, hrs⟩ : ∃ rs, rs = D.found base size least M head := ⟨_, rfl⟩
  rw [← hrs] at HC ⊢
  have HLN : Hid (rs.length ≤ 655) := Lib.hid (by rw [hrs]; exact Nat.le_trans (wAll_len _ _ _ _ _ _) h655)
  have HQ := Lib.hid hq
  have HW1 := Lib.hid hW1
  clear h hD h4 hzb hzs hzn hzh hs4 h655 hl hl0 hlm hh0 hh h1 hq hW1 hrs
  go_enter Try.func14, Try.ntmps14
  go_wp2_with fail
  refine HSZ.out.mono ?_
  rintro e w' ⟨rfl, rfl⟩
  go_upto_region 8 with fail
  rw [← HW1.out, ← HQ.out]
  clear f1 f2 e3 f3 f4 f4N f4B f5 f5N f6 f6N f6B f7 f8 f8B g1 g2 g3 g5 g7 HSZ
  go_wp2_with fail
  refine HC.out.mono ?_
  rintro e w2 ⟨v, rfl, h2⟩
  obtain ⟨ao, cap, hv⟩ := RecsR.shape h2
  obtain ⟨n, hn⟩ : ∃ n, n = rs.length := ⟨_, rfl⟩
  rw [← hn] at hv HLN
  subst hv
  have HN := Lib.hid hn
  by_cases hn0 : n = 0
  · have hnI : ¬ (0 : Int) < (n : Int) := by omega
    have H2 := Lib.hid h2
    have HX : Hid (nextOf head rs = head) := Lib.hid (by unfold nextOf; rw [if_pos (by rw [← hn]; exact hn0)])
    clear h2 hn hn0 HC
    go_wp2_with fail
    refine bodyPost_ret (v := .tuple #[.pointer (some ⟨q, 0, none⟩), .slice ao n cap, .int .i64 0]) (by simp [results, Try.results14, go_sem]) rfl ?_
    refine ⟨q, .slice ao n cap, rfl, ?_⟩
    rw [HX.out]
    exact H2.out.ac (by ac_rfl)
  · have hnI : (0 : Int) < (n : Int) := by omega
    obtain ⟨k, hk⟩ : ∃ k, n = k + 1 := ⟨n - 1, by omega⟩
    have hkI : (n : Int) - 1 = (k : Int) := by omega
    have hkw : IntKind.i64.wrap ((n : Int) - 1) = (k : Int) := by rw [IntWalk.i64_in _ (by have := HLN.out; omega)]; exact hkI
    have hk0 : (0 : Int) ≤ (k : Int) := by omega
    have hkn : (k : Int) < (n : Int) := by omega
    obtain ⟨g, dv, rfl, d0, d1, d2, _⟩ := rec_cells hn h2 (k := k) (by omega)
    have HX : Hid (nextOf head rs = (rs.getD k (0, 0, [])).2.1) := Lib.hid (by unfold nextOf; rw [if_neg (by omega), show rs.length - 1 = k by omega])
    obtain ⟨x, hx⟩ : ∃ x : Nat, x = (rs.getD k (0, 0, [])).2.1 := ⟨_, rfl⟩
    rw [← hx] at d1 HX
    have hq3 : Own w0 w2 (Sep (WLogR q p base size M head head) (Sep (RecsR 68 (.slice (some ⟨g, 0, none⟩) n cap) rs) (Sep (DiskR p D) J))) := h2.ac (by ac_rfl)
    have b5 := (wlog_cells hq3.held).2.2.2.2.2
    have k5 : w2.frozen? ⟨q, 5, none⟩ = false := blk_free hq3.held 5
    have HG := Lib.hid (hq3.store 5 (.int .u64 x))
    clear h2 hq3 hn hn0 HC hk hx hkI
    go_wp2_with fail
    refine bodyPost_ret (v := .tuple #[.pointer (some ⟨q, 0, none⟩), .slice (some ⟨g, 0, none⟩) n cap, .int .i64 0]) (by simp [results, Try.results14, go_sem]) rfl ?_
    refine ⟨q, .slice (some ⟨g, 0, none⟩) n cap, rfl, ?_⟩
    rw [HX.out]
    exact HG.out

end Go.Proofs.Ytbimhiffcdhcaaa

namespace Go.Proofs.Ytbimhiffcdhcaaa
open Go Go.RowKit Go.Lib
set_option linter.unusedVariables false
set_option linter.unusedSimpArgs false
set_option maxRecDepth 100000

/-- A log on a disk with power: the records A stand in it; so many writes at most were made. -/
structure LogOk (D : DS) (base size head nxt M : Nat) (A : List (List UInt8)) (c : Nat) : Prop where
  ring : RingOk D base size head M A
  nx : nxt = head + pcnt (tagM M A)
  w : D.W.length ≤ c
  wr : D.wr ≤ c

theorem own_append_fit {w0 w : World} {q p base size M head nxt c : Nat} {D : DS} {A : List (List UInt8)} {J : Res} [Stab J] (h : Own w0 w (Sep (WLogR q p base size M head nxt) (Sep (DiskR p D) J))) (hL : LogOk D base size head nxt M A c) (hc : c ≤ 900000) (hnum : nxt ≤ 9223372036854770000)
    (vo : Option Addr) (n vc : Nat) (xs : List UInt8) (hnx : n = xs.length) (hvc : n ≤ vc) (hv : ∀ (w' : World) (B : Nat → Prop), J w' B → Only (fun _ => False) w0 w' → SlC w' (.slice vo n vc) xs) (hx : n ≤ 32768) (hfit : pcnt (tagM M A) + cntN n ≤ size) :
    Calls Try.prog 17 #[.pointer (some ⟨q, 0, none⟩), .slice vo n vc] w fun e w' => e = .returned (.tuple #[.int .u64 nxt, .int .i64 0]) ∧
      ∃ D', LogOk D' base size head (nxt + cntN n) M (A ++ [xs]) (c + size) ∧ D'.n = D.n ∧ Own w0 w' (Sep (WLogR q p base size M head (nxt + cntN n)) (Sep (DiskR p D') J)) := by
  obtain ⟨hR, hnxt, hw, hwr⟩ := hL
  have h4 : D.n ≤ 4096 := hR.up.ok.n
  refine (wlog_append_go h vo n vc xs hnx hvc hv hx (by omega) hnum hR.m hR.pos hR.lies h4 hR.up.d (by omega) (by omega) (by omega)).mono ?_
  rintro e w' ⟨rfl, h'⟩
  have hR' := hR.append xs (by omega) (by rw [← hnx]; exact hfit) hnxt
  rw [← hnx] at hR'
  have hd := hR'.up.d
  have hE : appE D base size M nxt xs = 0 := by unfold appE; rw [← hnx, hd]; rfl
  simp only [hd, Bool.false_eq_true, if_false] at h'
  simp only [hE, hd, Bool.false_eq_true, if_false]
  have hf := app_few D base size M nxt xs (cntN n)
  refine ⟨rfl, _, ⟨hR', ?_, by omega, by omega⟩, hf.1, h'⟩
  rw [tagM_append, pcnt_append, tagM_one, pcnt_one, ← hnx, hnxt]
  omega
theorem hv_row {w0 : World} {g n c : Nat} {t : TypeId} {xs : List UInt8} {fr : Nat × Nat} {J : Res} (hn : n = xs.length) : ∀ (w' : World) (B : Nat → Prop), Sep (Row g t xs fr) J w' B → Only (fun _ => False) w0 w' → SlC w' (.slice (some ⟨g, 0, none⟩) n c) xs := by
  rintro w' B ⟨A, C, hA, _⟩ _
  exact row_bytes' hA.1 hn
theorem hv_arg {w0 : World} {v : Value} {xs : List UInt8} {J : Res} (h : SlC w0 v xs) : ∀ (w' : World) (B : Nat → Prop), J w' B → Only (fun _ => False) w0 w' → SlC w' v xs := fun w' B _ ho => h.keep ho
theorem LogOk.found {D : DS} {base size head nxt M c : Nat} {A : List (List UInt8)} (h : LogOk D base size head nxt M A c) {least mount : Nat} (hl : least ≤ M) (hm : M ≤ mount) : D.found base size least mount head = recsAt head (tagM M A) := h.ring.found hl hm
theorem LogOk.new {n base size head M : Nat} (hn : n ≤ 4096) (hp : 0 < size) (hl : base + size ≤ n) (h0 : 0 < head) (hM : M < 4294967296) (h1 : head + size ≤ 9223372036854775808) : LogOk (DS.new n) base size head head M [] 0 :=
  ⟨RingOk.new hn hp hl h0 hM h1, by simp [tagM, pcnt], by simp [DS.new], by simp [DS.new]⟩
theorem nextOf_recsAt : ∀ (A : List (Nat × List UInt8)) (s : Nat), nextOf s (recsAt s A) = s + pcnt A
  | [], s => rfl
  | [x], s => by simp [recsAt, nextOf, pcnt]
  | x :: y :: A, s => by
    have ih := nextOf_recsAt (y :: A) (s + cntN x.2.length)
    rw [pcnt_cons, ← Nat.add_assoc, ← ih]
    unfold nextOf
    have hl : (recsAt s (x :: y :: A)).length = (recsAt (s + cntN x.2.length) (y :: A)).length + 1 := by simp [recsAt]
    have h0 : (recsAt (s + cntN x.2.length) (y :: A)).length ≠ 0 := by simp [recsAt]
    rw [if_neg (by omega), if_neg h0, hl]
    obtain ⟨k, hk⟩ : ∃ k, (recsAt (s + cntN x.2.length) (y :: A)).length = k + 1 := ⟨_, (Nat.succ_pred_eq_of_ne_zero h0).symm⟩
    rw [hk]
    show ((s, s + cntN x.2.length, x.2) :: recsAt (s + cntN x.2.length) (y :: A)).getD (k + 1) (0, 0, []) |>.2.1 = _
    simp
theorem recsAt_length : ∀ (A : List (Nat × List UInt8)) (s : Nat), (recsAt s A).length = A.length
  | [], _ => rfl
  | x :: A, s => by simp [recsAt, recsAt_length A]

/-- Room, as a call of one's own part. -/
theorem own_room {w0 w : World} {q p base size M head nxt : Nat} {J : Res} [Stab J] (h : Own w0 w (Sep (WLogR q p base size M head nxt) J)) (hh : head ≤ nxt) (hn : nxt < 9223372036854775808) (hs : size ≤ 4096) (rm : Nat) (hr : rm + nxt = size + head) :
    Calls Try.prog 21 #[.pointer (some ⟨q, 0, none⟩)] w fun e w' => e = .returned (.int .i64 rm) ∧ Own w0 w' (Sep (WLogR q p base size M head nxt) J) := by
  refine (wroom_any h.held hh hn hs).mono ?_
  rintro e w' ⟨rfl, n, rfl⟩
  exact ⟨by rw [show (size : Int) - ((nxt : Int) - (head : Int)) = (rm : Int) by omega], h.drewN n⟩

theorem run_make_bytes (n : Nat) (hn : n ≤ 100000) (w : World) : (Instr.makeSlice 48 (.int .i64 (n : Int)) (.int .i64 (n : Int))).run Try.prog w =
    .ok (.slice (some ⟨w.heap.size, 0, none⟩) n n) (w.alloc (.cells (u8s (List.replicate n 0)).toArray 5)) := by
  obtain ⟨i, hi, hz, hs, hb⟩ := info_parts Try.infoU8
  have := run_make (P := Try.prog) w 48 5 i (.int .u8 0) Try.underlying48 hi hz .i64 .i64 (n : Int) (n : Int) (by omega) (Int.le_refl _) (by rw [hb]; omega) (by omega)
  rw [this]
  have e : madeCells (Value.int IntKind.u8 0).cells (n * 1) = (u8s (List.replicate n 0)).toArray := by
    apply Array.ext_getElem?
    intro j
    by_cases h : j < n
    · simp [madeCells, u8s, h, Value.cells, Nat.mod_one]
    · simp [madeCells, u8s, h, Value.cells]
  simp only [Int.toNat_natCast, hs, e]

end Go.Proofs.Ytbimhiffcdhcaaa
