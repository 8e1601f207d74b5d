/-
  The laws' first question of keys: a program that does nothing is told.
-/
import Derived.Test.YtpedcpehomkikaaDoorKey8
import Derived.Test.YtpedcpehomkikaaDoorKey9
namespace Go.Proofs.YtpedcpehomkikaaDoor
open Go Go.RowKit
set_option linter.unusedVariables false
set_option linter.unusedSimpArgs false
set_option maxRecDepth 100000

theorem aw_enc : encE [⟨5, 0, [97]⟩, ⟨3, 1, []⟩] [false, true] = ([1, 97, 0, 0, 254, 254], 0) := by decide +kernel
theorem aw_dec : decE [5, 3] [false, true] [1, 97, 0, 0, 254, 254] = ([⟨5, 0, [97]⟩, ⟨3, 1, []⟩], 0) := by decide +kernel
theorem aw_aft : hiL [97, 255] = [98] ∧ opL [97, 255] = false := by decide +kernel
theorem aw_in : inL [97] [99] false [98] = true := by decide +kernel

theorem slv_two {w : World} {g : Nat} {a b : Vv} {t : TypeId} (h : w.heap[g]? = some (.cells #[.int .i64 a.K, .int .u64 a.N, .string a.S, .int .i64 b.K, .int .u64 b.N, .string b.S] t (0, 0))) (ha : U64 a.N) (hb : U64 b.N) : SlV w (some ⟨g, 0, none⟩) [a, b] := by
  intro j hj
  simp only [List.length_cons, List.length_nil] at hj
  have : j = 0 ∨ j = 1 := by omega
  rcases this with rfl | rfl
  · exact ⟨g, 0, rfl, by simp [World.cell?, h], by simp [World.cell?, h], by simp [World.cell?, h], ha⟩
  · exact ⟨g, 0, rfl, by simp [World.cell?, h], by simp [World.cell?, h], by simp [World.cell?, h], hb⟩
theorem slbo_two {w : World} {g : Nat} {a b : Bool} {t : TypeId} (h : w.heap[g]? = some (.cells #[.bool a, .bool b] t (0, 0))) : SlBo w (some ⟨g, 0, none⟩) [a, b] := by
  intro j hj
  simp only [List.length_cons, List.length_nil] at hj
  have : j = 0 ∨ j = 1 := by omega
  rcases this with rfl | rfl
  · exact ⟨g, 0, rfl, by simp [World.cell?, h]⟩
  · exact ⟨g, 0, rfl, by simp [World.cell?, h]⟩
theorem sli_two {w : World} {g : Nat} {a b : Int} {t : TypeId} (h : w.heap[g]? = some (.cells #[.int .i64 a, .int .i64 b] t (0, 0))) : SlI w (some ⟨g, 0, none⟩) [a, b] := by
  intro j hj
  simp only [List.length_cons, List.length_nil] at hj
  have : j = 0 ∨ j = 1 := by omega
  rcases this with rfl | rfl
  · exact ⟨g, 0, rfl, by simp [World.cell?, h]⟩
  · exact ⟨g, 0, rfl, by simp [World.cell?, h]⟩
theorem two_rows (w : World) (a b : Array Value) (s t : TypeId) :
    ((w.alloc (.cells a s)).alloc (.cells b t)).heap[w.heap.size]? = some (.cells a s (0, 0)) ∧ ((w.alloc (.cells a s)).alloc (.cells b t)).heap[w.heap.size + 1]? = some (.cells b t (0, 0)) := by
  constructor
  · rw [Below.heap_alloc _ _ _ (by simp)]
    exact heap_alloc_new w _
  · have := heap_alloc_new (w.alloc (.cells a s)) (.cells b t)
    simpa using this
theorem only_two (w : World) (a b : Obj) : Only (fun _ => False) w ((w.alloc a).alloc b) := ((Only.refl _ w).alloc a).alloc b
theorem only_b {w w' : World} (h : Only (fun _ => False) w w') : Below w.heap.size w w' := h.below (Nat.le_refl _) (fun _ h => h.elim)
theorem str_of {s : List UInt8} {t : ByteArray} (h : s = t.toList) : (⟨s.toArray⟩ : ByteArray) = t := ba_eq (by rw [ba_mk1, h])

theorem aw_encode (w : World) (hT : UTab w) :
    Calls Tryd.prog 10 #[.slice (some ⟨w.heap.size, 0, none⟩) 2 2, .slice (some ⟨w.heap.size + 1, 0, none⟩) 2 2] ((w.alloc (.cells #[.int .i64 5, .int .u64 0, .string ⟨#[97]⟩, .int .i64 3, .int .u64 1, .string ⟨#[]⟩] 35)).alloc (.cells #[.bool false, .bool true] 4)) fun e w' =>
      e = .returned (.tuple #[.string ⟨#[1, 97, 0, 0, 254, 254]⟩, .int .i64 0]) ∧ Below w.heap.size w w' := by
  obtain ⟨h1, h2⟩ := two_rows w #[.int .i64 5, .int .u64 0, .string ⟨#[97]⟩, .int .i64 3, .int .u64 1, .string ⟨#[]⟩] #[.bool false, .bool true] 35 4
  have ho := only_two w (.cells #[.int .i64 5, .int .u64 0, .string ⟨#[97]⟩, .int .i64 3, .int .u64 1, .string ⟨#[]⟩] 35) (.cells #[.bool false, .bool true] 4)
  refine (encode_any (some ⟨w.heap.size, 0, none⟩) (some ⟨w.heap.size + 1, 0, none⟩) 2 2 2 2 [⟨5, 0, ⟨#[97]⟩⟩, ⟨3, 1, ⟨#[]⟩⟩] [false, true] _ (hT.keep (only_b ho)) (slv_two h1 ⟨by decide, by decide⟩ ⟨by decide, by decide⟩) (slbo_two h2) rfl rfl (by decide)).mono ?_
  rintro e w' ⟨s, er, rfl, he, hq⟩
  rw [show (([⟨5, 0, ⟨#[97]⟩⟩, ⟨3, 1, ⟨#[]⟩⟩] : List Vv).map Vv.vl) = [⟨5, 0, [97]⟩, ⟨3, 1, []⟩] from by
    show ([⟨5, 0, (ByteArray.mk #[97]).toList⟩, ⟨3, 1, (ByteArray.mk #[]).toList⟩] : List Vl) = _
    rw [ba_nil, show (ByteArray.mk #[97]).toList = [97] from ByteArray.toList_mk [97]], aw_enc] at he
  simp only [Prod.mk.injEq] at he
  obtain ⟨rfl, rfl⟩ := he
  exact ⟨rfl, only_b (ho.trans hq (fun _ _ h => h))⟩
theorem aw_decode (w : World) (hT : UTab w) :
    Calls Tryd.prog 12 #[.slice (some ⟨w.heap.size, 0, none⟩) 2 2, .slice (some ⟨w.heap.size + 1, 0, none⟩) 2 2, .string ⟨#[1, 97, 0, 0, 254, 254]⟩] ((w.alloc (.cells #[.int .i64 5, .int .i64 3] 3)).alloc (.cells #[.bool false, .bool true] 4)) fun e w' =>
      ∃ g c, e = .returned (.tuple #[.slice (some ⟨g, 0, none⟩) 2 c, .int .i64 0]) ∧ w'.cell? ⟨g, 4, none⟩ = some (.int .u64 1) ∧ Below w.heap.size w w' := by
  obtain ⟨h1, h2⟩ := two_rows w #[.int .i64 5, .int .i64 3] #[.bool false, .bool true] 3 4
  have ho := only_two w (.cells #[.int .i64 5, .int .i64 3] 3) (.cells #[.bool false, .bool true] 4)
  refine (decode_any (some ⟨w.heap.size, 0, none⟩) (some ⟨w.heap.size + 1, 0, none⟩) 2 2 2 2 [5, 3] [false, true] ⟨#[1, 97, 0, 0, 254, 254]⟩ _ (hT.keep (only_b ho)) (sli_two h1) (slbo_two h2) rfl rfl (by decide)).mono ?_
  rintro e w' ⟨lv, vs, er, rfl, he, _, hq⟩
  rw [show (ByteArray.mk #[1, 97, 0, 0, 254, 254]).toList = [1, 97, 0, 0, 254, 254] from ByteArray.toList_mk [1, 97, 0, 0, 254, 254], aw_dec] at he
  simp only [Prod.mk.injEq] at he
  obtain ⟨hv, rfl⟩ := he
  have hlen : vs.length = 2 := by simpa using congrArg List.length hv
  match vs, hlen, hv, hq with
  | [a, b], _, hv, hq =>
    simp only [List.map_cons, List.map_nil, List.cons.injEq, Vl.mk.injEq, and_true] at hv
    obtain ⟨F, ⟨hown, _⟩, _, hout⟩ := hq
    have hbN : b.N = 1 := by omega
    rcases hown.2 with ⟨_, h0⟩ | ⟨g, cap, cur, rfl, _, hg, hc, hm, hs, ht⟩
    · simp at h0
    · refine ⟨g, cap, rfl, ?_, only_b (ho.trans hout (fun _ _ h => h))⟩
      have := hown.cellAt 4 (by simp [vcells])
      rw [this]
      simp [vcells, hbN]

set_option maxHeartbeats 4000000 in
theorem kawake_any (w : World) (hT : UTab w) : Calls Tryd.prog 9 #[] w fun e w' => e = .returned (.bool true) ∧ Below w.heap.size w w' := by
  have HT := Lib.hid hT
  clear hT
  go_enter Tryd.func9, Tryd.ntmps9
  go_wp2_with fail
  refine (aw_encode w HT.out).mono ?_
  rintro e w1 ⟨rfl, hb1⟩
  have H1 := Lib.hid hb1
  clear hb1
  go_wp2_with fail
  refine (aw_decode w1 (HT.out.keep H1.out)).mono ?_
  rintro e w2 ⟨g, c, rfl, hc, hb2⟩
  have H2 := Lib.hid (H1.out.trans (hb2.mono H1.out.size))
  have HC := Lib.hid hc
  clear hb2 hc
  go_wp2_with fail
  refine (after_any ⟨#[97, 255]⟩ w2 (by decide)).mono ?_
  rintro e w3 ⟨t, rfl, ht, hb3⟩
  rw [show (ByteArray.mk #[97, 255]).toList = [97, 255] from ByteArray.toList_mk [97, 255]] at ht ⊢
  rw [aw_aft.1] at ht
  rw [aw_aft.2]
  obtain rfl : t = ⟨#[98]⟩ := ba_eq (by rw [ht]; exact (ByteArray.toList_mk [98]).symm)
  have hc := keep0 HC.out hb3
  have H3 := Lib.hid (H2.out.trans (hb3.mono H2.out.size))
  clear hb3 ht
  go_wp2_with fail
  refine (in_any ⟨#[97]⟩ ⟨#[99]⟩ ⟨#[98]⟩ false w3).mono ?_
  rintro e w4 ⟨rfl, hb4⟩
  rw [show (ByteArray.mk #[97]).toList = [97] from ByteArray.toList_mk [97], show (ByteArray.mk #[99]).toList = [99] from ByteArray.toList_mk [99], show (ByteArray.mk #[98]).toList = [98] from ByteArray.toList_mk [98], aw_in]
  have H4 := Lib.hid (H3.out.trans (hb4.mono H3.out.size))
  clear hb4 hc
  go_wp2
  go_ret
  exact ⟨rfl, H4.out⟩

end Go.Proofs.YtpedcpehomkikaaDoor
