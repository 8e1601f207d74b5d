/-
  Bytes read back from their digits: package value's unhex and unescape.
-/
import Derived.Test.YtcpfohjejhkgbaaDoorVal9
namespace Go.Proofs.YtcpfohjejhkgbaaDoor
open Go Go.RowKit
set_option linter.unusedVariables false
set_option linter.unusedSimpArgs false
set_option maxRecDepth 100000

theorem syn_cell {w : World} (h : Tabs w) : ∃ tp p, w.cell? ⟨3, 0, none⟩ = some (.iface tp p) := by
  obtain ⟨tp, p, h⟩ := h.syn
  refine ⟨tp, p, ?_⟩
  have := World.var?_cell (show Tryd.prog.globalNamed "strconv.ErrSyntax" = some 3 by kernel_rfl) h 0
  simpa using this
set_option maxHeartbeats 1000000 in
theorem parse16_any (s : ByteArray) (a b : UInt8) (hs : s.toList = [a, b]) (w : World) (hT : Tabs w) :
    Calls Tryd.prog 42 #[.string s, .int .i64 16, .int .i64 8] w fun e w' => ∃ (n : Int) (ev : Value), e = .returned (.tuple #[.int .u64 n, ev]) ∧ HexPost a b n ∧ Below w.heap.size w w' := by
  have hb0 := Lib.bytesWorld_below w 5 s
  have HB := Lib.hid hb0
  have HT := Lib.hid (hT.keep hb0)
  have HI := Lib.hid (hex_inner s a b hs w)
  have HSZ : Hid (s.size ≤ 281474976710656) := Lib.hid (by rw [← ba_size, hs]; simp)
  clear hb0 hT hs
  go_enter Tryd.func42, Tryd.ntmps42
  go_wp2_with fail
  refine HI.out.mono ?_
  rintro e w1 ⟨n, ev, rfl, hev, hp, rfl⟩
  have HP := Lib.hid hp
  clear hp HI
  rcases hev with rfl | rfl
  · go_wp2
    go_ret2
    exact ⟨n, _, rfl, HP.out, HB.out⟩
  · obtain ⟨tp, p, hc⟩ := syn_cell HT.out
    have HC := Lib.hid hc
    clear hc
    go_wp2_with fail
    refine (Tryd.strconv_toError_syntax _ _ _ _ _ _ HSZ.out HC.out (.inr ⟨tp, p, rfl⟩)).mono ?_
    rintro e w2 ⟨N, rfl, _, _, hb2⟩
    have H2 := Lib.hid (HB.out.trans (hb2.mono HB.out.size))
    clear hb2
    go_wp2
    go_ret2
    exact ⟨n, _, rfl, HP.out, H2.out⟩

theorem bl_mk0 (l : List UInt8) : (ByteArray.mk l.toArray).size = l.length := by rw [← ba_size, ByteArray.toList_mk]
def strLen : Value → Nat | .string t => t.size | _ => 0
/-- What has been read of digits s: l, and t is left. -/
def UnAt (s : ByteArray) (l : List UInt8) (t : ByteArray) : Prop := 2 * l.length + t.size = s.size ∧ ∀ T, s.toList = hexB T → ∃ T2, T = l ++ T2 ∧ t.toList = hexB T2
theorem hexd_lt (i : Nat) (h : i < 16) : half (hexd i) < 16 := by rw [half_hex h]; exact h
theorem UnAt.step {s t u : ByteArray} {l : List UInt8} {a b c : UInt8} {r : List UInt8} {n : Int} (h : UnAt s l t) (ht : t.toList = a :: b :: r) (hu : u.toList = r) (hp : HexPost a b n) (hc : (c.toNat : Int) = n) : UnAt s (l ++ [c]) u := by
  obtain ⟨h1, h2⟩ := h
  have ht' := congrArg List.length ht
  have hu' := congrArg List.length hu
  rw [ba_size] at ht' hu'
  simp only [List.length_cons] at ht'
  refine ⟨by rw [List.length_append, List.length_singleton]; omega, fun T hT => ?_⟩
  obtain ⟨T2, rfl, e⟩ := h2 T hT
  rw [ht] at e
  cases T2 with
  | nil => simp [hexB] at e
  | cons y T3 =>
    simp only [hexB, List.cons.injEq] at e
    obtain ⟨ea, eb, er⟩ := e
    have hy := y.toNat_lt
    have := hp.2.2 (by rw [ea]; exact hexd_lt _ (by omega)) (by rw [eb]; exact hexd_lt _ (by omega))
    rw [ea, eb, half_hex (by omega), half_hex (by omega)] at this
    have hcy : c = y := UInt8.toNat_inj.1 (by omega)
    subst hcy
    exact ⟨T3, by simp, by rw [hu, er]⟩
theorem two_of {t : ByteArray} (h : 2 ≤ t.size) : ∃ a b r, t.toList = a :: b :: r ∧ (t.extract 0 2).toList = [a, b] ∧ (t.extract 2 t.size).toList = r := by
  have hl := ba_size t
  rw [ByteArray.toList_eq] at hl
  match hd : t.data.toList, hl with
  | a :: b :: r, _ =>
    refine ⟨a, b, r, by rw [ByteArray.toList_eq, hd], ?_, ?_⟩
    · rw [ByteArray.toList_eq, Lib.extract_data, hd]; rfl
    · rw [ByteArray.toList_eq, Lib.extract_to_end, hd]; rfl
  | [_], hl => simp at hl; omega
  | [], hl => simp at hl; omega

set_option maxHeartbeats 2000000 in
theorem unhex_any (s : ByteArray) (hs : s.size ≤ 4096) (w : World) (hT : Tabs w) :
    Calls Tryd.prog 38 #[.string s] w fun e w' => ∃ l : List UInt8, e = .returned (.string ⟨l.toArray⟩) ∧ 2 * l.length ≤ s.size ∧ (∀ T, s.toList = hexB T → l = T) ∧ Below w.heap.size w w' := by
  have HT := Lib.hid hT
  clear hT
  go_enter Tryd.func38, Tryd.ntmps38
  go_wp2
  go_loopw [0] (fun s0 wr => ∃ (t : ByteArray) (l : List UInt8), s0 = .string t ∧ Hid (UnAt s l t) ∧ Hid (Bld w w.heap.size l wr)) (fun s0 _ => strLen s0)
  case atStart => exact ⟨s, [], rfl, Lib.hid ⟨by simp, fun T h => ⟨T, rfl, h⟩⟩, Lib.hid (Bld.fresh w)⟩
  case round =>
    obtain ⟨t, l, rfl, HU, HB⟩ := hrel
    by_cases h2 : 2 ≤ t.size
    · obtain ⟨a, b, r, ht, hab, hr⟩ := two_of h2
      have HTL := Lib.hid ht
      obtain ⟨x, hx⟩ : ∃ x, t.extract 0 2 = x := ⟨_, rfl⟩
      obtain ⟨y, hy⟩ : ∃ y, t.extract 2 t.size = y := ⟨_, rfl⟩
      have HAB : Hid (x.toList = [a, b]) := Lib.hid (by rw [← hx]; exact hab)
      have HR : Hid (y.toList = r) := Lib.hid (by rw [← hy]; exact hr)
      have hge : (2 : Int) ≤ t.size := by omega
      have HL : Hid (l.length ≤ 4096) := Lib.hid (by have := HU.out.1; omega)
      have HYS : Hid (y.size < t.size) := Lib.hid (by
        have e1 := congrArg List.length HTL.out
        have e2 := congrArg List.length HR.out
        rw [ba_size] at e1 e2
        simp only [List.length_cons] at e1
        omega)
      have HTR := Lib.hid (HT.out.keep HB.out.below)
      clear ht hab hr h2
      go_wp2_with fail
      refine (parse16_any x a b HAB.out _ HTR.out).mono ?_
      rintro e w1 ⟨n, ev, rfl, hp, hb1⟩
      have H1 := Lib.hid (HB.out.old hb1)
      obtain ⟨c, hc⟩ : ∃ c : UInt8, (c.toNat : Int) = n := ⟨UInt8.ofNat n.toNat, by have := hp.1; have := hp.2.1; simp; omega⟩
      have n0 := hp.1
      have n1 := hp.2.1
      have HC := Lib.hid hc
      have HP := Lib.hid hp
      clear hb1 hp hc HB
      go_wp2_with fail
      refine (H1.out.wbyte (by have := HL.out; omega) c _ HC.out.symm).mono ?_
      rintro e w2 ⟨rfl, hb2⟩
      have H2 := Lib.hid hb2
      clear hb2 H1
      go_wp2_with fail
      go_roundw
      case rel => exact ⟨y, l ++ [c], rfl, Lib.hid (HU.out.step HTL.out HR.out HP.out HC.out), H2⟩
      case measure => have := HYS.out; simp [strLen]; omega
    · have hlt : ¬ (2 : Int) ≤ t.size := by omega
      have HF : Hid (2 * l.length ≤ s.size ∧ ∀ T, s.toList = hexB T → l = T) := Lib.hid (by
        refine ⟨by have := HU.out.1; omega, fun T hT => ?_⟩
        obtain ⟨T2, rfl, e⟩ := HU.out.2 T hT
        have el := congrArg List.length e
        rw [ba_size, hexB_length] at el
        have : T2 = [] := List.eq_nil_of_length_eq_zero (by omega)
        rw [this, List.append_nil])
      clear h2
      go_wp2_with fail
      refine (HB.out.string).mono ?_
      rintro e w1 ⟨rfl, hb⟩
      have H := Lib.hid hb
      clear hb HB
      go_wp2_with fail
      go_ret
      exact ⟨l, rfl, HF.out.1, HF.out.2, H.out⟩

/-- What has been read of a text's inner bytes s in front of place k: l. -/
def EsAt (s : ByteArray) (k : Nat) (l : List UInt8) : Prop := l.length ≤ k ∧ ∀ T, s.toList = escB T → ∃ T2, T = l ++ T2 ∧ s.toList.drop k = escB T2
theorem drop_get (s : ByteArray) (k : Nat) (h : k < s.size) : s.toList.drop k = s[k] :: s.toList.drop (k + 1) := by
  have h2 : k < s.toList.length := by rw [ba_size]; exact h
  rw [List.drop_eq_getElem_cons h2]
  congr 1
  have := ba_get s k h
  rw [List.getElem?_eq_getElem h2] at this
  exact Option.some.inj this
theorem escd92 : escd 92 = true := by decide
/-- A byte that stands for itself. -/
theorem EsAt.one {s : ByteArray} {k : Nat} {l : List UInt8} (h : EsAt s k l) (hk : k < s.size) (hc : ¬ (s[k] = 92 ∧ k + 2 < s.size)) : EsAt s (k + 1) (l ++ [s[k]]) := by
  obtain ⟨h1, h2⟩ := h
  refine ⟨by rw [List.length_append, List.length_singleton]; omega, fun T hT => ?_⟩
  obtain ⟨T2, rfl, e⟩ := h2 T hT
  rw [drop_get s k hk] at e
  cases T2 with
  | nil => simp [escB] at e
  | cons y T3 =>
    rw [escB] at e
    by_cases hy : escd y = true
    · rw [if_pos hy] at e
      injection e with e1 e2
      exfalso
      apply hc
      refine ⟨e1, ?_⟩
      have := congrArg List.length e2
      rw [List.length_drop, ba_size] at this
      simp only [List.length_cons] at this
      omega
    · rw [if_neg hy] at e
      injection e with e1 e2
      exact ⟨T3, by rw [e1]; simp, e2⟩
/-- A byte that stands as a \\ and two digits. -/
theorem EsAt.three {s x : ByteArray} {k : Nat} {l m : List UInt8} (h : EsAt s k l) (hc : s[k]? = some 92) (hk : k + 2 < s.size) (hx : x.toList = (s.toList.drop (k + 1)).take 2) (hm : 2 * m.length ≤ x.size) (hT : ∀ T, x.toList = hexB T → m = T) : EsAt s (k + 3) (l ++ m) := by
  obtain ⟨h1, h2⟩ := h
  have hxs : x.size ≤ 2 := by rw [← ba_size, hx]; exact List.length_take_le _ _
  refine ⟨by rw [List.length_append]; omega, fun T hT' => ?_⟩
  obtain ⟨T2, rfl, e⟩ := h2 T hT'
  have hk0 : k < s.size := by omega
  have hs92 : s[k] = 92 := by
    rw [getElem?_pos s k hk0] at hc
    exact Option.some.inj hc
  rw [drop_get s k hk0, hs92] at e
  cases T2 with
  | nil => simp [escB] at e
  | cons y T3 =>
    rw [escB] at e
    by_cases hy : escd y = true
    · rw [if_pos hy] at e
      injection e with _ e2
      have hm2 : m = [y] := hT [y] (by rw [hx, e2]; rfl)
      subst hm2
      refine ⟨T3, by simp, ?_⟩
      have : s.toList.drop (k + 3) = (s.toList.drop (k + 1)).drop 2 := by rw [List.drop_drop]
      rw [this, e2]
      rfl
    · rw [if_neg hy] at e
      injection e with e1 e2
      rw [← e1] at hy
      exact absurd escd92 hy

set_option maxHeartbeats 4000000 in
theorem unescape_any (s : ByteArray) (hs : s.size ≤ 4096) (w : World) (hT : Tabs w) :
    Calls Tryd.prog 39 #[.string s] w fun e w' => ∃ l : List UInt8, e = .returned (.string ⟨l.toArray⟩) ∧ l.length ≤ s.size ∧ (∀ T, s.toList = escB T → l = T) ∧ Below w.heap.size w w' := by
  have HT := Lib.hid hT
  clear hT
  go_enter Tryd.func39, Tryd.ntmps39
  go_wp2
  go_loopw [4] (fun i wr => ∃ (k : Nat) (l : List UInt8), k ≤ s.size ∧ i = .int .i64 k ∧ Hid (EsAt s k l) ∧ Hid (Bld w w.heap.size l wr)) (fun i _ => s.size - (intOf i).toNat)
  case atStart => exact ⟨0, [], Nat.zero_le _, rfl, Lib.hid ⟨Nat.le_refl _, fun T h => ⟨T, rfl, h⟩⟩, Lib.hid (Bld.fresh w)⟩
  case round =>
    obtain ⟨k, l, hk, rfl, HE, HB⟩ := hrel
    by_cases hlt : k < s.size
    · have HL : Hid (l.length ≤ 4096) := Lib.hid (by have := HE.out.1; omega)
      obtain ⟨z, hz⟩ : ∃ z : Int, (s[k].toNat : Int) = z := ⟨_, rfl⟩
      have HZ : Hid (z = ((s[k]).toNat : Int)) := Lib.hid hz.symm
      by_cases h92 : s[k] = 92 ∧ k + 2 < s.size
      · obtain ⟨h9, h3⟩ := h92
        have hz92 : z = 92 := by rw [← hz, h9]; rfl
        have HS92 : Hid (s[k]? = some 92) := Lib.hid (by rw [getElem?_pos s k hlt, h9])
        obtain ⟨x, hx⟩ : ∃ x, s.extract (k + 1) (k + 3) = x := ⟨_, rfl⟩
        have HX : Hid (x.toList = (s.toList.drop (k + 1)).take 2) := Lib.hid (by
          rw [← hx, ByteArray.toList_eq, ByteArray.toList_eq, Lib.extract_data]
          congr 1
          omega)
        have HXS : Hid (x.size ≤ 2) := Lib.hid (by rw [← ba_size, HX.out]; exact List.length_take_le _ _)
        have h3i : (k : Int) + 2 < s.size := by omega
        have h3j : (k : Int) + 3 ≤ s.size := by omega
        have HTR := Lib.hid (HT.out.keep HB.out.below)
        have HK := Lib.hid h3
        subst hz92
        have HZ2 := Lib.hid hz
        clear h9 h3
        go_wp2_with fail
        refine (unhex_any x (by have := HXS.out; omega) _ HTR.out).mono ?_
        rintro e w1 ⟨m, rfl, hm, hmT, hb1⟩
        have H1 := Lib.hid (HB.out.old hb1)
        have HE2 := Lib.hid (HE.out.three HS92.out HK.out HX.out hm hmT)
        have HML : Hid (m.length ≤ 1) := Lib.hid (by have := HXS.out; omega)
        clear hb1 hm hmT HB
        go_wp2_with fail
        refine (H1.out.wstr _ (by have := HL.out; have := HML.out; rw [bl_mk0]; omega)).mono ?_
        rintro e w2 ⟨rfl, hb2⟩
        rw [ByteArray.toList_mk] at hb2
        have H2 := Lib.hid hb2
        clear hb2 H1
        go_wp2_with fail
        go_roundw
        case rel => exact ⟨k + 3, l ++ m, by have := HK.out; omega, by go_num, HE2, H2⟩
        case measure => have := HK.out; simp [intOf]; omega
      · have HE2 := Lib.hid (HE.out.one hlt h92)
        have hways : (¬ z = 92) ∨ (z = 92 ∧ ¬ (k : Int) + 2 < s.size) := by
          by_cases h : z = 92
          · right
            refine ⟨h, fun h3 => h92 ⟨?_, by omega⟩⟩
            apply UInt8.toNat_inj.1
            have : (s[k].toNat : Int) = 92 := hz.trans h
            show s[k].toNat = 92
            omega
          · exact .inl h
        clear h92
        rcases hways with hn | ⟨hy, hn⟩
        · have hzb : (z == 92) = false := by simpa using hn
          clear hn
          go_wp2_with fail
          refine (HB.out.wbyte (by have := HL.out; omega) (s[k]) _ HZ.out).mono ?_
          rintro e w1 ⟨rfl, hb1⟩
          have H1 := Lib.hid hb1
          clear hb1 HB
          go_wp2_with fail
          go_roundw
          case rel => exact ⟨k + 1, _, by omega, by go_num, HE2, H1⟩
          case measure => simp [intOf]; omega
        · have hzb : (z == 92) = true := by simpa using hy
          clear hy
          go_wp2_with fail
          refine (HB.out.wbyte (by have := HL.out; omega) (s[k]) _ HZ.out).mono ?_
          rintro e w1 ⟨rfl, hb1⟩
          have H1 := Lib.hid hb1
          clear hb1 HB
          go_wp2_with fail
          go_roundw
          case rel => exact ⟨k + 1, _, by omega, by go_num, HE2, H1⟩
          case measure => simp [intOf]; omega
    · have hkk : k = s.size := by omega
      have HF : Hid (l.length ≤ s.size ∧ ∀ T, s.toList = escB T → l = T) := Lib.hid (by
        refine ⟨by have := HE.out.1; omega, fun T hT => ?_⟩
        obtain ⟨T2, rfl, e⟩ := HE.out.2 T hT
        rw [List.drop_of_length_le (by rw [ba_size]; omega)] at e
        cases T2 with
        | nil => simp
        | cons y T3 =>
          have := congrArg List.length e
          have h3 := esc_len (y :: T3) (by simp)
          rw [← this] at h3
          simp at h3)
      clear hkk
      go_wp2_with fail
      refine (HB.out.string).mono ?_
      rintro e w1 ⟨rfl, hb⟩
      have H := Lib.hid hb
      clear hb HB
      go_wp2_with fail
      go_ret
      exact ⟨l, rfl, HF.out.1, HF.out.2, H.out⟩

end Go.Proofs.YtcpfohjejhkgbaaDoor
