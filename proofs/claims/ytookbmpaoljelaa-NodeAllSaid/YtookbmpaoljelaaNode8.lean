/-
  Package node's putter: lists of parts. (Written by wip/tools/gennode8.py.)
-/
import Derived.Test.YtookbmpaoljelaaNode7
namespace Go.Proofs.Ytookbmpaoljelaa
open Go Go.RowKit
set_option linter.unusedVariables false
set_option linter.unusedSimpArgs false
set_option maxRecDepth 100000

theorem encK_len {k : Int} (h : NumW k) : (encK k).length ≤ 1600 := by simp [encK, beB_length]
theorem encP_len {s : ByteArray} (h : s.size ≤ 512) : (encP s).length ≤ 1600 := by rw [encP, txtB_len]; omega
theorem pu64K {w0 w : World} {p : Nat} {xs : List UInt8} {J : Res} [Stab J] (h : Own w0 w (Sep (OutR p xs) J)) (k : Int) (hk : NumW k) (hl : xs.length ≤ 900000000) :
    Calls Try.prog 39 #[.pointer (some ⟨p, 0, none⟩), .int .u64 k] w fun r w' => r = .returned (.tuple #[]) ∧ Own w0 w' (Sep (OutR p (xs ++ encK k)) J) := by
  obtain ⟨x, rfl, hx⟩ := toNat_of hk
  exact own_outU64 h x hx (by omega)
set_option maxHeartbeats 2000000 in
theorem each_e {w0 w : World} {p : Nat} {xs : List UInt8} {J : Res} [Stab J] (h : Own w0 w (Sep (OutR p xs) J)) (ao : Option Addr) (n c : Nat) (l : List En) (hs : SlG w0 ao l) (hn : n = l.length) (hf : ∀ a ∈ l, EnF a) (hb : n ≤ 2000) (hl : xs.length ≤ 500000000) :
    Calls Try.prog 36 #[.slice ao n c, .func (.func 37) #[putv p] #[]] w fun r w' => r = .returned (.tuple #[]) ∧ Own w0 w' (Sep (OutR p (xs ++ l.flatMap encE)) J) := by
  have H := Lib.hid h
  have HS := Lib.hid hs
  have HN := Lib.hid hn
  have HF := Lib.hid hf
  have HL := Lib.hid hl
  clear h hs hn hf hl
  go_enter Try.func36, Try.ntmps36
  go_wp2_with fail
  go_loopw [8] (fun i wr => ∃ k : Nat, (k ≤ n) ∧ i = .int .i64 (k : Int) ∧ Hid (Own w0 wr (Sep (OutR p (xs ++ (l.take k).flatMap encE)) J))) (fun i _ => n - (intOf i).toNat)
  case atStart => exact ⟨0, Nat.zero_le _, rfl, Lib.hid (by rw [List.take_zero, List.flatMap_nil, List.append_nil]; exact H.out)⟩
  case round =>
    clear H
    obtain ⟨k, hk, rfl, HO⟩ := hrel
    by_cases hlt : k < n
    · have hkl : k < l.length := by rw [← HN.out]; exact hlt
      obtain ⟨g, off, rfl, y0, y1, y2, y3, y4, y5⟩ := (HS.out.keep HO.out.only).en (j := k) hkl
      have HST := Lib.hid (flat_step (f := encE) hkl)
      have HOK := Lib.hid (HF.out _ (getD_mem hkl))
      have HXL : Hid ((xs ++ (l.take k).flatMap encE).length ≤ 600000000) := Lib.hid (by
        have h1 := take_flat_len (f := encE) (k := k) (fun a ha => encE_len (HF.out a ha))
        have h2 := HL.out
        have h3 := HN.out
        rw [List.length_append]
        omega)
      generalize l.getD k default = a at *
      obtain ⟨zs, hzs⟩ : ∃ zs, xs ++ (l.take k).flatMap encE = zs := ⟨_, rfl⟩
      have HNX : Hid (xs ++ (l.take (k + 1)).flatMap encE = zs ++ encE a) := Lib.hid (by rw [HST.out, ← hzs, List.append_assoc])
      rw [hzs] at HO HXL
      have HC := Lib.hid (pentryE ((HO.out.alloc (.cells #[.string a.k, .bool a.h, .string a.v, .int .u64 a.x, .bool a.n, .string a.nv] 45)).snd) a HOK.out (by have := HXL.out; omega))
      have hltI : (k : Int) < (n : Int) := by omega
      have h0 : (0 : Int) ≤ (k : Int) := by omega
      clear hkl hzs HST HO
      go_wp2_with fail
      refine HC.out.mono ?_
      rintro r w1 ⟨rfl, h1⟩
      rw [← HNX.out] at h1
      have H1 := Lib.hid h1
      clear h1 HC y0 y1 y2 y3 y4 y5
      go_wp2_with fail
      go_roundw
      case rel => exact ⟨k + 1, by omega, by go_num, H1⟩
      case measure => simp [intOf]; omega
    · have hltI : ¬ (k : Int) < (n : Int) := by omega
      have HE : Hid (l.take k = l) := Lib.hid (List.take_of_length_le (by have := HN.out; omega))
      rw [HE.out] at HO
      go_wp2_with fail
      exact bodyPost_end (results_none rfl _ _ _) rfl ⟨rfl, HO.out⟩
set_option maxHeartbeats 2000000 in
theorem each_m {w0 w : World} {p : Nat} {xs : List UInt8} {J : Res} [Stab J] (h : Own w0 w (Sep (OutR p xs) J)) (ao : Option Addr) (n c : Nat) (l : List Ms) (hs : SlG w0 ao l) (hn : n = l.length) (hf : ∀ a ∈ l, MsF a) (hb : n ≤ 2000) (hl : xs.length ≤ 500000000) :
    Calls Try.prog 75 #[.slice ao n c, .func (.func 76) #[putv p] #[]] w fun r w' => r = .returned (.tuple #[]) ∧ Own w0 w' (Sep (OutR p (xs ++ l.flatMap encM)) J) := by
  have H := Lib.hid h
  have HS := Lib.hid hs
  have HN := Lib.hid hn
  have HF := Lib.hid hf
  have HL := Lib.hid hl
  clear h hs hn hf hl
  go_enter Try.func75, Try.ntmps75
  go_wp2_with fail
  go_loopw [8] (fun i wr => ∃ k : Nat, (k ≤ n) ∧ i = .int .i64 (k : Int) ∧ Hid (Own w0 wr (Sep (OutR p (xs ++ (l.take k).flatMap encM)) J))) (fun i _ => n - (intOf i).toNat)
  case atStart => exact ⟨0, Nat.zero_le _, rfl, Lib.hid (by rw [List.take_zero, List.flatMap_nil, List.append_nil]; exact H.out)⟩
  case round =>
    clear H
    obtain ⟨k, hk, rfl, HO⟩ := hrel
    by_cases hlt : k < n
    · have hkl : k < l.length := by rw [← HN.out]; exact hlt
      obtain ⟨g, off, rfl, y0, y1, y2, y3, y4, y5, y6⟩ := (HS.out.keep HO.out.only).ms (j := k) hkl
      have HST := Lib.hid (flat_step (f := encM) hkl)
      have HOK := Lib.hid (HF.out _ (getD_mem hkl))
      have HXL : Hid ((xs ++ (l.take k).flatMap encM).length ≤ 600000000) := Lib.hid (by
        have h1 := take_flat_len (f := encM) (k := k) (fun a ha => encM_len (HF.out a ha))
        have h2 := HL.out
        have h3 := HN.out
        rw [List.length_append]
        omega)
      generalize l.getD k default = a at *
      obtain ⟨zs, hzs⟩ : ∃ zs, xs ++ (l.take k).flatMap encM = zs := ⟨_, rfl⟩
      have HNX : Hid (xs ++ (l.take (k + 1)).flatMap encM = zs ++ encM a) := Lib.hid (by rw [HST.out, ← hzs, List.append_assoc])
      rw [hzs] at HO HXL
      have HC := Lib.hid (pmsgM ((HO.out.alloc (.cells #[.int .u64 a.sq, .int .i64 a.K, .string a.k, .int .u64 a.x, .string a.v, .int .i64 a.off, .int .u64 a.num] 57)).snd) a HOK.out (by have := HXL.out; omega))
      have hltI : (k : Int) < (n : Int) := by omega
      have h0 : (0 : Int) ≤ (k : Int) := by omega
      clear hkl hzs HST HO
      go_wp2_with fail
      refine HC.out.mono ?_
      rintro r w1 ⟨rfl, h1⟩
      rw [← HNX.out] at h1
      have H1 := Lib.hid h1
      clear h1 HC y0 y1 y2 y3 y4 y5 y6
      go_wp2_with fail
      go_roundw
      case rel => exact ⟨k + 1, by omega, by go_num, H1⟩
      case measure => simp [intOf]; omega
    · have hltI : ¬ (k : Int) < (n : Int) := by omega
      have HE : Hid (l.take k = l) := Lib.hid (List.take_of_length_le (by have := HN.out; omega))
      rw [HE.out] at HO
      go_wp2_with fail
      exact bodyPost_end (results_none rfl _ _ _) rfl ⟨rfl, HO.out⟩
set_option maxHeartbeats 2000000 in
theorem each_k {w0 w : World} {p : Nat} {xs : List UInt8} {J : Res} [Stab J] (h : Own w0 w (Sep (OutR p xs) J)) (ao : Option Addr) (n c : Nat) (l : List Int) (hs : SlG w0 ao l) (hn : n = l.length) (hf : ∀ a ∈ l, NumW a) (hb : n ≤ 2000) (hl : xs.length ≤ 500000000) :
    Calls Try.prog 38 #[.slice ao n c, .func (.func 39) #[.pointer (some ⟨p, 0, none⟩)] #[]] w fun r w' => r = .returned (.tuple #[]) ∧ Own w0 w' (Sep (OutR p (xs ++ l.flatMap encK)) J) := by
  have H := Lib.hid h
  have HS := Lib.hid hs
  have HN := Lib.hid hn
  have HF := Lib.hid hf
  have HL := Lib.hid hl
  clear h hs hn hf hl
  go_enter Try.func38, Try.ntmps38
  go_wp2_with fail
  go_loopw [8] (fun i wr => ∃ k : Nat, (k ≤ n) ∧ i = .int .i64 (k : Int) ∧ Hid (Own w0 wr (Sep (OutR p (xs ++ (l.take k).flatMap encK)) J))) (fun i _ => n - (intOf i).toNat)
  case atStart => exact ⟨0, Nat.zero_le _, rfl, Lib.hid (by rw [List.take_zero, List.flatMap_nil, List.append_nil]; exact H.out)⟩
  case round =>
    clear H
    obtain ⟨k, hk, rfl, HO⟩ := hrel
    by_cases hlt : k < n
    · have hkl : k < l.length := by rw [← HN.out]; exact hlt
      obtain ⟨g, off, rfl, y0⟩ := (HS.out.keep HO.out.only).nu (j := k) hkl
      have HST := Lib.hid (flat_step (f := encK) hkl)
      have HOK := Lib.hid (HF.out _ (getD_mem hkl))
      have HXL : Hid ((xs ++ (l.take k).flatMap encK).length ≤ 600000000) := Lib.hid (by
        have h1 := take_flat_len (f := encK) (k := k) (fun a ha => encK_len (HF.out a ha))
        have h2 := HL.out
        have h3 := HN.out
        rw [List.length_append]
        omega)
      generalize l.getD k default = a at *
      obtain ⟨zs, hzs⟩ : ∃ zs, xs ++ (l.take k).flatMap encK = zs := ⟨_, rfl⟩
      have HNX : Hid (xs ++ (l.take (k + 1)).flatMap encK = zs ++ encK a) := Lib.hid (by rw [HST.out, ← hzs, List.append_assoc])
      rw [hzs] at HO HXL
      have HC := Lib.hid (pu64K (HO.out) a HOK.out (by have := HXL.out; omega))
      have hltI : (k : Int) < (n : Int) := by omega
      have h0 : (0 : Int) ≤ (k : Int) := by omega
      clear hkl hzs HST HO
      go_wp2_with fail
      refine HC.out.mono ?_
      rintro r w1 ⟨rfl, h1⟩
      rw [← HNX.out] at h1
      have H1 := Lib.hid h1
      clear h1 HC y0
      go_wp2_with fail
      go_roundw
      case rel => exact ⟨k + 1, by omega, by go_num, H1⟩
      case measure => simp [intOf]; omega
    · have hltI : ¬ (k : Int) < (n : Int) := by omega
      have HE : Hid (l.take k = l) := Lib.hid (List.take_of_length_le (by have := HN.out; omega))
      rw [HE.out] at HO
      go_wp2_with fail
      exact bodyPost_end (results_none rfl _ _ _) rfl ⟨rfl, HO.out⟩
set_option maxHeartbeats 2000000 in
theorem each_p {w0 w : World} {p : Nat} {xs : List UInt8} {J : Res} [Stab J] (h : Own w0 w (Sep (OutR p xs) J)) (ao : Option Addr) (n c : Nat) (l : List ByteArray) (hs : SlG w0 ao l) (hn : n = l.length) (hf : ∀ a ∈ l, a.size ≤ 512) (hb : n ≤ 2000) (hl : xs.length ≤ 500000000) :
    Calls Try.prog 40 #[.slice ao n c, .func (.func 41) #[putv p] #[]] w fun r w' => r = .returned (.tuple #[]) ∧ Own w0 w' (Sep (OutR p (xs ++ l.flatMap encP)) J) := by
  have H := Lib.hid h
  have HS := Lib.hid hs
  have HN := Lib.hid hn
  have HF := Lib.hid hf
  have HL := Lib.hid hl
  clear h hs hn hf hl
  go_enter Try.func40, Try.ntmps40
  go_wp2_with fail
  go_loopw [8] (fun i wr => ∃ k : Nat, (k ≤ n) ∧ i = .int .i64 (k : Int) ∧ Hid (Own w0 wr (Sep (OutR p (xs ++ (l.take k).flatMap encP)) J))) (fun i _ => n - (intOf i).toNat)
  case atStart => exact ⟨0, Nat.zero_le _, rfl, Lib.hid (by rw [List.take_zero, List.flatMap_nil, List.append_nil]; exact H.out)⟩
  case round =>
    clear H
    obtain ⟨k, hk, rfl, HO⟩ := hrel
    by_cases hlt : k < n
    · have hkl : k < l.length := by rw [← HN.out]; exact hlt
      obtain ⟨g, off, rfl, y0⟩ := (HS.out.keep HO.out.only).st (j := k) hkl
      have HST := Lib.hid (flat_step (f := encP) hkl)
      have HOK := Lib.hid (HF.out _ (getD_mem hkl))
      have HXL : Hid ((xs ++ (l.take k).flatMap encP).length ≤ 600000000) := Lib.hid (by
        have h1 := take_flat_len (f := encP) (k := k) (fun a ha => encP_len (HF.out a ha))
        have h2 := HL.out
        have h3 := HN.out
        rw [List.length_append]
        omega)
      generalize l.getD k default = a at *
      obtain ⟨zs, hzs⟩ : ∃ zs, xs ++ (l.take k).flatMap encP = zs := ⟨_, rfl⟩
      have HNX : Hid (xs ++ (l.take (k + 1)).flatMap encP = zs ++ encP a) := Lib.hid (by rw [HST.out, ← hzs, List.append_assoc])
      rw [hzs] at HO HXL
      have HC := Lib.hid (pkey_any (HO.out) a HOK.out (by have := HXL.out; omega))
      have hltI : (k : Int) < (n : Int) := by omega
      have h0 : (0 : Int) ≤ (k : Int) := by omega
      clear hkl hzs HST HO
      go_wp2_with fail
      refine HC.out.mono ?_
      rintro r w1 ⟨rfl, h1⟩
      rw [← HNX.out] at h1
      have H1 := Lib.hid h1
      clear h1 HC y0
      go_wp2_with fail
      go_roundw
      case rel => exact ⟨k + 1, by omega, by go_num, H1⟩
      case measure => simp [intOf]; omega
    · have hltI : ¬ (k : Int) < (n : Int) := by omega
      have HE : Hid (l.take k = l) := Lib.hid (List.take_of_length_le (by have := HN.out; omega))
      rw [HE.out] at HO
      go_wp2_with fail
      exact bodyPost_end (results_none rfl _ _ _) rfl ⟨rfl, HO.out⟩

theorem encL_len {l : List Ms} (h : ∀ m ∈ l, MsF m) (hb : l.length ≤ 1024) : (encL l).length ≤ 1638402 := by
  have := flat_len (f := encM) l (fun m hm => encM_len (h m hm))
  rw [encL, List.length_append, beB_length]
  omega
set_option maxHeartbeats 2000000 in
theorem pbuf_any {w0 w : World} {p : Nat} {xs : List UInt8} {J : Res} [Stab J] (h : Own w0 w (Sep (OutR p xs) J)) (ao : Option Addr) (n c : Nat) (l : List Ms) (hs : SlG w0 ao l) (hn : n = l.length) (hf : ∀ a ∈ l, MsF a) (hb : n ≤ 1024) (hl : xs.length ≤ 490000000) :
    Calls Try.prog 43 #[putv p, .slice ao n c] w fun r w' => r = .returned (.tuple #[]) ∧ Own w0 w' (Sep (OutR p (xs ++ encL l)) J) := by
  have H := Lib.hid ((h.alloc (.cells #[.pointer (some ⟨p, 0, none⟩)] 52)).swap)
  have HC := Lib.hid (pcount_any H.out n (by omega) (by omega))
  have HM := Lib.hid (fun w1 (h1 : Own w0 w1 (Sep (OutR p (xs ++ beB 2 n)) (Sep (PutB w.heap.size p) J))) => each_m h1 ao n c l hs hn hf (by omega) (by rw [List.length_append, beB_length]; omega))
  have HE : Hid (xs ++ beB 2 n ++ l.flatMap encM = xs ++ encL l) := Lib.hid (by rw [encL, hn, List.append_assoc])
  have ha := blk_cell H.out.snd.held 0 rfl
  clear h hs hn hf
  go_enter Try.func43, Try.ntmps43
  go_wp2_with fail
  refine HC.out.mono ?_
  rintro r w1 ⟨rfl, h1⟩
  have H1 := Lib.hid h1
  clear h1 HC H ha
  have ha := blk_cell H1.out.snd.held 0 rfl
  go_wp2_with fail
  refine (HM.out _ H1.out).mono ?_
  rintro r w2 ⟨rfl, h2⟩
  rw [HE.out] at h2
  have H2 := Lib.hid h2.drop2
  clear h2 HM H1 ha
  go_wp2_with fail
  exact bodyPost_end (results_none rfl _ _ _) rfl ⟨rfl, H2.out⟩
set_option maxHeartbeats 2000000 in
theorem each_l {w0 w : World} {p : Nat} {xs : List UInt8} {J : Res} [Stab J] (h : Own w0 w (Sep (OutR p xs) J)) (ao : Option Addr) (n c : Nat) (l : List (List Ms)) (hs : SlL w0 ao l) (hn : n = l.length) (hf : ∀ b ∈ l, ∀ a ∈ b, MsF a) (h1k : ∀ b ∈ l, b.length ≤ 1024) (hb : n ≤ 64) (hl : xs.length ≤ 300000000) :
    Calls Try.prog 42 #[.slice ao n c, .func (.func 43) #[putv p] #[]] w fun r w' => r = .returned (.tuple #[]) ∧ Own w0 w' (Sep (OutR p (xs ++ l.flatMap encL)) J) := by
  have H := Lib.hid h
  have HS := Lib.hid hs
  have HN := Lib.hid hn
  have HF := Lib.hid hf
  have H1K := Lib.hid h1k
  have HL := Lib.hid hl
  clear h hs hn hf hl h1k
  go_enter Try.func42, Try.ntmps42
  go_wp2_with fail
  go_loopw [8] (fun i wr => ∃ k : Nat, (k ≤ n) ∧ i = .int .i64 (k : Int) ∧ Hid (Own w0 wr (Sep (OutR p (xs ++ (l.take k).flatMap encL)) J))) (fun i _ => n - (intOf i).toNat)
  case atStart => exact ⟨0, Nat.zero_le _, rfl, Lib.hid (by rw [List.take_zero, List.flatMap_nil, List.append_nil]; exact H.out)⟩
  case round =>
    clear H
    obtain ⟨k, hk, rfl, HO⟩ := hrel
    by_cases hlt : k < n
    · have hkl : k < l.length := by rw [← HN.out]; exact hlt
      obtain ⟨g, off, bo, bc, he, y, hsb, _⟩ := HS.out k hkl
      have y0 := HO.out.only.cellq y
      subst he
      have HST := Lib.hid (flat_step (f := encL) hkl)
      have HOK := Lib.hid (HF.out _ (getD_mem hkl))
      have HO1 := Lib.hid (H1K.out _ (getD_mem hkl))
      have HXL : Hid ((xs ++ (l.take k).flatMap encL).length ≤ 480000000) := Lib.hid (by
        have h1 := take_flat_len (f := encL) (k := k) (fun a ha => encL_len (HF.out a ha) (H1K.out a ha))
        have h2 := HL.out
        have h3 := HN.out
        rw [List.length_append]
        omega)
      have HSB := Lib.hid hsb
      generalize l.getD k default = a at *
      obtain ⟨m, hm⟩ : ∃ m, m = a.length := ⟨_, rfl⟩
      rw [← hm] at y0
      obtain ⟨zs, hzs⟩ : ∃ zs, xs ++ (l.take k).flatMap encL = zs := ⟨_, rfl⟩
      have HNX : Hid (xs ++ (l.take (k + 1)).flatMap encL = zs ++ encL a) := Lib.hid (by rw [HST.out, ← hzs, List.append_assoc])
      rw [hzs] at HO HXL
      have HC := Lib.hid (pbuf_any HO.out bo m bc a HSB.out hm HOK.out (by rw [hm]; exact HO1.out) (by have := HXL.out; omega))
      have hltI : (k : Int) < (n : Int) := by omega
      have h0 : (0 : Int) ≤ (k : Int) := by omega
      clear hkl hzs HST HO hm y hsb
      go_wp2_with fail
      refine HC.out.mono ?_
      rintro r w1 ⟨rfl, h1⟩
      rw [← HNX.out] at h1
      have H1 := Lib.hid h1
      clear h1 HC y0
      go_wp2_with fail
      go_roundw
      case rel => exact ⟨k + 1, by omega, by go_num, H1⟩
      case measure => simp [intOf]; omega
    · have hltI : ¬ (k : Int) < (n : Int) := by omega
      have HE : Hid (l.take k = l) := Lib.hid (List.take_of_length_le (by have := HN.out; omega))
      rw [HE.out] at HO
      go_wp2_with fail
      exact bodyPost_end (results_none rfl _ _ _) rfl ⟨rfl, HO.out⟩

end Go.Proofs.Ytookbmpaoljelaa
