/- Contract of One of layer 1: bytes that want more than one. -/
import Derived.Test.YtbigbkplhlmbmaaUtfC
namespace Go.Proofs.Ytbigbkplhlmbmaa
set_option linter.unusedVariables false
open Go.RowKit

theorem one_start {zs r : List Int} {c s lo hi : Int} {sz : Nat} (hz : zs = c :: r) (hL : leadF c = ((sz : Int), lo, hi)) (h0 : 0 ≤ c) (h1 : c ≤ 255) (hc : sz = 2 ∧ 194 ≤ c ∧ c < 224 ∨ sz = 3 ∧ 224 ≤ c ∧ c < 240 ∨ sz = 4 ∧ 240 ≤ c ∧ c < 245)
    (hs : s = c % (if sz = 2 then 32 else if sz = 3 then 16 else 8)) :
    0 ≤ s ∧ (1 = 1 → s < 32) ∧ (1 = 2 → s < 2048) ∧ (1 = 3 → s < 131072) ∧ contF (sz - 1) (zs.drop 1) (1 : Nat) s lo hi = oneF zs := by
  subst hz
  have h2 : oneF (c :: r) = contF (sz - 1) r 1 s lo hi := by
    show (if (leadF c).1 = 0 then _ else if (leadF c).1 = 1 then _ else _) = _
    rw [hL, hs]
    simp only
    rw [if_neg (by omega), if_neg (by omega)]
    rcases hc with h | h | h <;> simp [h.1]
  refine ⟨?_, ?_, ?_, ?_, ?_⟩
  · rw [hs]; split <;> (try split) <;> omega
  · intro _; rw [hs]; split <;> (try split) <;> omega
  · intro h; cases h
  · intro h; cases h
  · rw [h2]; rfl

set_option maxHeartbeats 800000 in
theorem one_some2 (b off : Nat) (cap : Nat) (zs : List Int) (w : World) (c : Int) (r : List Int) (hz : zs = c :: r)
    (hr : ∀ j, j < zs.length → w.cell? ⟨b, off + j, none⟩ = some (.int .u8 (zs.getD j 0))) (hlen : 0 < zs.length) (hl : zs.length ≤ 140737488355300) (hc : zs.length ≤ cap) (h0 : 0 ≤ c) (h1 : c ≤ 255) (lo hi : Int) (hL : leadF c = (2, lo, hi)) (hcc : 194 ≤ c ∧ c < 224) (hzb : ∀ j, j < zs.length → 0 ≤ zs.getD j 0 ∧ zs.getD j 0 ≤ 255) :
    Calls Try.prog 15 #[.slice (some ⟨b, off, none⟩) zs.length cap] w (RetOne zs w) := by
  have hc0 : w.cell? ⟨b, off, none⟩ = some (.int .u8 c) := by simpa [hz] using hr 0 (by simp [hz])
  have hlead := leadU c w h0 h1
  rw [hL] at hlead
  dsimp only at hlead
  have HL := Lib.hid hlead
  have hmask : bits .and .i64 c 31 = c % 32 := i64_mask31 c h0 (by omega)
  have hne : ((zs.length : Int) == 0) = false := beq_eq_false_iff_ne.2 (by omega)
  have HR := Lib.hid hr
  have HZ := Lib.hid hz
  have HLF := Lib.hid hL
  have HCC := Lib.hid hcc
  clear hz hlead hL hr hcc
  go_enter Try.func15, Try.ntmps15
  go_wp2
  refine wp_scope_fwd 0 rfl ?_
  go_wp2_with (go_at_call 28; refine HL.out.mono ?_; rintro e w' ⟨rfl, rfl⟩)
  go_quiet (fail)
  go_wp2
  go_loop [5, 7, 8, 9] (fun s k l h => ∃ (K : Nat) (S L H : Int), 1 ≤ K ∧ K ≤ 2 ∧ K ≤ zs.length ∧ s = .int .i64 S ∧ k = .int .i64 K ∧ l = .int .u8 L ∧ h = .int .u8 H ∧ 0 ≤ S ∧ (K = 1 → S < 32) ∧ (K = 2 → S < 2048) ∧ (K = 3 → S < 131072) ∧ contF (2 - K) (zs.drop K) K S L H = oneF zs)
    (fun _ k _ _ => 4 - (intOf k).toNat)
  case atStart => exact ⟨1, _, lo, hi, by omega, by omega, by omega, rfl, rfl, rfl, rfl, one_start HZ.out HLF.out h0 h1 (.inl ⟨rfl, HCC.out⟩) rfl⟩
  case round =>
    obtain ⟨K, S, L, H, k1, k2, k3, rfl, rfl, rfl, rfl, s0, s1, s2, s3, hcont⟩ := hrel
    have HC := Lib.hid hcont
    clear hcont
    by_cases hK : K = 2
    · subst hK
      have hfin : oneF zs = (S, 2, 0) := by rw [← HC.out]; rfl
      have HF := Lib.hid hfin
      clear hfin
      go_wp2
      simp only [Exit.jump]
      go_ret3
      exact ⟨ret3 HF.out, nq, rfl⟩
    obtain ⟨m, hm⟩ : ∃ m, 2 - K = m + 1 := ⟨2 - K - 1, by omega⟩
    have HM := Lib.hid hm
    clear hm
    by_cases hKl : K = zs.length
    · have hfin : oneF zs = (0, (K : Int), 2) := by rw [← HC.out, HM.out, List.drop_of_length_le (by omega)]; rfl
      have HF := Lib.hid hfin
      clear hfin
      go_wp2
      go_step3
      refine ⟨rfl, ?_⟩
      go_wp2
      simp only [Exit.jump]
      go_ret3
      exact ⟨ret3 (HF.out.trans (by rw [hKl])), nq, rfl⟩
    have hKl' : K < zs.length := by omega
    have hcell := HR.out K hKl'
    obtain ⟨x, hx⟩ : ∃ x, x = zs.getD K 0 := ⟨_, rfl⟩
    rw [← hx] at hcell
    have hdr : zs.drop K = x :: zs.drop (K + 1) := by rw [hx, List.drop_eq_getElem_cons hKl']; simp [List.getD_eq_getElem?_getD, hKl']
    have HD := Lib.hid hdr
    have hxb : 0 ≤ x ∧ x ≤ 255 := by rw [hx]; exact hzb K hKl'
    clear hx hdr
    by_cases hbad : x < L ∨ H < x
    · have hfin : oneF zs = (0, (K : Int), 1) := by rw [← HC.out, HM.out, HD.out]; show (if _ then _ else _) = _; rw [if_pos hbad]
      have HF := Lib.hid hfin
      clear hfin
      by_cases hlo : x < L
      · go_wp2
        go_step3
        refine ⟨rfl, ?_⟩
        go_wp2
        simp only [Exit.jump]
        go_ret3
        exact ⟨ret3 HF.out, nq, rfl⟩
      · have hhi : H < x := by omega
        clear hbad
        go_wp2
        go_step3
        refine ⟨rfl, ?_⟩
        go_wp2
        simp only [Exit.jump]
        go_ret3
        exact ⟨ret3 HF.out, nq, rfl⟩
    · have hfin : contF (2 - (K + 1)) (zs.drop (K + 1)) ((K + 1 : Nat) : Int) (S * 64 + x % 64) 128 191 = oneF zs := by
        rw [← HC.out, HM.out, HD.out]
        show _ = (if _ then _ else _)
        rw [if_neg hbad, show 2 - (K + 1) = m from by have := HM.out; omega]; rfl
      have HF := Lib.hid hfin
      have hlo : ¬ x < L := by omega
      have hhi : ¬ H < x := by omega
      clear hfin hbad
      go_wp2
      go_round
      case rel =>
        refine ⟨K + 1, S * 64 + x % 64, 128, 191, by omega, by omega, by omega, ?_, by go_num, rfl, rfl, by omega, by omega, by omega, by omega, HF.out⟩
        show Value.int _ _ = Value.int _ _
        rw [i64_join 6 (S * 64) (x % 64) (by omega) (by omega) (by omega) (by omega) (by omega) (by omega)]
      case measure => simp [intOf]; omega
set_option maxHeartbeats 800000 in
theorem one_some3 (b off : Nat) (cap : Nat) (zs : List Int) (w : World) (c : Int) (r : List Int) (hz : zs = c :: r)
    (hr : ∀ j, j < zs.length → w.cell? ⟨b, off + j, none⟩ = some (.int .u8 (zs.getD j 0))) (hlen : 0 < zs.length) (hl : zs.length ≤ 140737488355300) (hc : zs.length ≤ cap) (h0 : 0 ≤ c) (h1 : c ≤ 255) (lo hi : Int) (hL : leadF c = (3, lo, hi)) (hcc : 224 ≤ c ∧ c < 240) (hzb : ∀ j, j < zs.length → 0 ≤ zs.getD j 0 ∧ zs.getD j 0 ≤ 255) :
    Calls Try.prog 15 #[.slice (some ⟨b, off, none⟩) zs.length cap] w (RetOne zs w) := by
  have hc0 : w.cell? ⟨b, off, none⟩ = some (.int .u8 c) := by simpa [hz] using hr 0 (by simp [hz])
  have hlead := leadU c w h0 h1
  rw [hL] at hlead
  dsimp only at hlead
  have HL := Lib.hid hlead
  have hmask : bits .and .i64 c 15 = c % 16 := i64_mask15 c h0 (by omega)
  have hne : ((zs.length : Int) == 0) = false := beq_eq_false_iff_ne.2 (by omega)
  have HR := Lib.hid hr
  have HZ := Lib.hid hz
  have HLF := Lib.hid hL
  have HCC := Lib.hid hcc
  clear hz hlead hL hr hcc
  go_enter Try.func15, Try.ntmps15
  go_wp2
  refine wp_scope_fwd 0 rfl ?_
  go_wp2_with (go_at_call 28; refine HL.out.mono ?_; rintro e w' ⟨rfl, rfl⟩)
  go_quiet (fail)
  go_wp2
  go_loop [5, 7, 8, 9] (fun s k l h => ∃ (K : Nat) (S L H : Int), 1 ≤ K ∧ K ≤ 3 ∧ K ≤ zs.length ∧ s = .int .i64 S ∧ k = .int .i64 K ∧ l = .int .u8 L ∧ h = .int .u8 H ∧ 0 ≤ S ∧ (K = 1 → S < 32) ∧ (K = 2 → S < 2048) ∧ (K = 3 → S < 131072) ∧ contF (3 - K) (zs.drop K) K S L H = oneF zs)
    (fun _ k _ _ => 4 - (intOf k).toNat)
  case atStart => exact ⟨1, _, lo, hi, by omega, by omega, by omega, rfl, rfl, rfl, rfl, one_start HZ.out HLF.out h0 h1 (.inr (.inl ⟨rfl, HCC.out⟩)) rfl⟩
  case round =>
    obtain ⟨K, S, L, H, k1, k2, k3, rfl, rfl, rfl, rfl, s0, s1, s2, s3, hcont⟩ := hrel
    have HC := Lib.hid hcont
    clear hcont
    by_cases hK : K = 3
    · subst hK
      have hfin : oneF zs = (S, 3, 0) := by rw [← HC.out]; rfl
      have HF := Lib.hid hfin
      clear hfin
      go_wp2
      simp only [Exit.jump]
      go_ret3
      exact ⟨ret3 HF.out, nq, rfl⟩
    obtain ⟨m, hm⟩ : ∃ m, 3 - K = m + 1 := ⟨3 - K - 1, by omega⟩
    have HM := Lib.hid hm
    clear hm
    by_cases hKl : K = zs.length
    · have hfin : oneF zs = (0, (K : Int), 2) := by rw [← HC.out, HM.out, List.drop_of_length_le (by omega)]; rfl
      have HF := Lib.hid hfin
      clear hfin
      go_wp2
      go_step3
      refine ⟨rfl, ?_⟩
      go_wp2
      simp only [Exit.jump]
      go_ret3
      exact ⟨ret3 (HF.out.trans (by rw [hKl])), nq, rfl⟩
    have hKl' : K < zs.length := by omega
    have hcell := HR.out K hKl'
    obtain ⟨x, hx⟩ : ∃ x, x = zs.getD K 0 := ⟨_, rfl⟩
    rw [← hx] at hcell
    have hdr : zs.drop K = x :: zs.drop (K + 1) := by rw [hx, List.drop_eq_getElem_cons hKl']; simp [List.getD_eq_getElem?_getD, hKl']
    have HD := Lib.hid hdr
    have hxb : 0 ≤ x ∧ x ≤ 255 := by rw [hx]; exact hzb K hKl'
    clear hx hdr
    by_cases hbad : x < L ∨ H < x
    · have hfin : oneF zs = (0, (K : Int), 1) := by rw [← HC.out, HM.out, HD.out]; show (if _ then _ else _) = _; rw [if_pos hbad]
      have HF := Lib.hid hfin
      clear hfin
      by_cases hlo : x < L
      · go_wp2
        go_step3
        refine ⟨rfl, ?_⟩
        go_wp2
        simp only [Exit.jump]
        go_ret3
        exact ⟨ret3 HF.out, nq, rfl⟩
      · have hhi : H < x := by omega
        clear hbad
        go_wp2
        go_step3
        refine ⟨rfl, ?_⟩
        go_wp2
        simp only [Exit.jump]
        go_ret3
        exact ⟨ret3 HF.out, nq, rfl⟩
    · have hfin : contF (3 - (K + 1)) (zs.drop (K + 1)) ((K + 1 : Nat) : Int) (S * 64 + x % 64) 128 191 = oneF zs := by
        rw [← HC.out, HM.out, HD.out]
        show _ = (if _ then _ else _)
        rw [if_neg hbad, show 3 - (K + 1) = m from by have := HM.out; omega]; rfl
      have HF := Lib.hid hfin
      have hlo : ¬ x < L := by omega
      have hhi : ¬ H < x := by omega
      clear hfin hbad
      go_wp2
      go_round
      case rel =>
        refine ⟨K + 1, S * 64 + x % 64, 128, 191, by omega, by omega, by omega, ?_, by go_num, rfl, rfl, by omega, by omega, by omega, by omega, HF.out⟩
        show Value.int _ _ = Value.int _ _
        rw [i64_join 6 (S * 64) (x % 64) (by omega) (by omega) (by omega) (by omega) (by omega) (by omega)]
      case measure => simp [intOf]; omega
set_option maxHeartbeats 800000 in
theorem one_some4 (b off : Nat) (cap : Nat) (zs : List Int) (w : World) (c : Int) (r : List Int) (hz : zs = c :: r)
    (hr : ∀ j, j < zs.length → w.cell? ⟨b, off + j, none⟩ = some (.int .u8 (zs.getD j 0))) (hlen : 0 < zs.length) (hl : zs.length ≤ 140737488355300) (hc : zs.length ≤ cap) (h0 : 0 ≤ c) (h1 : c ≤ 255) (lo hi : Int) (hL : leadF c = (4, lo, hi)) (hcc : 240 ≤ c ∧ c < 245) (hzb : ∀ j, j < zs.length → 0 ≤ zs.getD j 0 ∧ zs.getD j 0 ≤ 255) :
    Calls Try.prog 15 #[.slice (some ⟨b, off, none⟩) zs.length cap] w (RetOne zs w) := by
  have hc0 : w.cell? ⟨b, off, none⟩ = some (.int .u8 c) := by simpa [hz] using hr 0 (by simp [hz])
  have hlead := leadU c w h0 h1
  rw [hL] at hlead
  dsimp only at hlead
  have HL := Lib.hid hlead
  have hmask : bits .and .i64 c 7 = c % 8 := i64_mask7 c h0 (by omega)
  have hne : ((zs.length : Int) == 0) = false := beq_eq_false_iff_ne.2 (by omega)
  have HR := Lib.hid hr
  have HZ := Lib.hid hz
  have HLF := Lib.hid hL
  have HCC := Lib.hid hcc
  clear hz hlead hL hr hcc
  go_enter Try.func15, Try.ntmps15
  go_wp2
  refine wp_scope_fwd 0 rfl ?_
  go_wp2_with (go_at_call 28; refine HL.out.mono ?_; rintro e w' ⟨rfl, rfl⟩)
  go_quiet (fail)
  go_wp2
  go_loop [5, 7, 8, 9] (fun s k l h => ∃ (K : Nat) (S L H : Int), 1 ≤ K ∧ K ≤ 4 ∧ K ≤ zs.length ∧ s = .int .i64 S ∧ k = .int .i64 K ∧ l = .int .u8 L ∧ h = .int .u8 H ∧ 0 ≤ S ∧ (K = 1 → S < 32) ∧ (K = 2 → S < 2048) ∧ (K = 3 → S < 131072) ∧ contF (4 - K) (zs.drop K) K S L H = oneF zs)
    (fun _ k _ _ => 4 - (intOf k).toNat)
  case atStart => exact ⟨1, _, lo, hi, by omega, by omega, by omega, rfl, rfl, rfl, rfl, one_start HZ.out HLF.out h0 h1 (.inr (.inr ⟨rfl, HCC.out⟩)) rfl⟩
  case round =>
    obtain ⟨K, S, L, H, k1, k2, k3, rfl, rfl, rfl, rfl, s0, s1, s2, s3, hcont⟩ := hrel
    have HC := Lib.hid hcont
    clear hcont
    by_cases hK : K = 4
    · subst hK
      have hfin : oneF zs = (S, 4, 0) := by rw [← HC.out]; rfl
      have HF := Lib.hid hfin
      clear hfin
      go_wp2
      simp only [Exit.jump]
      go_ret3
      exact ⟨ret3 HF.out, nq, rfl⟩
    obtain ⟨m, hm⟩ : ∃ m, 4 - K = m + 1 := ⟨4 - K - 1, by omega⟩
    have HM := Lib.hid hm
    clear hm
    by_cases hKl : K = zs.length
    · have hfin : oneF zs = (0, (K : Int), 2) := by rw [← HC.out, HM.out, List.drop_of_length_le (by omega)]; rfl
      have HF := Lib.hid hfin
      clear hfin
      go_wp2
      go_step3
      refine ⟨rfl, ?_⟩
      go_wp2
      simp only [Exit.jump]
      go_ret3
      exact ⟨ret3 (HF.out.trans (by rw [hKl])), nq, rfl⟩
    have hKl' : K < zs.length := by omega
    have hcell := HR.out K hKl'
    obtain ⟨x, hx⟩ : ∃ x, x = zs.getD K 0 := ⟨_, rfl⟩
    rw [← hx] at hcell
    have hdr : zs.drop K = x :: zs.drop (K + 1) := by rw [hx, List.drop_eq_getElem_cons hKl']; simp [List.getD_eq_getElem?_getD, hKl']
    have HD := Lib.hid hdr
    have hxb : 0 ≤ x ∧ x ≤ 255 := by rw [hx]; exact hzb K hKl'
    clear hx hdr
    by_cases hbad : x < L ∨ H < x
    · have hfin : oneF zs = (0, (K : Int), 1) := by rw [← HC.out, HM.out, HD.out]; show (if _ then _ else _) = _; rw [if_pos hbad]
      have HF := Lib.hid hfin
      clear hfin
      by_cases hlo : x < L
      · go_wp2
        go_step3
        refine ⟨rfl, ?_⟩
        go_wp2
        simp only [Exit.jump]
        go_ret3
        exact ⟨ret3 HF.out, nq, rfl⟩
      · have hhi : H < x := by omega
        clear hbad
        go_wp2
        go_step3
        refine ⟨rfl, ?_⟩
        go_wp2
        simp only [Exit.jump]
        go_ret3
        exact ⟨ret3 HF.out, nq, rfl⟩
    · have hfin : contF (4 - (K + 1)) (zs.drop (K + 1)) ((K + 1 : Nat) : Int) (S * 64 + x % 64) 128 191 = oneF zs := by
        rw [← HC.out, HM.out, HD.out]
        show _ = (if _ then _ else _)
        rw [if_neg hbad, show 4 - (K + 1) = m from by have := HM.out; omega]; rfl
      have HF := Lib.hid hfin
      have hlo : ¬ x < L := by omega
      have hhi : ¬ H < x := by omega
      clear hfin hbad
      go_wp2
      go_round
      case rel =>
        refine ⟨K + 1, S * 64 + x % 64, 128, 191, by omega, by omega, by omega, ?_, by go_num, rfl, rfl, by omega, by omega, by omega, by omega, HF.out⟩
        show Value.int _ _ = Value.int _ _
        rw [i64_join 6 (S * 64) (x % 64) (by omega) (by omega) (by omega) (by omega) (by omega) (by omega)]
      case measure => simp [intOf]; omega

theorem one_any (A : Option Addr) (cap : Nat) (zs : List Int) (w : World) (hr : Rd w w.heap.size A (zs.map (Value.int .u8))) (hl : zs.length ≤ 140737488355300) (hc : zs.length ≤ cap) (hw : ∀ z ∈ zs, 0 ≤ z ∧ z ≤ 255) :
    Calls Try.prog 15 #[.slice A zs.length cap] w (RetOne zs w) := by
  cases zs with
  | nil => exact one_nil A cap w
  | cons c r =>
    obtain ⟨b, off, rfl, hb, hcell⟩ := rd_ints hr (by simp)
    have hc0 : w.cell? ⟨b, off, none⟩ = some (.int .u8 c) := by simpa using hcell 0 (by simp)
    have hcw := hw c (by simp)
    have hzb := getD_range hw
    obtain ⟨sz, lo, hi, hL⟩ : ∃ sz lo hi, leadF c = (sz, lo, hi) := ⟨_, _, _, rfl⟩
    have hf := leadF_fact c hcw.1 hcw.2
    rw [hL] at hf
    simp only at hf
    rcases hf with rfl | ⟨rfl, hf⟩ | ⟨h1, h2, ⟨rfl, h3⟩ | ⟨rfl, h3⟩ | ⟨rfl, h3⟩⟩
    · exact one_some0 b off cap _ w c r rfl hc0 (by simp) hl hc hcw.1 hcw.2 _ _ _ hL rfl
    · exact one_some1 b off cap _ w c r rfl hc0 (by simp) hl hc hcw.1 hcw.2 _ _ _ hL rfl
    · exact one_some2 b off cap _ w c r rfl hcell (by simp) hl hc hcw.1 hcw.2 _ _ hL h3 hzb
    · exact one_some3 b off cap _ w c r rfl hcell (by simp) hl hc hcw.1 hcw.2 _ _ hL h3 hzb
    · exact one_some4 b off cap _ w c r rfl hcell (by simp) hl hc hcw.1 hcw.2 _ _ hL h3 hzb
end Go.Proofs.Ytbigbkplhlmbmaa
