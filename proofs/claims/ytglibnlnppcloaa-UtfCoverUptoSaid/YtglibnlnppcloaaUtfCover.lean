/- UtfCover: the walk. -/
import Derived.Test.YtglibnlnppcloaaUtfBytesLaw
import Derived.Test.YtglibnlnppcloaaUtfRound
namespace Go.Proofs.Ytglibnlnppcloaa
set_option linter.unusedVariables false
open Go.RowKit

theorem contF_sound : ∀ (need : Nat) (r : List Int) (k s lo hi : Int) (S n : Int), contF need r k s lo hi = (S, n, 0) → ∃ c : List Int, c.length = need ∧ n = k + need ∧ r.take need = c ∧ (∀ z ∈ c.drop 1, 128 ≤ z ∧ z ≤ 191) ∧ (∀ z, c.head? = some z → lo ≤ z ∧ z ≤ hi) ∧ S = c.foldl (fun a z => a * 64 + z % 64) s
  | 0, r, k, s, lo, hi, S, n, h => by
    injection h with h1 h2
    injection h2 with h2 _
    exact ⟨[], rfl, by omega, by simp, by simp, by simp, h1.symm⟩
  | m + 1, [], k, s, lo, hi, S, n, h => by
    injection h with h1 h2
    injection h2 with h2 h3
    cases h3
  | m + 1, c :: r, k, s, lo, hi, S, n, h => by
    have e : contF (m + 1) (c :: r) k s lo hi = if c < lo ∨ hi < c then (0, k, 1) else contF m r (k + 1) (s * 64 + c % 64) 128 191 := rfl
    rw [e] at h
    by_cases hb : c < lo ∨ hi < c
    · rw [if_pos hb] at h
      injection h with h1 h2
      injection h2 with h2 h3
      cases h3
    · rw [if_neg hb] at h
      obtain ⟨d, d1, d2, d3, d4, d5, d6⟩ := contF_sound m r (k + 1) (s * 64 + c % 64) 128 191 S n h
      refine ⟨c :: d, by simp [d1], by push_cast; omega, by simp [d3], ?_, ?_, by simpa using d6⟩
      · intro z hz
        simp only [List.drop_succ_cons, List.drop_zero] at hz
        cases d with
        | nil => cases hz
        | cons y d =>
          rcases List.mem_cons.1 hz with rfl | hz
          · exact d5 z rfl
          · exact d4 z (by simpa using hz)
      · intro z hz
        obtain rfl : c = z := by simpa using hz
        omega

theorem sound2 (c : Int) (r : List Int) (s n : Int) (h0 : 194 ≤ c) (h1 : c < 224) (hl : leadF c = (2, 128, 191))
    (h : (if (leadF c).1 = 0 then (0, 1, 1) else if (leadF c).1 = 1 then (c, 1, 0) else contF ((leadF c).1.toNat - 1) r 1 (c % (if (leadF c).1 = 2 then 32 else if (leadF c).1 = 3 then 16 else 8)) (leadF c).2.1 (leadF c).2.2) = (s, n, 0)) :
    scB s = true ∧ (c :: r).take n.toNat = encL s := by
  rw [hl] at h
  change contF 1 r 1 (c % 32) (128) (191) = (s, n, 0) at h
  obtain ⟨d, d1, d2, d3, d4, d5, d6⟩ := contF_sound 1 r 1 (c % 32) _ _ s n h
  match d, d1 with
  | [x], _ =>
    have b1 := d5 x rfl
    simp only [List.foldl_cons, List.foldl_nil] at d6
    have hr : r = x :: r.drop 1 := by
      have h2 := (List.take_append_drop 1 r).symm
      rw [d3] at h2
      exact h2
    have hn : n.toNat = 2 := by omega
    clear d3 d4 d5 h
    have hx : 128 ≤ x ∧ x ≤ 191 := by exact b1
    clear b1
    refine ⟨scB_t.2 (by omega), ?_⟩
    rw [hn, hr]
    unfold encL
    rw [if_neg (by omega), if_pos (by omega)]
    show [c, x] = _
    subst d6
    congr 1
    · omega
    · congr 1
      · omega

theorem sound3 (c : Int) (r : List Int) (s n : Int) (h0 : 224 ≤ c) (h1 : c < 240) (hl : leadF c = (3, if c = 224 then 160 else 128, if c = 237 then 159 else 191))
    (h : (if (leadF c).1 = 0 then (0, 1, 1) else if (leadF c).1 = 1 then (c, 1, 0) else contF ((leadF c).1.toNat - 1) r 1 (c % (if (leadF c).1 = 2 then 32 else if (leadF c).1 = 3 then 16 else 8)) (leadF c).2.1 (leadF c).2.2) = (s, n, 0)) :
    scB s = true ∧ (c :: r).take n.toNat = encL s := by
  rw [hl] at h
  change contF 2 r 1 (c % 16) (if c = 224 then 160 else 128) (if c = 237 then 159 else 191) = (s, n, 0) at h
  obtain ⟨d, d1, d2, d3, d4, d5, d6⟩ := contF_sound 2 r 1 (c % 16) _ _ s n h
  match d, d1 with
  | [x, y], _ =>
    have b1 := d5 x rfl
    have qy := d4 y (by simp)
    simp only [List.foldl_cons, List.foldl_nil] at d6
    have hr : r = x :: y :: r.drop 2 := by
      have h2 := (List.take_append_drop 2 r).symm
      rw [d3] at h2
      exact h2
    have hn : n.toNat = 3 := by omega
    clear d3 d4 d5 h
    have hx : 128 ≤ x ∧ x ≤ 191 ∧ (c = 224 → 160 ≤ x) ∧ (c = 237 → x ≤ 159) := by revert b1; split <;> split <;> intro b1 <;> omega
    clear b1
    refine ⟨scB_t.2 (by omega), ?_⟩
    rw [hn, hr]
    unfold encL
    rw [if_neg (by omega), if_neg (by omega), if_pos (by omega)]
    show [c, x, y] = _
    subst d6
    congr 1
    · omega
    · congr 1
      · omega
      · congr 1
        · omega

theorem sound4 (c : Int) (r : List Int) (s n : Int) (h0 : 240 ≤ c) (h1 : c < 245) (hl : leadF c = (4, if c = 240 then 144 else 128, if c = 244 then 143 else 191))
    (h : (if (leadF c).1 = 0 then (0, 1, 1) else if (leadF c).1 = 1 then (c, 1, 0) else contF ((leadF c).1.toNat - 1) r 1 (c % (if (leadF c).1 = 2 then 32 else if (leadF c).1 = 3 then 16 else 8)) (leadF c).2.1 (leadF c).2.2) = (s, n, 0)) :
    scB s = true ∧ (c :: r).take n.toNat = encL s := by
  rw [hl] at h
  change contF 3 r 1 (c % 8) (if c = 240 then 144 else 128) (if c = 244 then 143 else 191) = (s, n, 0) at h
  obtain ⟨d, d1, d2, d3, d4, d5, d6⟩ := contF_sound 3 r 1 (c % 8) _ _ s n h
  match d, d1 with
  | [x, y, z], _ =>
    have b1 := d5 x rfl
    have qy := d4 y (by simp)
    have qz := d4 z (by simp)
    simp only [List.foldl_cons, List.foldl_nil] at d6
    have hr : r = x :: y :: z :: r.drop 3 := by
      have h2 := (List.take_append_drop 3 r).symm
      rw [d3] at h2
      exact h2
    have hn : n.toNat = 4 := by omega
    clear d3 d4 d5 h
    have hx : 128 ≤ x ∧ x ≤ 191 ∧ (c = 240 → 144 ≤ x) ∧ (c = 244 → x ≤ 143) := by revert b1; split <;> split <;> intro b1 <;> omega
    clear b1
    refine ⟨scB_t.2 (by omega), ?_⟩
    rw [hn, hr]
    unfold encL
    rw [if_neg (by omega), if_neg (by omega), if_neg (by omega)]
    show [c, x, y, z] = _
    subst d6
    congr 1
    · omega
    · congr 1
      · omega
      · congr 1
        · omega
        · congr 1
          omega

/-- what One reads are just the scalar's bytes -/
theorem one_sound (zs : List Int) (s n : Int) (hw : ∀ z ∈ zs, 0 ≤ z ∧ z ≤ 255) (h : oneF zs = (s, n, 0)) : scB s = true ∧ zs.take n.toNat = encL s ∧ 1 ≤ n ∧ n ≤ zs.length := by
  cases zs with
  | nil => injection h with h1 h2; injection h2 with h2 h3; cases h3
  | cons c r =>
    have hn := oneF_n c r
    rw [h] at hn
    have hc := hw c (by simp)
    have e : oneF (c :: r) = if (leadF c).1 = 0 then (0, 1, 1) else if (leadF c).1 = 1 then (c, 1, 0) else contF ((leadF c).1.toNat - 1) r 1 (c % (if (leadF c).1 = 2 then 32 else if (leadF c).1 = 3 then 16 else 8)) (leadF c).2.1 (leadF c).2.2 := rfl
    rw [e] at h
    have key : scB s = true ∧ (c :: r).take n.toNat = encL s := by
      rcases leadF_cases c hc.1 hc.2 with q | q | q | q | q | q | q | q | q | q | q
      · have hl : leadF c = (1, 0, 0) := by unfold leadF; rw [if_pos q]
        rw [hl] at h
        injection h with h1 h2
        injection h2 with h2 _
        subst h1 h2
        exact ⟨scB_t.2 (by omega), by unfold encL; rw [if_pos q]; rfl⟩
      · have hl : leadF c = (0, 0, 0) := by unfold leadF; rw [if_neg (by omega), if_pos q.2]
        rw [hl] at h
        injection h with h1 h2
        injection h2 with h2 h3
        cases h3
      · exact sound2 c r s n q.1 q.2 (leadF_2 c q.1 q.2) h
      · exact sound3 c r s n (by omega) (by omega) (leadF_3 c (by omega) (by omega)) h
      · exact sound3 c r s n (by omega) (by omega) (leadF_3 c (by omega) (by omega)) h
      · exact sound3 c r s n (by omega) (by omega) (leadF_3 c (by omega) (by omega)) h
      · exact sound3 c r s n (by omega) (by omega) (leadF_3 c (by omega) (by omega)) h
      · exact sound4 c r s n (by omega) (by omega) (leadF_4 c (by omega) (by omega)) h
      · exact sound4 c r s n (by omega) (by omega) (leadF_4 c (by omega) (by omega)) h
      · exact sound4 c r s n (by omega) (by omega) (leadF_4 c (by omega) (by omega)) h
      · have hl : leadF c = (0, 0, 0) := by unfold leadF; rw [if_neg (by omega), if_neg (by omega), if_neg (by omega), if_neg (by omega), if_neg (by omega), if_neg (by omega), if_neg (by omega), if_neg (by omega), if_neg (by omega)]
        rw [hl] at h
        injection h with h1 h2
        injection h2 with h2 h3
        cases h3
    simp only at hn
    exact ⟨key.1, key.2, hn.1, by simp only [List.length_cons]; omega⟩

theorem contF_short : ∀ (need : Nat) (r : List Int) (k s lo hi : Int), (contF need r k s lo hi).2.2 = 2 → (contF need r k s lo hi).2.1 = k + r.length
  | 0, r, k, s, lo, hi, h => by cases h
  | n + 1, [], k, s, lo, hi, h => by show k = k + (0 : Int); omega
  | n + 1, c :: r, k, s, lo, hi, h => by
    have e : contF (n + 1) (c :: r) k s lo hi = if c < lo ∨ hi < c then (0, k, 1) else contF n r (k + 1) (s * 64 + c % 64) 128 191 := rfl
    rw [e] at h ⊢
    by_cases hb : c < lo ∨ hi < c
    · rw [if_pos hb] at h; cases h
    · rw [if_neg hb] at h ⊢
      rw [contF_short n r _ _ _ _ h, List.length_cons]; push_cast; omega
theorem oneF_short (z : Int) (zs : List Int) (h : (oneF (z :: zs)).2.2 = 2) : (oneF (z :: zs)).2.1 = zs.length + 1 := by
  have e : oneF (z :: zs) = if (leadF z).1 = 0 then (0, 1, 1) else if (leadF z).1 = 1 then (z, 1, 0) else contF ((leadF z).1.toNat - 1) zs 1 (z % (if (leadF z).1 = 2 then 32 else if (leadF z).1 = 3 then 16 else 8)) (leadF z).2.1 (leadF z).2.2 := rfl
  rw [e] at h ⊢
  by_cases h1 : (leadF z).1 = 0
  · rw [if_pos h1] at h; cases h
  · rw [if_neg h1] at h ⊢
    by_cases h2 : (leadF z).1 = 1
    · rw [if_pos h2] at h; cases h
    · rw [if_neg h2] at h ⊢
      rw [contF_short _ _ _ _ _ _ h]; omega

/-- one step of the tokens -/
theorem allF_step {f P : Nat} {zs : List Int} {t : Tok} {ts : List Tok} (h : t :: ts = allF f P (zs.drop P)) (hf : zs.length - P ≤ f) :
    ∃ s n e f', P < zs.length ∧ oneF (zs.drop P) = (s, n, e) ∧ t = ⟨P, n, e, if e = 0 then [s] else []⟩ ∧ 1 ≤ n ∧ P + n ≤ zs.length ∧ 0 ≤ e ∧ e ≤ 2 ∧ (e = 2 → P + n = zs.length) ∧ zs.length - (P + n.toNat) ≤ f' ∧ ts = allF f' ((P + n.toNat : Nat) : Int) (zs.drop (P + n.toNat)) := by
  have hP : P < zs.length := by
    rcases Nat.lt_or_ge P zs.length with h1 | h1
    · exact h1
    · rw [List.drop_of_length_le h1] at h
      cases f <;> cases h
  obtain ⟨f', rfl⟩ : ∃ f', f = f' + 1 := ⟨f - 1, by omega⟩
  have hd := List.drop_eq_getElem_cons hP
  obtain ⟨s, n, e, ho⟩ : ∃ s n e, oneF (zs.drop P) = (s, n, e) := ⟨_, _, _, rfl⟩
  have hn := oneF_n zs[P] (zs.drop (P + 1))
  have hs := oneF_short zs[P] (zs.drop (P + 1))
  rw [← hd, ho] at hn hs
  simp only [List.length_drop] at hn hs
  rw [hd] at h
  have e0 : allF (f' + 1) P (zs[P] :: zs.drop (P + 1)) = ⟨P, (oneF (zs[P] :: zs.drop (P + 1))).2.1, (oneF (zs[P] :: zs.drop (P + 1))).2.2, if (oneF (zs[P] :: zs.drop (P + 1))).2.2 = 0 then [(oneF (zs[P] :: zs.drop (P + 1))).1] else []⟩ :: allF f' ((P : Int) + (oneF (zs[P] :: zs.drop (P + 1))).2.1) ((zs[P] :: zs.drop (P + 1)).drop (oneF (zs[P] :: zs.drop (P + 1))).2.1.toNat) := rfl
  rw [e0, ← hd, ho] at h
  simp only at h
  injection h with h1 h2
  refine ⟨s, n, e, f', hP, ho, h1, hn.1, by omega, hn.2.2.1, hn.2.2.2, fun he => by have := hs he; omega, by omega, ?_⟩
  rw [h2, List.drop_drop, show (((P + n.toNat : Nat)) : Int) = P + n from by omega]

set_option maxHeartbeats 1600000 in
theorem utfCover_any (A : Option Addr) (cap : Nat) (zs : List Int) (w : World) (hr : Rd w w.heap.size A (zs.map (Value.int .u8))) (hc : zs.length ≤ cap) (hb : ∀ z ∈ zs, 0 ≤ z ∧ z ≤ 255) (hl : zs.length ≤ 1048576) :
    Calls Try.prog 7 #[.slice A zs.length cap] w fun e w' => e = .returned (.bool true) ∧ Below w.heap.size w w' := by
  have HR := Lib.hid hr
  have HB := Lib.hid hb
  clear hr hb
  obtain ⟨ts, hts⟩ : ∃ ts, allF zs.length 0 zs = ts := ⟨_, rfl⟩
  obtain ⟨m, hm⟩ : ∃ m, ts.length = m := ⟨_, rfl⟩
  have HTS := Lib.hid hts
  have HM := Lib.hid hm
  clear hts hm
  go_enter Try.func7, Try.ntmps7
  go_wp2_with (first
    | (go_at_call 10; refine (awake_any _).mono ?_; rintro e w1 ⟨rfl, hb1⟩)
    | (go_at_call 20; refine (all_own _ _ _ zs _ rfl (HR.out.below hb1 hb1.size) (by omega) hc HB.out ts m HTS.out HM.out).mono ?_; rintro e w2 ⟨A2, c2, xs2, rfl, hr2, ht2, hc2, hm2, hb2⟩))
  have HR2 := Lib.hid hr2
  have HT2 := Lib.hid ht2
  have hbA := hb1.trans (hb2.mono hb1.size)
  clear hr2 ht2
  unfold maxLen at hm2
  go_loopw [3, 11] (fun p i wr => ∃ (K P f : Nat), K ≤ m ∧ P ≤ zs.length ∧ zs.length - P ≤ f ∧ ts.drop K = allF f P (zs.drop P) ∧ p = .int .i64 P ∧ i = .int .i64 K ∧ Below w2.heap.size w2 wr) (fun _ i _ => m - (intOf i).toNat)
  case atStart => exact ⟨0, 0, zs.length, by omega, by omega, by omega, by simpa using HTS.out.symm, rfl, rfl, Below.refl _ _⟩
  case round =>
    obtain ⟨K, P, f, hK, hP, hf, hdr, rfl, rfl, hbr⟩ := hrel
    have HD := Lib.hid hdr
    clear hdr
    by_cases hKm : K = m
    · have hPl : (P : Int) = zs.length := by
        have h1 := HD.out
        rw [List.drop_of_length_le (by rw [HM.out]; omega)] at h1
        rcases Nat.lt_or_ge P zs.length with h2 | h2
        · obtain ⟨f', rfl⟩ : ∃ f', f = f' + 1 := ⟨f - 1, by omega⟩
          rw [List.drop_eq_getElem_cons h2] at h1
          cases h1
        · omega
      have hlast : ((P : Int) == zs.length) = true := beq_iff_eq.2 hPl
      have hKm' : ¬ K < m := by omega
      clear hKm hPl
      go_wp2
      go_ret
      exact ⟨rfl, hbA.trans (hbr.mono hbA.size)⟩
    have hKm' : K < m := by omega
    have hKt : K < ts.length := by rw [HM.out]; exact hKm'
    obtain ⟨s, n, e, f', hPl, ho, ht, hn1, hn2, he0, he2, hsh, hf', htl⟩ := allF_step (by rw [← List.drop_eq_getElem_cons hKt]; exact HD.out) hf
    have hget : ts[K]? = some ts[K] := List.getElem?_eq_getElem hKt
    rw [ht] at hget
    obtain ⟨b8, o8, rfl, hbl8, hcell8⟩ := toks_at HR2.out HT2.out (by omega)
    obtain ⟨g1, g2, ⟨A9, c9, g3, g4, g5, g6⟩, g7⟩ := hcell8 K _ hget
    have k1 := (hbr.cell (p := ⟨b8, o8 + K * 4, none⟩) hbl8).trans g1
    have k2 := (hbr.cell (p := ⟨b8, o8 + K * 4 + 1, none⟩) hbl8).trans g2
    have k3 := (hbr.cell (p := ⟨b8, o8 + K * 4 + 2, none⟩) hbl8).trans g3
    have k4 := (hbr.cell (p := ⟨b8, o8 + K * 4 + 3, none⟩) hbl8).trans g7
    have HO := Lib.hid ho
    have HTL := Lib.hid htl
    have HSH := Lib.hid hsh
    simp only at k1 k2 k3 k4
    clear g1 g2 g3 g7 hcell8 hget ht ho htl hsh hKt
    by_cases hz : e = 0
    · subst hz
      simp only [if_true, List.length_cons, List.length_nil] at k3 g6
      obtain ⟨N, rfl⟩ := Int.eq_ofNat_of_zero_le (show 0 ≤ n by omega)
      obtain ⟨hsc, htk, _, _⟩ := one_sound (zs.drop P) s N (fun z hz => HB.out z (List.mem_of_mem_drop hz)) HO.out
      rw [Int.toNat_natCast] at htk
      have HTK := Lib.hid htk
      obtain ⟨b9, o9, rfl, hbl9, hcell9⟩ := rd_ints g6 (by simp)
      have k5 := (hbr.cell (p := ⟨b9, o9, none⟩) hbl9).trans (hcell9 0 (by simp))
      simp at k5 k3
      have n9 : b9 < wr.heap.size := Nat.lt_of_lt_of_le hbl9 hbr.size
      have hcapP : ¬ cap = P := by omega
      have hPP : ((P : Int) != (P : Int)) = false := by simp
      have hcv := fun (w : World) (A : Option Addr) (zs : List Int) (n cap : Nat) => run_str (P := Try.prog) w 23 9 5 Try.underlying23 Try.underlying5 Try.underlying9 w.heap.size A zs n cap
      have HCV := Lib.hid hcv
      clear htk g6 hcell9 hcv
      go_wp2_with fail
      obtain ⟨W1, hW1⟩ : ∃ W1, W1 = wr.alloc (.cells #[.int .i64 P, .int .i64 N, .slice (some ⟨b9, o9, none⟩) 1 c9, .int .i64 0] 44) := ⟨_, rfl⟩
      rw [← hW1]
      have hz1 : wr.heap.size < W1.heap.size := by rw [hW1]; simp
      have q1 : W1.cell? ⟨wr.heap.size, 1, none⟩ = some (.int .i64 N) := by rw [hW1]; exact World.cell?_alloc_new (w := wr) _ _ 1
      have q2 : W1.cell? ⟨wr.heap.size, 2, none⟩ = some (.slice (some ⟨b9, o9, none⟩) 1 c9) := by rw [hW1]; exact World.cell?_alloc_new (w := wr) _ _ 2
      have q3 : W1.cell? ⟨wr.heap.size, 3, none⟩ = some (.int .i64 0) := by rw [hW1]; exact World.cell?_alloc_new (w := wr) _ _ 3
      have hbW : Below wr.heap.size wr W1 := by rw [hW1]; exact (Below.refl _ _).alloc (Nat.le_refl _) _
      have q5 := (hbW.cell (p := ⟨b9, o9, none⟩) n9).trans k5
      have hrW : Rd W1 W1.heap.size (Option.map (fun x => x.add P) A) ((encL s).map (Value.int .u8)) := by
        have h1 := Rd.drop (k := P) (cap := cap) (((HR.out.below hbA hbA.size).below hbr hbr.size).below hbW hbW.size) (n := zs.length) (by simp) (by omega) hc
        rw [if_neg hcapP, ← List.map_drop] at h1
        have h2 := h1.take N
        rw [← List.map_take, HTK.out] at h2
        exact h2
      have hNl : N = (encL s).length := by rw [← HTK.out]; simp; omega
      have HNL := Lib.hid hNl
      have HRW := Lib.hid hrW
      have HW := Lib.hid hW1
      have HN9 := Lib.hid (Nat.lt_trans n9 hz1)
      clear hW1 hrW hNl k1 k2 k3 k4 k5
      refine wp_region_mix (G := fun w w' => Below w.heap.size w w') [(0, false), (1, false), (2, false), (3, false), (4, false), (5, false), (6, false), (7, false), (10, false), (11, false), (12, false), (13, false), (14, false), (15, false), (16, false), (17, false), (8, true), (9, false), (18, false), (19, false), (20, false), (21, false), (22, false), (23, false), (24, false), (25, false), (26, false), (27, false), (28, false), (29, false), (30, false), (31, false), (32, false), (33, false)]
        below_refl below_trans (by kernel_rfl) rfl (by kernel_rfl) (by kernel_rfl) (below_refl _).drew ?_
      iterate 1 (refine mix_one rfl rfl ?_; go_big_quiet_step ((intro _; rfl)); refine wpQuiet_nil ?_)
      refine mix_one rfl rfl ?_
      go_big_quiet_step ((intro hh; rw [(hh.cell (p := ⟨wr.heap.size, 3, none⟩) (by omega)).trans q3]; exact ⟨rfl, rfl⟩))
      refine wpQuiet_nil ?_
      iterate 3 (refine mix_one rfl rfl ?_; go_big_quiet_step ((intro _; rfl)); refine wpQuiet_nil ?_)
      refine mix_one rfl rfl ?_
      go_big_quiet_step ((intro hh; rw [(hh.cell (p := ⟨wr.heap.size, 2, none⟩) (by omega)).trans q2]; exact ⟨rfl, rfl⟩))
      refine wpQuiet_nil ?_
      iterate 1 (refine mix_one rfl rfl ?_; go_big_quiet_step ((intro _; rfl)); refine wpQuiet_nil ?_)
      refine mix_one rfl rfl ?_
      go_big_quiet_step ((intro hh; rw [(hh.cell (p := ⟨b9, o9, none⟩) HN9.out).trans q5]; exact ⟨rfl, rfl⟩))
      refine wpQuiet_nil ?_
      iterate 4 (refine mix_one rfl rfl ?_; go_big_quiet_step ((intro _; rfl)); refine wpQuiet_nil ?_)
      refine mix_one rfl rfl ?_
      go_big_quiet_step ((intro hh; rw [(hh.cell (p := ⟨wr.heap.size, 1, none⟩) (by omega)).trans q1]; exact ⟨rfl, rfl⟩))
      refine wpQuiet_nil ?_
      iterate 2 (refine mix_one rfl rfl ?_; go_big_quiet_step ((intro _; rfl)); refine wpQuiet_nil ?_)
      refine mix_one rfl rfl ?_
      go_big_quiet_step ((intro hh; rw [HCV.out _ (Option.map (fun x => x.add P) A) (encL s) N (cap - P) HNL.out (HRW.out.below hh hh.size)]; exact ⟨rfl, rfl⟩))
      refine wpQuiet_nil ?_
      refine mix_call rfl ?_
      intro w4 hb4
      go_wp2_with fail
      refine (put_own 0 _ _ [] s _ rfl Rd.nil (by simp) (by simp) hsc (encL s) (encL s).length rfl rfl).mono ?_
      rintro e w5 ⟨A5, c5, rfl, hr5, hc5, _, hb5⟩
      have hb45 := below_trans _ _ _ hb4 hb5
      have hz5 := hb45.size
      go_wp2_with fail
      refine ⟨hb5, ?_⟩
      refine mix_one rfl rfl ?_
      go_big_quiet_step ((intro hh; rw [HCV.out _ A5 (encL s) (encL s).length c5 rfl (hr5.below hh hh.size)]; exact ⟨rfl, rfl⟩))
      refine wpQuiet_nil ?_
      iterate 4 (refine mix_one rfl rfl ?_; go_big_quiet_step ((intro _; rfl)); refine wpQuiet_nil ?_)
      refine mix_one rfl rfl ?_
      go_big_quiet_step ((intro hh; rw [((below_trans _ _ _ hb45 hh).cell (p := ⟨wr.heap.size, 3, none⟩) (by omega)).trans q3]; exact ⟨rfl, rfl⟩))
      refine wpQuiet_nil ?_
      iterate 11 (refine mix_one rfl rfl ?_; go_big_quiet_step ((intro _; rfl)); refine wpQuiet_nil ?_)
      refine mix_nil ?_
      intro w6 hb6
      have hbE := below_trans _ _ _ hb45 hb6
      have r1 := (hbE.cell (p := ⟨wr.heap.size, 1, none⟩) (by omega)).trans q1
      refine NoPanic.normal ?_
      go_wp2
      exact ⟨⟨K + 1, P + N, f', by omega, by omega, hf', HTL.out, by go_num, by go_num, hbr.trans ((hbW.trans (hbE.mono hbW.size)).mono hbr.size)⟩, by simp [intOf]; omega⟩
    · simp only [if_neg hz, List.length_nil] at k3
      have hze : (e == 0) = false := beq_eq_false_iff_ne.2 hz
      have hPP : ((P : Int) != (P : Int)) = false := by simp
      clear g6 g4 g5
      by_cases h2 : e = 2
      · have hend : ((P : Int) + n != zs.length) = false := by rw [HSH.out h2]; simp
        subst h2
        go_wp2_with fail
        go_quiet (fail)
        go_wp2
        exact ⟨⟨K + 1, P + n.toNat, f', by omega, by omega, hf', HTL.out, by rw [show (((P + n.toNat : Nat)) : Int) = P + n from by omega], by go_num, hbr.trans ((((Below.refl _ _).alloc (Nat.le_refl _) _).trans (below_drewN' _ _)).mono hbr.size)⟩, by simp [intOf]; omega⟩
      · have hze2 : (e == 2) = false := beq_eq_false_iff_ne.2 h2
        go_wp2_with fail
        go_quiet (fail)
        go_wp2
        exact ⟨⟨K + 1, P + n.toNat, f', by omega, by omega, hf', HTL.out, by rw [show (((P + n.toNat : Nat)) : Int) = P + n from by omega], by go_num, hbr.trans ((((Below.refl _ _).alloc (Nat.le_refl _) _).trans (below_drewN' _ _)).mono hbr.size)⟩, by simp [intOf]; omega⟩
end Go.Proofs.Ytglibnlnppcloaa
