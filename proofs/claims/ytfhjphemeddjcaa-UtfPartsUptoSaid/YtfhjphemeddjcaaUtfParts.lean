/- UtfParts: the walk. -/
import Derived.Test.YtfhjphemeddjcaaPartsM
import Derived.Test.YtfhjphemeddjcaaSame
import Derived.Laws.OwnMore
namespace Go.Proofs.Ytfhjphemeddjcaa
set_option linter.unusedVariables false
open Go.RowKit

theorem Toks.setPos {w : World} {B : Nat} {q : Int} : ∀ {xs : List Value} {ts : List Tok} (k : Nat) (t : Tok), ts[k]? = some t → Toks w B xs ts → Toks w B (xs.set (k * 4) (.int .i64 q)) (ts.set k ⟨q, t.size, t.err, t.out⟩)
  | [], [], k, t, h, _ => by simp at h
  | a :: b :: s :: e :: xs, t' :: ts, 0, t, h, ⟨g1, g2, g3, g4, g5⟩ => by
    obtain rfl : t' = t := by simpa using h
    exact ⟨rfl, g2, g3, g4, g5⟩
  | a :: b :: s :: e :: xs, t' :: ts, k + 1, t, h, ⟨g1, g2, g3, g4, g5⟩ => by
    have := Toks.setPos (q := q) k t (by simpa using h) g5
    have e0 : (k + 1) * 4 = k * 4 + 1 + 1 + 1 + 1 := by omega
    rw [e0]
    exact ⟨g1, g2, g3, g4, this⟩
theorem Toks.split {w : World} {B : Nat} : ∀ {xs : List Value} {ts us : List Tok}, Toks w B xs (ts ++ us) → Toks w B (xs.take (ts.length * 4)) ts ∧ Toks w B (xs.drop (ts.length * 4)) us
  | xs, [], us, h => by simp; exact ⟨trivial, h⟩
  | [], t :: ts, us, h => h.elim
  | [_], t :: ts, us, h => h.elim
  | [_, _], t :: ts, us, h => h.elim
  | [_, _, _], t :: ts, us, h => h.elim
  | a :: b :: s :: e :: xs, t :: ts, us, ⟨g1, g2, g3, g4, g5⟩ => by
    have ⟨h1, h2⟩ := Toks.split g5
    have e0 : (t :: ts).length * 4 = ts.length * 4 + 1 + 1 + 1 + 1 := by simp only [List.length_cons]; omega
    rw [e0]
    exact ⟨⟨g1, g2, g3, g4, h1⟩, h2⟩
theorem Rd.dropS {w : World} {B : Nat} {A : Option Addr} {xs : List Value} {k m n cap : Nat} (h : Rd w B A xs) (hn : n * m = xs.length) (hk : k ≤ n) (hm : 0 < m) (hc : n ≤ cap) :
    Rd w B (if cap = k then A else A.map (·.add (k * m))) (xs.drop (k * m)) := by
  rcases h with h | ⟨b, off, h1, h2, h3⟩
  · subst h; exact .inl (by simp)
  · by_cases hkk : k = n
    · exact .inl (List.drop_of_length_le (by rw [← hn, hkk]; exact Nat.le_refl _))
    · right
      rw [if_neg (by omega), h1]
      refine ⟨b, off + k * m, ?_, h2, fun j hj => ?_⟩
      · simp only [Option.map_some, Addr.add]
        split
        · rename_i e; rw [e]; rfl
        · rfl
      · rw [Nat.add_assoc, h3 (k * m + j) (by simp at hj; omega), List.getElem?_drop]

def mixT (d : Int) (k : Nat) (ts : List Tok) : List Tok := (ts.take k).map (shT d) ++ ts.drop k
theorem mixT_len (d : Int) (k : Nat) (ts : List Tok) : (mixT d k ts).length = ts.length := by simp [mixT]; omega
theorem mixT_at {d : Int} {k : Nat} {ts : List Tok} (h : k < ts.length) : (mixT d k ts)[k]? = some ts[k] := by
  unfold mixT
  rw [List.getElem?_append_right (by simp; omega)]
  simp [Nat.min_eq_left (Nat.le_of_lt h)]
theorem mixT_step {d : Int} {k : Nat} {ts : List Tok} (h : k < ts.length) : (mixT d k ts).set k (shT d ts[k]) = mixT d (k + 1) ts := by
  unfold mixT
  have hlen : ((ts.take k).map (shT d)).length = k := by simp; omega
  rw [List.take_succ_eq_append_getElem h, List.map_append, List.set_append, if_neg (by omega), hlen, Nat.sub_self, List.drop_eq_getElem_cons h, List.append_assoc]
  rfl

theorem ownsRow_form' {w : World} {base size n : Nat} {e : TypeId} {v : Value} {xs : List Value} (h : w.ownsRow base e size v n xs) (hn : 0 < n) : ∃ g cap, v = .slice (some ⟨g, 0, none⟩) n cap := by
  rcases h.2 with ⟨_, h2⟩ | ⟨g, cap, cur, h1, _⟩
  · omega
  · exact ⟨g, cap, h1⟩

set_option maxHeartbeats 3200000 in
theorem utfParts_any (A : Option Addr) (cap : Nat) (za : List Int) (A' : Option Addr) (cap' : Nat) (zb : List Int) (w : World)
    (hr : Rd w w.heap.size A (za.map (Value.int .u8))) (hc : za.length ≤ cap) (hb : ∀ z ∈ za, 0 ≤ z ∧ z ≤ 255)
    (hr' : Rd w w.heap.size A' (zb.map (Value.int .u8))) (hc' : zb.length ≤ cap') (hb' : ∀ z ∈ zb, 0 ≤ z ∧ z ≤ 255) (hl : za.length + zb.length ≤ 1048576) :
    Calls Try.prog 5 #[.slice A za.length cap, .slice A' zb.length cap'] w fun e w' => e = .returned (.bool true) ∧ Below w.heap.size w w' := by
  obtain ⟨i0, hi, hz0, hz1, hz2⟩ := info_parts info5
  have HR := Lib.hid hr
  have HB := Lib.hid hb
  have HR' := Lib.hid hr'
  have HB' := Lib.hid hb'
  clear hr hb hr' hb'
  obtain ⟨ts, hts⟩ : ∃ ts, allF za.length 0 za = ts := ⟨_, rfl⟩
  obtain ⟨m, hm⟩ : ∃ m, ts.length = m := ⟨_, rfl⟩
  have hml : m ≤ za.length := by have := allF_len za.length 0 za; rw [hts, hm] at this; omega
  have ho := allF_out za.length 0 za
  rw [hts] at ho
  obtain ⟨tsb, htsb⟩ : ∃ ts, allF zb.length 0 zb = ts := ⟨_, rfl⟩
  obtain ⟨k, hk⟩ : ∃ m, tsb.length = m := ⟨_, rfl⟩
  have hkl : k ≤ zb.length := by have := allF_len zb.length 0 zb; rw [htsb, hk] at this; omega
  have HTS := Lib.hid hts
  have HM := Lib.hid hm
  have HTSB := Lib.hid htsb
  have HK := Lib.hid hk
  have HO := Lib.hid ho
  have hob := allF_out zb.length 0 zb
  rw [htsb] at hob
  have HOB := Lib.hid hob
  clear hob
  clear hts hm htsb hk ho
  by_cases hm0 : m = 0
  · have hlast : ∀ t, ts.getLast? = some t → t.err ≠ 2 := by
      have := HM.out
      intro t ht
      rw [List.eq_nil_of_length_eq_zero (this.trans hm0)] at ht
      cases ht
    have HLAST := Lib.hid hlast
    clear hlast
    have hm0' : ¬ 0 < m := by omega
    clear hm0
    go_enter Try.func5, Try.ntmps5
    go_wp2_with fail
    refine (awake_any _).mono ?_
    rintro e w1 ⟨rfl, hb1⟩
    go_wp2_with fail
    refine (all_own _ _ _ za _ rfl (HR.out.below hb1 hb1.size) (by omega) hc HB.out ts m HTS.out HM.out).mono ?_
    rintro e w2 ⟨A2, c2, xs2, rfl, hr2, ht2, hc2, hm2, hb2⟩
    have HR2 := Lib.hid hr2
    have HT2 := Lib.hid ht2
    have hbA := hb1.trans (hb2.mono hb1.size)
    clear hr2 ht2
    unfold maxLen at hm2
    go_wp2_with (at_builtin; refine wpList_app _ rfl _ _ 23 rfl w2.heap.size 5 i0 _ 1 1 Try.underlying23 hi hz0 hz1 hz2 rfl (by decide) _ _ _ rfl (World.ownsRow_nil _ _ _ _) w2.heap.size A za.length cap (za.map (Value.int .u8)) rfl (by simp) (HR.out.below hbA hbA.size) (ints_one _ _) ?c3 ?c4 ?c5 ?_)
    case c3 => simp only [maxLen]; omega
    case c4 => omega
    case c5 => exact Nat.le_refl _
    intro v3 w3 hown3 hg3
    have hb3 := (Below.refl w2.heap.size w2).grown hg3 (Nat.le_refl _) (by intro k hk; simp [Value.ownBlock] at hk)
    have hbB := hbA.trans (hb3.mono hbA.size)
    go_wp2_with (at_builtin; refine wpList_app _ rfl _ _ 23 rfl w2.heap.size 5 i0 _ 1 1 Try.underlying23 hi hz0 hz1 hz2 rfl (by decide) _ _ _ rfl hown3 w3.heap.size A' zb.length cap' (zb.map (Value.int .u8)) rfl (by simp) (HR'.out.below hbB hbB.size) (ints_one _ _) ?c3 ?c4 ?c5 ?_)
    case c3 => simp only [maxLen]; omega
    case c4 => omega
    case c5 => exact hb3.size
    intro v4 w4 hown4 hg4
    rw [← List.map_append] at hown4
    have hb4 := below_own hb3 hg4 hown3 (Nat.le_refl _) hb3.size
    have hbC := hbA.trans (hb4.mono hbA.size)
    obtain ⟨A4, c4, rfl, hc4, hm4⟩ := own_form hown4
    have HR4 := Lib.hid (Rd.own hown4)
    have HT2' := Lib.hid (HT2.out.below hb4 hb4.size)
    have HR2' := Lib.hid (HR2.out.below hb4 hb4.size)
    clear hown3 hown4 hg3 hg4
    go_wp2_with fail
    have hcat := allF_app zb za.length za 0 (Nat.le_refl _) (by rw [HTS.out]; exact HLAST.out) (za ++ zb).length (by simp)
    rw [HTS.out, show (0 : Int) + za.length = 0 + za.length from rfl, allF_shift, HTSB.out] at hcat
    have HCAT := Lib.hid hcat
    have hbb : ∀ z ∈ za ++ zb, 0 ≤ z ∧ z ≤ 255 := fun z hz => (List.mem_append.1 hz).elim (HB.out z) (HB'.out z)
    have HBB := Lib.hid hbb
    clear hcat hbb
    refine (all_own _ _ _ (za ++ zb) _ (by simp) HR4.out (by simp; omega) (by simp; omega) HBB.out (ts ++ tsb.map (shT za.length)) (m + k) HCAT.out (by rw [List.length_append, List.length_map, HM.out, HK.out])).mono ?_
    rintro e w5 ⟨A5, c5, xs5, rfl, hr5, ht5, hc5, hm5, hb5⟩
    have HR5 := Lib.hid hr5
    have HT5 := Lib.hid ht5
    have HR25 := Lib.hid (HR2'.out.below hb5 hb5.size)
    have HT25 := Lib.hid (HT2'.out.below hb5 hb5.size)
    have hbD := hbC.trans (hb5.mono hbC.size)
    clear hr5 ht5
    unfold maxLen at hm5
    have hmm : ¬ m + k < m := by omega
    go_wp2_with fail
    have hsp := Toks.split HT5.out
    refine (same_own m _ _ _ _ ts (xs5.take (ts.length * 4)) xs2 w5.heap.size _ HM.out.symm (HR5.out.take _) hsp.1 HR25.out HT25.out (by rw [HM.out]; omega) (fun t ht => by have := HO.out t ht; omega)).mono ?_
    rintro e w6 ⟨rfl, hb6⟩
    have hbE := hbD.trans (hb6.mono hbD.size)
    clear hsp
    go_wp2_with fail
    refine (all_row _ _ _ zb _ rfl (HR'.out.below hbE hbE.size) (by omega) hc' HB'.out tsb k HTSB.out HK.out).mono ?_
    rintro e w7 ⟨A7, c7, xs7, rfl, hown7, ht7, hc7, hm7, hb7⟩
    have HT7 := Lib.hid ht7
    have HO7 := Lib.hid hown7
    clear ht7 hown7
    unfold maxLen at hm7
    go_wp2_with fail
    go_loopw [52] (fun i wr => ∃ (K : Nat) (xs : List Value), K ≤ k ∧ i = .int .i64 K ∧ wr.ownsRow w6.heap.size 38 4 (.slice A7 k c7) k xs ∧ Toks wr wr.heap.size xs (mixT za.length K tsb) ∧ Below w6.heap.size w6 wr) (fun i _ => k - (intOf i).toNat)
    case atStart => exact ⟨0, xs7, by omega, rfl, HO7.out, by simpa [mixT] using HT7.out, hb7⟩
    case round =>
      obtain ⟨K, xs, hK, rfl, hown, htok, hbr⟩ := hrel
      have HOW := Lib.hid hown
      have HTO := Lib.hid htok
      clear hown htok
      by_cases hKk : K = k
      · have hKk' : ¬ K < k := by omega
        subst hKk
        have hmix : mixT za.length K tsb = tsb.map (shT za.length) := by unfold mixT; rw [← HK.out]; simp
        have hb7r := hb6.trans (hbr.mono hb6.size)
        have hrA := (HR5.out.below hb7r hb7r.size).dropS (k := m) (m := 4) (n := m + K) (cap := c5) (by have := Toks.length HT5.out; rw [this, List.length_append, List.length_map, HM.out, HK.out]) (by omega) (by omega) (by omega)
        have htA := (Toks.split (HT5.out.below hb7r hb7r.size)).2
        rw [HM.out] at htA
        have HTA := Lib.hid htA
        have hTO' := HTO.out
        rw [hmix] at hTO'
        have HTO2 := Lib.hid hTO'
        have HROW := Lib.hid (Rd.own HOW.out)
        clear htA hTO' hmix hKk'
        have hKK : ¬ K < K := by omega
        by_cases hcap : c5 = m
        · rw [if_pos hcap] at hrA
          have HRA := Lib.hid hrA
          clear hrA
          subst hcap
          obtain rfl : K = 0 := by omega
          go_wp2_with fail
          refine (same_own 0 _ _ _ _ (tsb.map (shT za.length)) (xs5.drop (c5 * 4)) xs wr.heap.size _ (by rw [List.length_map, HK.out]) HRA.out HTA.out HROW.out HTO2.out (by rw [List.length_map, HK.out]; omega) (fun t ht => by
            obtain ⟨u, hu, rfl⟩ := List.mem_map.1 ht
            have := HOB.out u hu
            show u.out.length ≤ _
            omega)).mono ?_
          rintro e w8 ⟨rfl, hb8⟩
          have hbF := (hbE.trans (hbr.mono hbE.size)).trans (hb8.mono (hbE.trans (hbr.mono hbE.size)).size)
          go_wp2
          go_ret
          exact ⟨rfl, hbF⟩
        · rw [if_neg hcap] at hrA
          have HRA := Lib.hid hrA
          clear hrA
          go_wp2_with fail
          refine (same_own K _ _ _ _ (tsb.map (shT za.length)) (xs5.drop (m * 4)) xs wr.heap.size _ (by rw [List.length_map, HK.out]) HRA.out HTA.out HROW.out HTO2.out (by rw [List.length_map, HK.out]; omega) (fun t ht => by
            obtain ⟨u, hu, rfl⟩ := List.mem_map.1 ht
            have := HOB.out u hu
            show u.out.length ≤ _
            omega)).mono ?_
          rintro e w8 ⟨rfl, hb8⟩
          have hbF := (hbE.trans (hbr.mono hbE.size)).trans (hb8.mono (hbE.trans (hbr.mono hbE.size)).size)
          go_wp2
          go_ret
          exact ⟨rfl, hbF⟩
      have hKk' : K < k := by omega
      have hKt : K < tsb.length := by rw [HK.out]; exact hKk'
      obtain ⟨g, cg, hform⟩ := ownsRow_form' HOW.out (by omega)
      injection hform with hA _ hcg
      subst hA hcg
      have hcell := Toks.cell HTO.out K _ (mixT_at hKt)
      have k1 := (HOW.out.cellAt (K * 4) (by omega)).trans hcell.1
      have kf := HOW.out.frozenAt (K * 4)
      have hpos := allF_pos zb.length 0 zb tsb[K] (by rw [HTSB.out]; exact List.getElem_mem hKt)
      obtain ⟨P, hP⟩ : ∃ x, x = tsb[K].pos := ⟨_, rfl⟩
      rw [← hP] at k1 hpos
      have HP := Lib.hid hP
      clear hcell hP
      have e4 : (0 : Int) ≤ K := by omega
      have e5 : (K : Int) < k := by omega
      go_wp2
      go_roundw
      case rel =>
        have hst := HOW.out.stored (K * 4) (.int .i64 (P + za.length))
        have hset := Toks.setPos (q := P + za.length) K _ (mixT_at hKt) HTO.out
        rw [show (mixT za.length K tsb).set K ⟨P + za.length, tsb[K].size, tsb[K].err, tsb[K].out⟩ = mixT za.length (K + 1) tsb from by rw [← mixT_step hKt, HP.out]; rfl] at hset
        refine ⟨K + 1, _, by omega, by go_num, hst.1, hset.keep hst.2.size (fun b c fr hl hc => ?_), hbr.setCell (HOW.out.lt g rfl).1 _⟩
        have hne : b ≠ g := by
          rintro rfl
          rcases HOW.out.2 with ⟨h1, _⟩ | ⟨g', cap', cur, h1, _, hh, _⟩
          · cases h1
          · injection h1 with h1 _ _
            injection h1 with h1
            injection h1 with h1 _ _
            subst h1
            rw [hh] at hc
            injection hc with hc
            injection hc with _ hc
            exact absurd hc (by decide)
        exact heap_setCell_other wr _ b _ (by simpa using hne)
      case measure => simp [intOf]; omega
  · have hmp : 0 < m := by omega
    have hmz : m - 1 < ts.length := by rw [HM.out]; omega
    obtain ⟨E, hE⟩ : ∃ x, x = ts[m - 1].err := ⟨_, rfl⟩
    have HE := Lib.hid hE
    clear hE hm0
    have hzl : 0 < za.length := by omega
    by_cases hez : E = 0
    · have hlast : ∀ t, ts.getLast? = some t → t.err ≠ 2 := by
        intro t ht
        rw [List.getLast?_eq_getElem?, HM.out, List.getElem?_eq_getElem hmz] at ht
        injection ht with ht
        subst ht
        rw [← HE.out, hez]; decide
      have HLAST := Lib.hid hlast
      clear hlast
      subst hez
      go_enter Try.func5, Try.ntmps5
      go_wp2_with fail
      refine (awake_any _).mono ?_
      rintro e w1 ⟨rfl, hb1⟩
      go_wp2_with fail
      refine (all_own _ _ _ za _ rfl (HR.out.below hb1 hb1.size) (by omega) hc HB.out ts m HTS.out HM.out).mono ?_
      rintro e w2 ⟨A2, c2, xs2, rfl, hr2, ht2, hc2, hm2, hb2⟩
      have HR2 := Lib.hid hr2
      have HT2 := Lib.hid ht2
      have hbA := hb1.trans (hb2.mono hb1.size)
      clear hr2 ht2
      unfold maxLen at hm2
      obtain ⟨b2, o2, rfl, hbl2, _, _, _, k4⟩ := same_at HR2.out HT2.out hmz
      rw [← HE.out] at k4
      have e1 : (0 : Int) ≤ m - 1 := by omega
      have e2 : (m : Int) - 1 < m := by omega
      have e3 : ((m : Int) - 1).toNat = m - 1 := by omega
      go_wp2_with (at_builtin; refine wpList_app _ rfl _ _ 23 rfl w2.heap.size 5 i0 _ 1 1 Try.underlying23 hi hz0 hz1 hz2 rfl (by decide) _ _ _ rfl (World.ownsRow_nil _ _ _ _) w2.heap.size A za.length cap (za.map (Value.int .u8)) rfl (by simp) (HR.out.below hbA hbA.size) (ints_one _ _) ?c3 ?c4 ?c5 ?_)
      case c3 => simp only [maxLen]; omega
      case c4 => omega
      case c5 => exact Nat.le_refl _
      intro v3 w3 hown3 hg3
      have hb3 := (Below.refl w2.heap.size w2).grown hg3 (Nat.le_refl _) (by intro k hk; simp [Value.ownBlock] at hk)
      have hbB := hbA.trans (hb3.mono hbA.size)
      go_wp2_with (at_builtin; refine wpList_app _ rfl _ _ 23 rfl w2.heap.size 5 i0 _ 1 1 Try.underlying23 hi hz0 hz1 hz2 rfl (by decide) _ _ _ rfl hown3 w3.heap.size A' zb.length cap' (zb.map (Value.int .u8)) rfl (by simp) (HR'.out.below hbB hbB.size) (ints_one _ _) ?c3 ?c4 ?c5 ?_)
      case c3 => simp only [maxLen]; omega
      case c4 => omega
      case c5 => exact hb3.size
      intro v4 w4 hown4 hg4
      rw [← List.map_append] at hown4
      have hb4 := below_own hb3 hg4 hown3 (Nat.le_refl _) hb3.size
      have hbC := hbA.trans (hb4.mono hbA.size)
      obtain ⟨A4, c4, rfl, hc4, hm4⟩ := own_form hown4
      have HR4 := Lib.hid (Rd.own hown4)
      have HT2' := Lib.hid (HT2.out.below hb4 hb4.size)
      have HR2' := Lib.hid (HR2.out.below hb4 hb4.size)
      clear hown3 hown4 hg3 hg4
      go_wp2_with fail
      have hcat := allF_app zb za.length za 0 (Nat.le_refl _) (by rw [HTS.out]; exact HLAST.out) (za ++ zb).length (by simp)
      rw [HTS.out, show (0 : Int) + za.length = 0 + za.length from rfl, allF_shift, HTSB.out] at hcat
      have HCAT := Lib.hid hcat
      have hbb : ∀ z ∈ za ++ zb, 0 ≤ z ∧ z ≤ 255 := fun z hz => (List.mem_append.1 hz).elim (HB.out z) (HB'.out z)
      have HBB := Lib.hid hbb
      clear hcat hbb
      refine (all_own _ _ _ (za ++ zb) _ (by simp) HR4.out (by simp; omega) (by simp; omega) HBB.out (ts ++ tsb.map (shT za.length)) (m + k) HCAT.out (by rw [List.length_append, List.length_map, HM.out, HK.out])).mono ?_
      rintro e w5 ⟨A5, c5, xs5, rfl, hr5, ht5, hc5, hm5, hb5⟩
      have HR5 := Lib.hid hr5
      have HT5 := Lib.hid ht5
      have HR25 := Lib.hid (HR2'.out.below hb5 hb5.size)
      have HT25 := Lib.hid (HT2'.out.below hb5 hb5.size)
      have hbD := hbC.trans (hb5.mono hbC.size)
      clear hr5 ht5
      unfold maxLen at hm5
      have hmm : ¬ m + k < m := by omega
      go_wp2_with fail
      have hsp := Toks.split HT5.out
      refine (same_own m _ _ _ _ ts (xs5.take (ts.length * 4)) xs2 w5.heap.size _ HM.out.symm (HR5.out.take _) hsp.1 HR25.out HT25.out (by rw [HM.out]; omega) (fun t ht => by have := HO.out t ht; omega)).mono ?_
      rintro e w6 ⟨rfl, hb6⟩
      have hbE := hbD.trans (hb6.mono hbD.size)
      clear hsp
      go_wp2_with fail
      refine (all_row _ _ _ zb _ rfl (HR'.out.below hbE hbE.size) (by omega) hc' HB'.out tsb k HTSB.out HK.out).mono ?_
      rintro e w7 ⟨A7, c7, xs7, rfl, hown7, ht7, hc7, hm7, hb7⟩
      have HT7 := Lib.hid ht7
      have HO7 := Lib.hid hown7
      clear ht7 hown7
      unfold maxLen at hm7
      go_wp2_with fail
      go_loopw [52] (fun i wr => ∃ (K : Nat) (xs : List Value), K ≤ k ∧ i = .int .i64 K ∧ wr.ownsRow w6.heap.size 38 4 (.slice A7 k c7) k xs ∧ Toks wr wr.heap.size xs (mixT za.length K tsb) ∧ Below w6.heap.size w6 wr) (fun i _ => k - (intOf i).toNat)
      case atStart => exact ⟨0, xs7, by omega, rfl, HO7.out, by simpa [mixT] using HT7.out, hb7⟩
      case round =>
        obtain ⟨K, xs, hK, rfl, hown, htok, hbr⟩ := hrel
        have HOW := Lib.hid hown
        have HTO := Lib.hid htok
        clear hown htok
        by_cases hKk : K = k
        · have hKk' : ¬ K < k := by omega
          subst hKk
          have hmix : mixT za.length K tsb = tsb.map (shT za.length) := by unfold mixT; rw [← HK.out]; simp
          have hb7r := hb6.trans (hbr.mono hb6.size)
          have hrA := (HR5.out.below hb7r hb7r.size).dropS (k := m) (m := 4) (n := m + K) (cap := c5) (by have := Toks.length HT5.out; rw [this, List.length_append, List.length_map, HM.out, HK.out]) (by omega) (by omega) (by omega)
          have htA := (Toks.split (HT5.out.below hb7r hb7r.size)).2
          rw [HM.out] at htA
          have HTA := Lib.hid htA
          have hTO' := HTO.out
          rw [hmix] at hTO'
          have HTO2 := Lib.hid hTO'
          have HROW := Lib.hid (Rd.own HOW.out)
          clear htA hTO' hmix hKk'
          have hKK : ¬ K < K := by omega
          by_cases hcap : c5 = m
          · rw [if_pos hcap] at hrA
            have HRA := Lib.hid hrA
            clear hrA
            subst hcap
            obtain rfl : K = 0 := by omega
            go_wp2_with fail
            refine (same_own 0 _ _ _ _ (tsb.map (shT za.length)) (xs5.drop (c5 * 4)) xs wr.heap.size _ (by rw [List.length_map, HK.out]) HRA.out HTA.out HROW.out HTO2.out (by rw [List.length_map, HK.out]; omega) (fun t ht => by
              obtain ⟨u, hu, rfl⟩ := List.mem_map.1 ht
              have := HOB.out u hu
              show u.out.length ≤ _
              omega)).mono ?_
            rintro e w8 ⟨rfl, hb8⟩
            have hbF := (hbE.trans (hbr.mono hbE.size)).trans (hb8.mono (hbE.trans (hbr.mono hbE.size)).size)
            go_wp2
            go_ret
            exact ⟨rfl, hbF⟩
          · rw [if_neg hcap] at hrA
            have HRA := Lib.hid hrA
            clear hrA
            go_wp2_with fail
            refine (same_own K _ _ _ _ (tsb.map (shT za.length)) (xs5.drop (m * 4)) xs wr.heap.size _ (by rw [List.length_map, HK.out]) HRA.out HTA.out HROW.out HTO2.out (by rw [List.length_map, HK.out]; omega) (fun t ht => by
              obtain ⟨u, hu, rfl⟩ := List.mem_map.1 ht
              have := HOB.out u hu
              show u.out.length ≤ _
              omega)).mono ?_
            rintro e w8 ⟨rfl, hb8⟩
            have hbF := (hbE.trans (hbr.mono hbE.size)).trans (hb8.mono (hbE.trans (hbr.mono hbE.size)).size)
            go_wp2
            go_ret
            exact ⟨rfl, hbF⟩
        have hKk' : K < k := by omega
        have hKt : K < tsb.length := by rw [HK.out]; exact hKk'
        obtain ⟨g, cg, hform⟩ := ownsRow_form' HOW.out (by omega)
        injection hform with hA _ hcg
        subst hA hcg
        have hcell := Toks.cell HTO.out K _ (mixT_at hKt)
        have k1 := (HOW.out.cellAt (K * 4) (by omega)).trans hcell.1
        have kf := HOW.out.frozenAt (K * 4)
        have hpos := allF_pos zb.length 0 zb tsb[K] (by rw [HTSB.out]; exact List.getElem_mem hKt)
        obtain ⟨P, hP⟩ : ∃ x, x = tsb[K].pos := ⟨_, rfl⟩
        rw [← hP] at k1 hpos
        have HP := Lib.hid hP
        clear hcell hP
        have e4 : (0 : Int) ≤ K := by omega
        have e5 : (K : Int) < k := by omega
        go_wp2
        go_roundw
        case rel =>
          have hst := HOW.out.stored (K * 4) (.int .i64 (P + za.length))
          have hset := Toks.setPos (q := P + za.length) K _ (mixT_at hKt) HTO.out
          rw [show (mixT za.length K tsb).set K ⟨P + za.length, tsb[K].size, tsb[K].err, tsb[K].out⟩ = mixT za.length (K + 1) tsb from by rw [← mixT_step hKt, HP.out]; rfl] at hset
          refine ⟨K + 1, _, by omega, by go_num, hst.1, hset.keep hst.2.size (fun b c fr hl hc => ?_), hbr.setCell (HOW.out.lt g rfl).1 _⟩
          have hne : b ≠ g := by
            rintro rfl
            rcases HOW.out.2 with ⟨h1, _⟩ | ⟨g', cap', cur, h1, _, hh, _⟩
            · cases h1
            · injection h1 with h1 _ _
              injection h1 with h1
              injection h1 with h1 _ _
              subst h1
              rw [hh] at hc
              injection hc with hc
              injection hc with _ hc
              exact absurd hc (by decide)
          exact heap_setCell_other wr _ b _ (by simpa using hne)
        case measure => simp [intOf]; omega
    · have hez' : (E != 0) = true := by simpa using hez
      clear hez
      go_enter Try.func5, Try.ntmps5
      go_wp2_with fail
      refine (awake_any _).mono ?_
      rintro e w1 ⟨rfl, hb1⟩
      go_wp2_with fail
      refine (all_own _ _ _ za _ rfl (HR.out.below hb1 hb1.size) (by omega) hc HB.out ts m HTS.out HM.out).mono ?_
      rintro e w2 ⟨A2, c2, xs2, rfl, hr2, ht2, hc2, hm2, hb2⟩
      have HR2 := Lib.hid hr2
      have HT2 := Lib.hid ht2
      have hbA := hb1.trans (hb2.mono hb1.size)
      clear hr2 ht2
      unfold maxLen at hm2
      obtain ⟨b2, o2, rfl, hbl2, _, _, _, k4⟩ := same_at HR2.out HT2.out hmz
      rw [← HE.out] at k4
      have e1 : (0 : Int) ≤ m - 1 := by omega
      have e2 : (m : Int) - 1 < m := by omega
      have e3 : ((m : Int) - 1).toNat = m - 1 := by omega
      go_wp2
      go_ret
      exact ⟨rfl, hbA⟩
end Go.Proofs.Ytfhjphemeddjcaa
