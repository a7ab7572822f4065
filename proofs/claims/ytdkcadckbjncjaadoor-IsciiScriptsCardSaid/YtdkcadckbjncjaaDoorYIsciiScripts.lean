/- IsciiScripts: the walk. -/
import Derived.Test.YtdkcadckbjncjaaDoorZ27
import Derived.Test.YtdkcadckbjncjaaDoorZ15
import Derived.Test.YtdkcadckbjncjaaDoorZ20
import Derived.Handy
namespace Go.Proofs.YtdkcadckbjncjaaDoor
set_option linter.unusedVariables false
set_option linter.unusedSimpArgs false
set_option linter.unnecessarySimpa false
open Go.RowKit
theorem eOne_small (q : List Int) (a : Int) (ah : List Int) (u : Int) : (∀ t ∈ (eOne q a ah u).1, t.out.length ≤ 8) ∧ (eOne q a ah u).1.length ≤ q.length + 1 := by
  obtain ⟨d, hd⟩ : ∃ d, drain (turnR inR) a (q ++ [u]) = d := ⟨_, rfl⟩
  have h := drain_lenT (q ++ [u]) a
  unfold eOne
  rw [hd] at h ⊢
  obtain ⟨t2, rest, k⟩ := d
  refine ⟨encF_small (inT_small hd), ?_⟩
  simp only [encF_len]
  simpa using h
/-- what both Encoders tell of one consonant -/
theorem scr_step (k p : Nat) (hk : k < 9) (hp : p < 20) {K : Nat} {q ah q' ah' : List Int} {a sy a' s' : Int} {ts : List Tk} (h0 : K = 0 → q = [] ∧ a = 0 ∧ ah = []) (hsy : sy = if K = 0 then 0 else (k : Int)) (hx : ePut q a ah 0 (2325 + (p : Int)) = (ts, q', a', ah', s')) (hq : q.length ≤ 1) :
    s' = 0 ∧ (∀ t ∈ ts, t.out.length ≤ 8) ∧ ts.length ≤ 2 ∧ ∃ ts', ePut q a ah sy (2325 + 128 * (k : Int) + p) = (ts', q', a', ah', (k : Int)) ∧ outsT ts' = (if K = 0 ∧ 0 < k then [239, cdC k] else []) ++ outsT ts ∧ (∀ t ∈ ts', t.out.length ≤ 8) ∧ ts'.length ≤ 3 := by
  have h1 := put_same q a ah 0 p (by decide) hp
  rw [show (2325 + 128 * ((0 : Nat) : Int) + (p : Int)) = 2325 + p by omega, show ((0 : Nat) : Int) = 0 from rfl, hx] at h1
  obtain ⟨hsm, hln⟩ := eOne_small q a ah (21 + p)
  simp only [Prod.mk.injEq] at h1
  obtain ⟨rfl, rfl, rfl, rfl, rfl⟩ := h1
  refine ⟨rfl, hsm, by omega, ?_⟩
  by_cases hK : K = 0 ∧ 0 < k
  · obtain ⟨rfl, rfl, rfl⟩ := h0 hK.1
    rw [if_pos hK.1] at hsy
    subst hsy
    refine ⟨_, put_first k p hk hK.2 hp, ?_, ?_, by simp at hln ⊢; omega⟩
    · rw [if_pos hK]; rfl
    · intro t ht
      rcases List.mem_cons.1 ht with rfl | ht
      · simp [swT]
      · exact hsm t ht
  · have hs : sy = k := by
      rw [hsy]
      by_cases h : K = 0
      · rw [if_pos h]; have : ¬ 0 < k := fun h2 => hK ⟨h, h2⟩; omega
      · rw [if_neg h]
    subst hs
    exact ⟨_, put_same q a ah k p hk hp, by rw [if_neg hK]; rfl, hsm, by omega⟩
def hdE (k K : Nat) : List Int := if 0 < K ∧ 0 < k then [239, cdC k] else []
theorem hdE_next (k K : Nat) (z t : List Int) : (hdE k K ++ z) ++ ((if K = 0 ∧ 0 < k then [239, cdC k] else []) ++ t) = hdE k (K + 1) ++ (z ++ t) ∨ z ≠ [] ∧ K = 0 := by
  unfold hdE
  by_cases hk : 0 < k
  · by_cases hK : K = 0
    · subst hK
      by_cases hz : z = []
      · left; subst hz; simp [hk]
      · exact .inr ⟨hz, rfl⟩
    · left
      rw [if_pos ⟨by omega, hk⟩, if_neg (fun h => hK h.1), if_pos ⟨by omega, hk⟩]; simp
  · left
    rw [if_neg (fun h => hk h.2), if_neg (fun h => hk h.2), if_neg (fun h => hk h.2)]; simp
theorem hdE_len (k K : Nat) : (hdE k K).length ≤ 2 := by unfold hdE; split <;> simp
set_option maxRecDepth 100000 in
set_option maxHeartbeats 25600000 in
theorem isciiScripts_any (I : IsApi) (s : Int) (A : Option Addr) (c : Nat) (zs : List Int) (w : World) (hI : I.OK w) (hs0 : 0 ≤ s) (hs1 : s ≤ 255) (hz : Rd w w.heap.size A (zs.map (Value.int .u8))) (hzr : ∀ z ∈ zs, 0 ≤ z ∧ z ≤ 255) (hzc : zs.length ≤ c) (hzm : c ≤ maxLen) :
    Calls Tryd.prog 8 #[.int .u8 s, .slice A zs.length c] w fun e w' => e = .returned (.bool true) ∧ Below w.heap.size w w' := by
  obtain ⟨n, hnY⟩ : ∃ n, n = zs.length := ⟨_, rfl⟩
  rw [← hnY] at hzc ⊢
  obtain ⟨n9, hn1, hn2, hnn, hn4⟩ : ∃ q : Nat, min (n : Int) 60 = (q : Int) ∧ (if (60 : Int) < (n : Int) then (60 : Int) else (n : Int)) = (q : Int) ∧ q ≤ n ∧ q ≤ 60 := by
    by_cases h : n < 60
    · exact ⟨n, by omega, by rw [if_neg (by omega)], by omega, by omega⟩
    · exact ⟨60, by omega, by split <;> omega, by omega, by omega⟩
  have hn0 : (0 : Int) ≤ (n9 : Int) := by omega
  have hni : (n9 : Int) ≤ n := by omega
  unfold maxLen at hzm
  have hnc : (n9 : Int) ≤ c := by omega
  have HPOS := Lib.hid (show 0 < n ↔ 0 < n9 by omega)
  obtain ⟨ys, hys⟩ : ∃ ys, zs.take n9 = ys := ⟨_, rfl⟩
  have hyl : ys.length = n9 := by rw [← hys, List.length_take]; omega
  have hyr : ∀ z ∈ ys, 0 ≤ z ∧ z ≤ 255 := fun z h => hzr z (by rw [← hys] at h; exact List.mem_of_mem_take h)
  have hyd : Rd w w.heap.size A (ys.map (Value.int .u8)) := by rw [← hys, List.map_take]; exact hz.take n9
  obtain ⟨k, hk⟩ : ∃ k : Nat, s.toNat % 9 = k := ⟨_, rfl⟩
  have hk9 : k < 9 := by omega
  have hsk : s % 9 = (k : Int) := by omega
  have hwk : IntKind.i64.wrap (k : Int) = k := by rw [IntKind.wrap_i64]; omega
  have hk0 : (0 : Int) ≤ k := by omega
  have hk1 : (k : Int) < 9 := by omega
  have HI := Lib.hid hI
  have HYL := Lib.hid hyl
  have HYR := Lib.hid hyr
  have HYD := Lib.hid hyd
  clear hI hz hzr hyl hyr hyd hys hnY hk hzm
  go_enter Tryd.func8, Tryd.ntmps8
  go_wp2_with fail
  refine (awake18_any I w HI.out).mono ?_
  rintro e w1 ⟨rfl, hb1⟩
  have HI1 := Lib.hid (I.keep HI.out hb1)
  have HB1 := Lib.hid hb1
  have hs1' := hb1.size
  clear hb1
  go_wp2_with fail
  refine (I.encode w1 HI1.out).mono ?_
  rintro e w2 ⟨px, Fx, rfl, hE2, hfx1, hb2⟩
  have HI2 := Lib.hid (I.keep HI1.out hb2)
  have HE2 := Lib.hid hE2
  have HB2 := Lib.hid (HB1.out.trans (hb2.mono hs1'))
  have hs2 := hb2.size
  clear hE2 hb2
  go_wp2_with fail
  refine (I.encode w2 HI2.out).mono ?_
  rintro e w3 ⟨py, Fy, rfl, hE3, hfy1, hb3⟩
  have hs3 := hb3.size
  have HBW := Lib.hid (HB2.out.trans (hb3.mono (by omega)))
  have hfx := (I.efoot HE2.out).2
  have hfy := (I.efoot hE3).2
  have HT0 : Hid (TwoE I w1.heap.size w3.heap.size w3 px [] 0 [] 0 py [] 0 [] 0 (.slice none 0 0) (.slice none 0 0) (outsT []) (hdE k 0 ++ outsT [])) :=
    ⟨Fx, Fx, Fy, Fy, eBelow HE2.out hb3, hE3, IR.nil _ _, by simp [hdE, outsT]; exact IR.nil _ _, ⟨NotIn.nil _, NotIn.nil _, NotIn.nil _, NotIn.nil _⟩, (fun g e => by cases e), (fun b hb e => by have h1 := hfx b hb; have h2 := hfy1 b e; omega), (fun b hb e => by have h1 := hfx b e; have h2 := hfy1 b hb; omega), hfx1, (fun b hb => Nat.le_trans hs2 (hfy1 b hb))⟩
  have hRw : w3.heap.size ≤ w3.heap.size := Nat.le_refl _
  obtain ⟨S1, hS1⟩ : ∃ S, w1.heap.size = S := ⟨_, rfl⟩
  obtain ⟨S2, hS2⟩ : ∃ S, w2.heap.size = S := ⟨_, rfl⟩
  obtain ⟨R, hR⟩ : ∃ S, w3.heap.size = S := ⟨_, rfl⟩
  rw [hS1, hR] at HT0
  rw [hS1] at hs1' hs2
  rw [hS2] at hs2 hs3
  rw [hR] at hs3
  have hRw : R ≤ w3.heap.size := by omega
  clear hE3 hb3 HE2 HB1 HB2 HI1 HI2 hfx hfy hfx1 hfy1 hS1 hS2 hR
  obtain ⟨sx, hsx⟩ : ∃ sx, ys.map (fun z : Int => 2325 + z % 20) = sx := ⟨_, rfl⟩
  have HSX := Lib.hid hsx
  clear hsx
  go_wp2_with fail
  go_loopw [6, 7, 32] (fun va vb i wr => ∃ (K : Nat) (q ah : List Int) (a : Int) (acc : List Tk), K ≤ n9 ∧ i = .int .i64 K ∧ Hid (ES sx K q a ah 0 acc) ∧ Hid (K = 0 → q = [] ∧ a = 0 ∧ ah = [] ∧ acc = []) ∧ Hid (TwoE I S1 R wr px q a ah 0 py q a ah (if K = 0 then 0 else (k : Int)) va vb (outsT acc) (hdE k K ++ outsT acc)) ∧ Hid (Below w.heap.size w wr) ∧ R ≤ wr.heap.size ∧ (outsT acc).length ≤ 16 * K) (fun _ _ i _ => n9 - (intOf i).toNat)
  case atStart => exact ⟨0, [], [], 0, [], by omega, rfl, Lib.hid (ES.start sx), Lib.hid (fun _ => ⟨rfl, rfl, rfl, rfl⟩), HT0, HBW, hRw, by simp [outsT]⟩
  case round =>
    clear HT0 HBW hRw
    obtain ⟨K, q, ah, a, acc, hK, rfl, hes, hz0, hT, hb, hwr, hol⟩ := hrel
    obtain ⟨wo, rfl⟩ : ∃ wo : World, wo = wr := ⟨_, rfl⟩
    by_cases hKn : K = n9
    · have hK' : ¬ K < n9 := by omega
      obtain ⟨Gx, Fx, Gy, Fy, hEx, hEy, hA, hB, hn, hne, ffx, ffy, fsx, fsy⟩ := hT.out
      obtain ⟨ts, hts⟩ : ∃ ts, encF inR ah (rewA (turnR inR) a q) = ts := ⟨_, rfl⟩
      have hq1 := hes.out.one
      have hln := eEnd_len hts hq1
      have hsm : ∀ t ∈ ts, t.out.length ≤ 8 := by rw [← hts]; exact encF_small (fun t ht => (inT_good.rew_tk q a t ht).len)
      obtain ⟨-, ha1, -, hah, ha0, -, -⟩ := hes.out
      have hsy : (0 : Int) ≤ (if K = 0 then 0 else (k : Int)) ∧ (if K = 0 then 0 else (k : Int)) ≤ 8 := by split <;> omega
      obtain ⟨sy, hsye⟩ : ∃ sy, (if K = 0 then 0 else (k : Int)) = sy := ⟨_, rfl⟩
      rw [hsye] at hEy hsy
      have P1 := Lib.hid (I.eend ts hEx (I.keep HI.out hb.out) hq1 hah ha0 (by omega) (by decide) (by decide) hts)
      obtain ⟨A9, c9, rfl, -, -⟩ := hA.form
      obtain ⟨A10, c10, rfl, -, -⟩ := hB.form
      obtain ⟨za, hza⟩ : ∃ z, outsT acc = z := ⟨_, rfl⟩
      obtain ⟨zb, hzb⟩ : ∃ z, hdE k K ++ outsT acc = z := ⟨_, rfl⟩
      have hzl : zb.length ≤ 2000 := by rw [← hzb, List.length_append]; have := hdE_len k K; omega
      rw [hzb] at hB hn hne ⊢
      rw [hza] at hA hn hne hol ⊢
      obtain ⟨k9, hk9l⟩ : ∃ k, za.length = k := ⟨_, rfl⟩
      obtain ⟨k10, hk10l⟩ : ∃ k, zb.length = k := ⟨_, rfl⟩
      have HZA := Lib.hid hza
      have HZB := Lib.hid hzb
      have HZL := Lib.hid hzl
      have HOL := Lib.hid (show za.length ≤ 2000 by omega)
      rw [hk9l] at hA hn hne ⊢
      rw [hk10l] at hB hn hne ⊢
      have HEY := Lib.hid hEy
      have HA := Lib.hid hA
      have HB := Lib.hid hB
      have HN := Lib.hid hn
      have HNE := Lib.hid hne
      have FFX := Lib.hid ffx
      have FFY := Lib.hid ffy
      have FSX := Lib.hid fsx
      have FSY := Lib.hid fsy
      have HGX := Lib.hid (I.efoot hEx).1
      have HSM := Lib.hid hsm
      have HTS := Lib.hid hts
      have HKE := Lib.hid hKn
      clear hes hz0 hT hEx hEy hA hB hn hne ffx ffy fsx fsy hts hza hzb hzl hk9l hk10l hsm hsye hol hKn
      go_wp2_with fail
      refine P1.out.mono ?_
      rintro e w8 ⟨v8, G', F', B8, rfl, ho8, hE8, hT8⟩
      have hm8 := hT8.mid
      have hB8 := hT8.base
      have hB8t := hT8.top
      obtain ⟨A8, c8, rfl, -⟩ := ho8.form
      obtain ⟨m8, hm8l⟩ : ∃ m, ts.length = m := ⟨_, rfl⟩
      rw [hm8l] at ho8 hln ⊢
      have hs8 := hm8.size
      have HLM := Lib.hid hm8l
      have HB8 := Lib.hid (hb.out.trans (hm8.below (fun b hb => by have := FSX.out b (HGX.out b hb); omega) (by omega)))
      have Q1 := Lib.hid (put18_any w8 R A9 k9 c9 za (HA.out.toldN hT8 HGX.out HN.out.1) (by omega) B8 A8 m8 c8 ts ho8 hm8l.symm HSM.out (by omega) (by have := HOL.out; omega) _ rfl (fun b e => by have := (HA.out.lt e).2; omega))
      have HE8 := Lib.hid hE8
      have HTT := Lib.hid hT8
      clear ho8 hE8 hT8 hm8 hm8l P1
      go_wp2_with fail
      refine Q1.out.mono ?_
      rintro e w9 ⟨A11, k11, c11, rfl, hco⟩
      have hT9 := TwoE.stepx (R := R) HGX.out HEY.out HA.out HB.out HN.out HNE.out FFX.out FFY.out FSX.out FSY.out (show S1 ≤ _ by omega) HE8.out HTT.out hco
      have HB9 := Lib.hid (hco.below HB8.out (fun b e => by have := (HA.out.lt e).1; omega) (by omega))
      have hs9 := hco.grown.size
      obtain ⟨Gx, Fx, Gy, Fy, hEx, hEy, hA, hB, hn, hne, ffx, ffy, fsx, fsy⟩ := hT9
      have P2 := Lib.hid (I.eend ts hEy (I.keep HI.out HB9.out) hq1 hah ha0 (by omega) hsy.1 hsy.2 HTS.out)
      have HEX := Lib.hid hEx
      have HA9 := Lib.hid hA
      have HB9' := Lib.hid hB
      have HN9 := Lib.hid hn
      have HNE9 := Lib.hid hne
      have FFX9 := Lib.hid ffx
      have FFY9 := Lib.hid ffy
      have FSX9 := Lib.hid fsx
      have FSY9 := Lib.hid fsy
      have HGY := Lib.hid (I.efoot hEy).1
      clear hco hEx hEy hA hB hn hne ffx ffy fsx fsy Q1 HE8 HTT HEY HA HB HN HNE FFX FFY FSX FSY HGX HB8
      go_wp2_with fail
      refine P2.out.mono ?_
      rintro e w10 ⟨v10, G', F', B10, rfl, ho8, hE8, hT8⟩
      have hm8 := hT8.mid
      have hB10 := hT8.base
      have hB10t := hT8.top
      obtain ⟨A8, c8, rfl, -⟩ := ho8.form
      rw [HLM.out] at ho8 ⊢
      have hs10 := hm8.size
      have HB10 := Lib.hid (HB9.out.trans (hm8.below (fun b hb => by have := FSY9.out b (HGY.out b hb); omega) (by omega)))
      have Q2 := Lib.hid (put18_any w10 R A10 k10 c10 zb (HB9'.out.toldN hT8 HGY.out HN9.out.2.2.2) (by omega) B10 A8 m8 c8 ts ho8 HLM.out.symm HSM.out (by omega) (by have := HZL.out; omega) _ rfl (fun b e => by have := (HB9'.out.lt e).2; omega))
      have HE8 := Lib.hid hE8
      have HTT := Lib.hid hT8
      clear ho8 hE8 hT8 hm8 P2
      go_wp2_with fail
      refine Q2.out.mono ?_
      rintro e w11 ⟨A12, k12, c12, rfl, hco⟩
      have hT9 := TwoE.stepy (R := R) HGY.out HEX.out HA9.out HB9'.out HN9.out HNE9.out FFX9.out FFY9.out FSX9.out FSY9.out (show S1 ≤ _ by omega) HE8.out HTT.out hco
      have HB11 := Lib.hid (hco.below HB10.out (fun b e => by have := (HB9'.out.lt e).1; omega) (by omega))
      have hs11 := hco.grown.size
      obtain ⟨-, -, -, -, -, -, hA, hB, -⟩ := hT9
      obtain ⟨zA, hzA⟩ : ∃ z, za ++ outsT ts = z := ⟨_, rfl⟩
      have hzB : zb ++ outsT ts = hdE k K ++ zA := by rw [← hzA, ← HZB.out, ← HZA.out, List.append_assoc]
      rw [hzA] at hA
      rw [hzB] at hB
      have hAl : k11 = zA.length := hA.len
      have hBl : k12 = (hdE k K ++ zA).length := hB.len
      have HA11 := Lib.hid hA
      have HB11' := Lib.hid hB
      have HAL := Lib.hid hAl
      have HBL := Lib.hid hBl
      have hzAl : zA.length ≤ 3000 := by
        rw [← hzA, List.length_append]
        have h1 := outsT_len ts HSM.out
        have h2 := HOL.out
        have h3 := HLM.out
        omega
      have HZAL := Lib.hid hzAl
      clear hco hA hB hAl hBl hzA hzB hzAl Q2 HE8 HTT HEX HA9 HB9' HN9 HNE9 FFX9 FFY9 FSX9 FSY9 HGY HB10 HB9
      by_cases hkp : 0 < k ∧ 0 < n9
      · have d1 : decide ((k : Int) > 0) = true := by simp; omega
        have hnp := HPOS.out.2 hkp.2
        have d2 : decide ((n : Int) > 0) = true := by simp; omega
        have d3 : decide (0 < n) = true := by simpa using hnp
        have d4 : decide (0 < k) = true := by simpa using hkp.1
        have HHD := Lib.hid (show hdE k K = [239, cdC k] by unfold hdE; rw [if_pos ⟨by have := HKE.out; omega, hkp.1⟩])
        rw [HHD.out] at HB11' HBL
        clear hkp hnp
        go_wp2_with fail
        refine (lcodes_any w11).mono ?_
        rintro e w12 ⟨rfl, rfl⟩
        have ct := (Held.new w11 cdTab 3).cell k
        rw [show cdTab[k]? = some (.int .i64 (cdC k)) from tab_ints18 inCd k hk9] at ct
        have hbc := below_allocI w11 (.cells cdTab 3)
        obtain ⟨x, hx⟩ : ∃ x, cdC k = x := ⟨_, rfl⟩
        rw [hx] at ct HB11' HBL HHD
        have HB12 := Lib.hid (HB11.out.trans (hbc.mono HB11.out.size))
        have HA12 := Lib.hid (HA11.out.below hbc (Nat.le_refl _))
        have HB12' := Lib.hid (HB11'.out.below hbc (Nat.le_refl _))
        obtain ⟨W, hW⟩ : ∃ W, w11.alloc (.cells cdTab 3) = W := ⟨_, rfl⟩
        obtain ⟨Q, hQ⟩ : ∃ Q, w11.heap.size = Q := ⟨_, rfl⟩
        rw [hW] at ct HB12 HA12 HB12' ⊢
        rw [hQ] at ct ⊢
        have hbn := below_allocI W (.cells #[.int .i64 239, .int .i64 x] 3)
        have HN2 := Lib.hid (show IR (W.alloc (.cells #[.int .i64 239, .int .i64 x] 3)) W.heap.size (.slice (some ⟨W.heap.size, 0, none⟩) 2 2) [239, x] from ⟨rfl, .inr ⟨W.heap.size, 2, #[.int .i64 239, .int .i64 x], rfl, Nat.le_refl _, heap_alloc_new W _, by simp, by decide, rfl, rfl⟩⟩)
        have HAr := Lib.hid (show Rd (W.alloc (.cells #[.int .i64 239, .int .i64 x] 3)) (W.alloc (.cells #[.int .i64 239, .int .i64 x] 3)).heap.size A11 (zA.map (Value.int .i64)) from (HA12.out.below hbn (Nat.le_refl _)).rd)
        have HBn := Lib.hid (HB12.out.trans (hbn.mono HB12.out.size))
        have HBi := Lib.hid (HB12'.out.below hbn (Nat.le_refl _))
        have HGS := Lib.hid (show W.heap.size ≤ (W.alloc (.cells #[.int .i64 239, .int .i64 x] 3)).heap.size by simp)
        have HGW := Lib.hid HB12.out.size
        have HBLT := Lib.hid (show ∀ g, (Value.slice A12 k12 c12).ownBlock = some g → g < W.heap.size from fun g e => (HB12'.out.lt e).2)
        have HSZ := Lib.hid (show ([239, x] : List Int).length + zA.length ≤ 17592186044416 by have := HZAL.out; simp; omega)
        clear hbc hbn hW hQ hx HA12 HB12 HB12' HA11 HB11 HB11'
        go_wp2_with (at_builtin; refine wpList_appI rfl _ _ rfl W.heap.size (.slice (some ⟨W.heap.size, 0, none⟩) 2 2) [239, x] rfl HN2.out A11 k11 c11 zA rfl HAL.out _ HAr.out HSZ.out HGS.out ?_)
        intro v13 w13 HI13 HG13
        have hi13 := HI13.out
        obtain ⟨A13, c13, rfl, -, -⟩ := hi13.form
        have hB13 := ir_kept HBi.out HG13.out (fun g e e2 => by
          injection e with e
          have := HBLT.out g e2
          have : W.heap.size = g := e
          omega)
        have U1 := Lib.hid (units_any ([239, x] ++ zA).length k12 A13 A12 c13 c12 ([239, x] ++ zA) ([239, x] ++ zA) w13 rfl rfl HBL.out hi13.rd hB13.rd (by have := HZAL.out; simp; omega))
        have HB13 := Lib.hid (below_rowG HBn.out HG13.out (fun b e => by injection e with e; have h1 : W.heap.size = b := e; have := HGW.out; omega) HBn.out.size)
        clear hi13 hB13 HI13 HG13 HN2 HAr HBn HBi HBLT HGS
        go_wp2_with fail
        refine U1.out.mono ?_
        rintro e w14 ⟨rfl, hb14⟩
        have HB14 := Lib.hid (HB13.out.trans (hb14.mono HB13.out.size))
        clear hb14 U1 HB13
        go_wp2_with fail
        go_ret
        exact ⟨rfl, HB14.out⟩
      · have HHD := Lib.hid (show hdE k K = [] by unfold hdE; rw [if_neg (fun h => hkp ⟨h.2, by have := HKE.out; omega⟩)])
        rw [HHD.out, List.nil_append] at HB11' HBL
        have U1 := Lib.hid (units_any k11 k12 A11 A12 c11 c12 zA zA w11 rfl HAL.out HBL.out HA11.out.rd HB11'.out.rd (by have := HZAL.out; omega))
        clear HA11 HB11'
        by_cases hkz : 0 < k
        · have d1 : decide ((k : Int) > 0) = true := by simp; omega
          have hn00 : ¬ 0 < n := fun h => hkp ⟨hkz, HPOS.out.1 h⟩
          have d2 : decide ((n : Int) > 0) = false := by simp; omega
          have d3 : decide (0 < n) = false := by simp; omega
          have d4 : decide (0 < k) = true := by simpa using hkz
          clear hkp hkz hn00
          go_wp2_with fail
          refine U1.out.mono ?_
          rintro e w14 ⟨rfl, hb14⟩
          have HB14 := Lib.hid (HB11.out.trans (hb14.mono HB11.out.size))
          clear hb14 U1 HB11
          go_wp2_with fail
          go_ret
          exact ⟨rfl, HB14.out⟩
        · have d1 : decide ((k : Int) > 0) = false := by simp; omega
          have d4 : decide (0 < k) = false := by simpa using hkz
          clear hkp hkz
          go_wp2_with fail
          refine U1.out.mono ?_
          rintro e w14 ⟨rfl, hb14⟩
          have HB14 := Lib.hid (HB11.out.trans (hb14.mono HB11.out.size))
          clear hb14 U1 HB11
          go_wp2_with fail
          go_ret
          exact ⟨rfl, HB14.out⟩
    have hK' : K < n9 := by omega
    have hK1 : K < ys.length := by rw [HYL.out]; exact hK'
    have k3 : (0 : Int) ≤ K := by omega
    have k4 : (K : Int) < n9 := by omega
    obtain ⟨b3, o3, rfl, hb3, hc3⟩ : ∃ b o, A = some ⟨b, o, none⟩ ∧ b < w.heap.size ∧ ∀ j, j < ys.length → w.cell? ⟨b, o + j, none⟩ = some (.int .u8 (ys.getD j 0)) := by
      rcases HYD.out with h | ⟨b, o, h1, h2, h3⟩
      · rw [List.map_eq_nil_iff] at h; rw [h] at hK1; simp at hK1
      · refine ⟨b, o, h1, h2, fun j hj => ?_⟩
        rw [h3 j (by simpa using hj), List.getElem?_map, List.getD_eq_getElem?_getD, List.getElem?_eq_getElem hj]; rfl
    have r3 := (hb.out.cell (p := ⟨b3, o3 + K, none⟩) hb3).trans (hc3 K hK1)
    have hz := HYR.out (ys.getD K 0) (by rw [List.getD_eq_getElem?_getD, List.getElem?_eq_getElem hK1]; exact List.getElem_mem hK1)
    have hsxK : sx.getD K 0 = 2325 + ys.getD K 0 % 20 := by
      rw [← HSX.out, List.getD_eq_getElem?_getD, List.getElem?_map, List.getD_eq_getElem?_getD, List.getElem?_eq_getElem hK1]; rfl
    have hsxl : K < sx.length := by rw [← HSX.out, List.length_map]; exact hK1
    obtain ⟨z, hze⟩ : ∃ z, ys.getD K 0 = z := ⟨_, rfl⟩
    rw [hze] at r3 hz hsxK
    obtain ⟨hz0', hz1'⟩ := hz
    obtain ⟨d, hd⟩ : ∃ d : Nat, z % 20 = (d : Int) := ⟨(z % 20).toNat, by omega⟩
    have hd0 : (0 : Int) ≤ d := by omega
    have hd2 : (d : Int) < 20 := by omega
    have hwd : IntKind.i64.wrap (d : Int) = d := by rw [IntKind.wrap_i64]; omega
    rw [hd] at hsxK
    obtain ⟨ts, q', a', ah', s', hx⟩ : ∃ ts q' a' ah' s', ePut q a ah 0 (2325 + (d : Int)) = (ts, q', a', ah', s') := ⟨_, _, _, _, _, rfl⟩
    have hq1 := hes.out.one
    have hx' : ePut q a ah 0 (sx.getD K 0) = (ts, q', a', ah', s') := by rw [hsxK]; exact hx
    have hes2 := hes.out.step hsxl hx'
    obtain ⟨rfl, hsm, hln, ts', hy, hyo, hsm', hln'⟩ := scr_step k d hk9 (by omega) (K := K) (fun h => by obtain ⟨h1, h2, h3, -⟩ := hz0.out h; exact ⟨h1, h2, h3⟩) rfl hx hq1
    obtain ⟨-, ha1, -, hah, ha0, -, -⟩ := hes.out
    obtain ⟨Gx, Fx, Gy, Fy, hEx, hEy, hA, hB, hn, hne, ffx, ffy, fsx, fsy⟩ := hT.out
    have hsy : (0 : Int) ≤ (if K = 0 then 0 else (k : Int)) ∧ (if K = 0 then 0 else (k : Int)) ≤ 8 := by split <;> omega
    have hnx : (hdE k K ++ outsT acc) ++ outsT ts' = hdE k (K + 1) ++ outsT (acc ++ ts) := by
      rw [hyo, outsT_app]
      rcases hdE_next k K (outsT acc) (outsT ts) with h | ⟨h1, h2⟩
      · exact h
      · obtain ⟨-, -, -, h3⟩ := hz0.out h2
        rw [h3] at h1
        exact absurd rfl h1
    obtain ⟨sy, hsye⟩ : ∃ sy, (if K = 0 then 0 else (k : Int)) = sy := ⟨_, rfl⟩
    rw [hsye] at hEy hsy hy
    have P1 := Lib.hid (I.eput (2325 + (d : Int)) ts q' a' ah' 0 hEx (I.keep HI.out hb.out) hq1 hah ha0 (by omega) (by decide) (by decide) hx)
    have ha9 : a ≤ 100 := by omega
    have hol2 : (outsT (acc ++ ts)).length ≤ 16 * (K + 1) := by rw [outsT_app, List.length_append]; have := outsT_len ts hsm; omega
    obtain ⟨A9, c9, rfl, -, -⟩ := hA.form
    obtain ⟨A10, c10, rfl, -, -⟩ := hB.form
    obtain ⟨za, hza⟩ : ∃ z, outsT acc = z := ⟨_, rfl⟩
    obtain ⟨zb, hzb⟩ : ∃ z, hdE k K ++ outsT acc = z := ⟨_, rfl⟩
    have hzl : zb.length ≤ 2000 := by rw [← hzb, List.length_append]; have := hdE_len k K; omega
    rw [hzb] at hB hn hne hnx ⊢
    rw [hza] at hA hn hne hol ⊢
    obtain ⟨k9, hk9l⟩ : ∃ k, za.length = k := ⟨_, rfl⟩
    obtain ⟨k10, hk10l⟩ : ∃ k, zb.length = k := ⟨_, rfl⟩
    have HZA := Lib.hid hza
    have HZL := Lib.hid hzl
    have HOL := Lib.hid (show za.length ≤ 2000 by omega)
    rw [hk9l] at hA hn hne ⊢
    rw [hk10l] at hB hn hne ⊢
    have HES2 := Lib.hid hes2
    have HNX := Lib.hid hnx
    have HEY := Lib.hid hEy
    have HA := Lib.hid hA
    have HB := Lib.hid hB
    have HN := Lib.hid hn
    have HNE := Lib.hid hne
    have FFX := Lib.hid ffx
    have FFY := Lib.hid ffy
    have FSX := Lib.hid fsx
    have FSY := Lib.hid fsy
    have HGX := Lib.hid (I.efoot hEx).1
    have HSM := Lib.hid hsm
    have HSM' := Lib.hid hsm'
    have HY := Lib.hid hy
    have HOL2 := Lib.hid hol2
    clear hes hes2 hz0 hT hEx hEy hA hB hn hne ffx ffy fsx fsy hza hzb hzl hk9l hk10l hsm hsm' hsye hol hol2 hKn hnx hx hx' hy hyo hc3 hze hsxK hsxl hb3 hK1 ha1
    go_wp2_with fail
    refine P1.out.mono ?_
    rintro e w8 ⟨v8, G', F', B8, rfl, ho8, hE8, hT8⟩
    have hm8 := hT8.mid
    have hB8 := hT8.base
    have hB8t := hT8.top
    obtain ⟨A8, c8, rfl, -⟩ := ho8.form
    obtain ⟨m8, hm8l⟩ : ∃ m, ts.length = m := ⟨_, rfl⟩
    rw [hm8l] at ho8 hln ⊢
    have hs8 := hm8.size
    have HB8 := Lib.hid (hb.out.trans (hm8.below (fun b hb => by have := FSX.out b (HGX.out b hb); omega) (by omega)))
    have Q1 := Lib.hid (put18_any w8 R A9 k9 c9 za (HA.out.toldN hT8 HGX.out HN.out.1) (by omega) B8 A8 m8 c8 ts ho8 hm8l.symm HSM.out (by omega) (by have := HOL.out; omega) _ rfl (fun b e => by have := (HA.out.lt e).2; omega))
    have HE8 := Lib.hid hE8
    have HTT := Lib.hid hT8
    clear ho8 hE8 hT8 hm8 hm8l P1
    go_wp2_with fail
    refine Q1.out.mono ?_
    rintro e w9 ⟨A11, k11, c11, rfl, hco⟩
    have hT9 := TwoE.stepx (R := R) HGX.out HEY.out HA.out HB.out HN.out HNE.out FFX.out FFY.out FSX.out FSY.out (show S1 ≤ _ by omega) HE8.out HTT.out hco
    have HB9 := Lib.hid (hco.below HB8.out (fun b e => by have := (HA.out.lt e).1; omega) (by omega))
    have hs9 := hco.grown.size
    obtain ⟨Gx, Fx, Gy, Fy, hEx, hEy, hA, hB, hn, hne, ffx, ffy, fsx, fsy⟩ := hT9
    have P2 := Lib.hid (I.eput (2325 + 128 * (k : Int) + (d : Int)) ts' q' a' ah' k hEy (I.keep HI.out HB9.out) hq1 hah ha0 (by omega) hsy.1 hsy.2 HY.out)
    have HEX := Lib.hid hEx
    have HA9 := Lib.hid hA
    have HB9' := Lib.hid hB
    have HN9 := Lib.hid hn
    have HNE9 := Lib.hid hne
    have FFX9 := Lib.hid ffx
    have FFY9 := Lib.hid ffy
    have FSX9 := Lib.hid fsx
    have FSY9 := Lib.hid fsy
    have HGY := Lib.hid (I.efoot hEy).1
    clear hco hEx hEy hA hB hn hne ffx ffy fsx fsy Q1 HE8 HTT HEY HA HB HN HNE FFX FFY FSX FSY HGX HB8
    go_wp2_with fail
    refine P2.out.mono ?_
    rintro e w10 ⟨v10, G', F', B10, rfl, ho8, hE8, hT8⟩
    have hm8 := hT8.mid
    have hB10 := hT8.base
    have hB10t := hT8.top
    obtain ⟨A8', c8', rfl, -⟩ := ho8.form
    obtain ⟨m10, hm10l⟩ : ∃ m, ts'.length = m := ⟨_, rfl⟩
    rw [hm10l] at ho8 hln' ⊢
    have hs10 := hm8.size
    have HB10 := Lib.hid (HB9.out.trans (hm8.below (fun b hb => by have := FSY9.out b (HGY.out b hb); omega) (by omega)))
    have Q2 := Lib.hid (put18_any w10 R A10 k10 c10 zb (HB9'.out.toldN hT8 HGY.out HN9.out.2.2.2) (by omega) B10 A8' m10 c8' ts' ho8 hm10l.symm HSM'.out (by omega) (by have := HZL.out; omega) _ rfl (fun b e => by have := (HB9'.out.lt e).2; omega))
    have HE8 := Lib.hid hE8
    have HTT := Lib.hid hT8
    clear ho8 hE8 hT8 hm8 hm10l P2
    go_wp2_with fail
    refine Q2.out.mono ?_
    rintro e w11 ⟨A12, k12, c12, rfl, hco⟩
    have hT9 := TwoE.stepy (R := R) HGY.out HEX.out HA9.out HB9'.out HN9.out HNE9.out FFX9.out FFY9.out FSX9.out FSY9.out (show S1 ≤ _ by omega) HE8.out HTT.out hco
    have HB11 := Lib.hid (hco.below HB10.out (fun b e => by have := (HB9'.out.lt e).1; omega) (by omega))
    have hs11 := hco.grown.size
    rw [HNX.out, ← HZA.out, ← outsT_app, show (k : Int) = (if K + 1 = 0 then 0 else (k : Int)) by rw [if_neg (by omega)]] at hT9
    have HT11 := Lib.hid hT9
    clear hco hT9 Q2 HE8 HTT HEX HA9 HB9' HN9 HNE9 FFX9 FFY9 FSX9 FSY9 HGY HB10 HB9 HNX HZA
    go_wp2_with fail
    go_roundw
    case rel => exact ⟨K + 1, q', ah', a', acc ++ ts, by omega, by go_num, HES2, Lib.hid (fun h => by omega), HT11, HB11, by omega, HOL2.out⟩
    case measure => simp [intOf]; omega
end Go.Proofs.YtdkcadckbjncjaaDoor
