/- Texts of this seat, one behind the other: IscD. -/
import Derived.Test.YtdkcadckbjncjaaDoorZ16
import Derived.Test.YtdkcadckbjncjaaDoorZ22
import Derived.Test.YtdkcadckbjncjaaDoorZ15
import Derived.Test.YtdkcadckbjncjaaDoorZ13
namespace Go.Proofs.YtdkcadckbjncjaaDoor
set_option linter.unusedVariables false
set_option linter.unusedSimpArgs false
set_option linter.unnecessarySimpa false
open Go.RowKit
theorem Tks.setOut {X : Nat → Prop} {w : World} {o : Value} {u : List Int} (hu : Us X w o u) : ∀ {xs : List Value} {ts : List Tk} (k : Nat) (t : Tk), ts[k]? = some t → Tks X w xs ts → Tks X w (xs.set (k * 4 + 2) o) (ts.set k ⟨t.pos, t.size, u, t.err⟩)
  | [], [], k, t, h, _ => by simp at h
  | a :: b :: s :: e :: xs, t' :: ts, 0, t, h, ⟨g1, g2, g3, g4, g5⟩ => by
    obtain rfl : t' = t := by simpa using h
    exact ⟨g1, g2, hu, g4, g5⟩
  | a :: b :: s :: e :: xs, t' :: ts, k + 1, t, h, ⟨g1, g2, g3, g4, g5⟩ => by
    have := Tks.setOut hu k t (by simpa using h) g5
    have e0 : (k + 1) * 4 + 2 = k * 4 + 2 + 1 + 1 + 1 + 1 := by omega
    rw [e0]
    exact ⟨g1, g2, g3, g4, this⟩
theorem ownTk_setOut {base g n c : Nat} {w : World} {ts : List Tk} (h : OwnTk base w (.slice (some ⟨g, 0, none⟩) n c) ts) {k : Nat} {t : Tk} (hk : ts[k]? = some t) {o : Value} {u : List Int} (hu : Us (fun b => (Value.slice (some ⟨g, 0, none⟩) n c).ownBlock ≠ some b) w o u) :
    OwnTk base (w.setCell ⟨g, k * 4 + 2, none⟩ o) (.slice (some ⟨g, 0, none⟩) n c) (ts.set k ⟨t.pos, t.size, u, t.err⟩) ∧ base ≤ g := by
  obtain ⟨xs, ho, hx⟩ := h
  obtain ⟨A', c', e, h1, h2⟩ := own_form ho
  injection e with e1 e2 e3
  subst e2
  have hs := ho.stored (k * 4 + 2) o
  have hst : ∀ b, b < w.heap.size → (Value.slice (some ⟨g, 0, none⟩) ts.length c).ownBlock ≠ some b → (Value.slice (some ⟨g, 0, none⟩) ts.length c).ownBlock ≠ some b ∧ (w.setCell ⟨g, k * 4 + 2, none⟩ o).heap[b]? = w.heap[b]? := fun b hb hx => ⟨hx, Below.heap_setCell _ _ _ _ (fun e => hx (by show some g = some b; rw [e]))⟩
  have hz : w.heap.size ≤ (w.setCell ⟨g, k * 4 + 2, none⟩ o).heap.size := by rw [World.size_setCell]; exact Nat.le_refl _
  exact ⟨⟨_, by rw [List.length_set]; exact hs.1, Tks.setOut (hu.step hz hst) k t hk (hx.step hz hst)⟩, (ho.lt g rfl).1⟩
/-- the tokens, the first K of them with what they mean -/
def mixI (ts : List Tk) (K : Nat) : List Tk := (meanT 0 (ts.take K)).1 ++ ts.drop K
theorem mixI_zero (ts : List Tk) : mixI ts 0 = ts := by simp [mixI, meanT]
theorem mixI_len (ts : List Tk) (K : Nat) : (mixI ts K).length = ts.length := by
  unfold mixI; rw [List.length_append, meanT_len, List.length_take, List.length_drop]; omega
theorem mixI_all {ts : List Tk} {K : Nat} (h : ts.length ≤ K) : mixI ts K = (meanT 0 ts).1 := by
  unfold mixI; rw [List.take_of_length_le h, List.drop_of_length_le h, List.append_nil]
theorem mixI_at {ts : List Tk} {K : Nat} (h : K < ts.length) : (mixI ts K)[K]? = some ts[K] := by
  have hl : (meanT 0 (ts.take K)).1.length = K := by rw [meanT_len, List.length_take]; omega
  unfold mixI
  rw [List.getElem?_append_right (by omega), hl, Nat.sub_self, List.getElem?_drop, Nat.add_zero, List.getElem?_eq_getElem h]
theorem mixI_next {ts : List Tk} {K : Nat} (h : K < ts.length) : mixI ts (K + 1) = (mixI ts K).set K ⟨ts[K].pos, ts[K].size, (meanU (meanT 0 (ts.take K)).2 ts[K].out).1, ts[K].err⟩ := by
  have hl : (meanT 0 (ts.take K)).1.length = K := by rw [meanT_len, List.length_take]; omega
  unfold mixI
  rw [meanT_take h, List.drop_eq_getElem_cons h, List.set_append_right (i := K) (h := by omega), hl, Nat.sub_self, List.set_cons_zero]
  simp
theorem below_allocI (w : World) (o : Obj) : Below w.heap.size w (w.alloc o) := (Below.refl _ w).alloc (Nat.le_refl _) o
set_option maxRecDepth 100000 in
set_option maxHeartbeats 6400000 in
theorem ldec18_any (n : Nat) (A : Option Addr) (c : Nat) (us : List Int) (B : Nat) (w : World) (hn : n = us.length) (hr : Rd w B A (us.map (Value.int .i64))) (hB : B ≤ w.heap.size) (hnc : n ≤ c) (hc : c ≤ maxLen) (hl : n ≤ 1000) (ms : List Tk) (fs : Int) (hv : meanT 0 (rewA inR 0 us) = (ms, fs)) :
    Calls Tryd.prog 14 #[.slice A n c] w fun e w' => ∃ v, e = .returned (.tuple #[v, .int .i64 fs]) ∧ OwnTk w.heap.size w' v ms ∧ Below w.heap.size w w' := by
  obtain ⟨tk, htk⟩ : ∃ tk, rewA inR 0 us = tk := ⟨_, rfl⟩
  have htl : tk.length ≤ n := by rw [← htk, hn]; exact inR_good.rew_len us 0
  have hts : ∀ t ∈ tk, t.out.length ≤ 8 := fun t h => by rw [← htk] at h; exact (inR_good.rew_tk us 0 t h).len
  have hok : ∀ t ∈ tk, ∀ u ∈ t.out, unitOk u = true := fun t h => by rw [← htk] at h; exact rew_ok us 0 t h
  rw [htk] at hv
  have HV := Lib.hid hv
  have HTK := Lib.hid htk
  have HTS := Lib.hid hts
  have HOK := Lib.hid hok
  have HN := Lib.hid hn
  have HR := Lib.hid hr
  have HC := Lib.hid hc
  clear hn hr hv htk hts hok hc
  go_enter Tryd.func14, Tryd.ntmps14
  go_wp2_with fail
  refine (lrules_any w).mono ?_
  rintro e w1 ⟨v1, rfl, ho1, hb1⟩
  obtain ⟨A1, c1, rfl, hat1⟩ := ho1.form
  rw [inR_len] at hat1 ⊢
  have hs1 := hb1.size
  have L1 := Lib.hid (lall_any 240 A1 c1 inR w1.heap.size w1 hat1 inR_good (Nat.le_refl _) n A c us B HN.out (HR.out.below (hb1.mono hB) (Nat.le_refl _)) (by omega) hnc HC.out (by omega) tk HTK.out)
  have HB1 := Lib.hid hb1
  clear ho1 hat1 hb1
  go_wp2_with fail
  refine L1.out.mono ?_
  rintro e w2 ⟨v2, rfl, ho2, hb2⟩
  obtain ⟨A2, c2, rfl, -⟩ := ho2.form
  obtain ⟨N, hN⟩ : ∃ N, tk.length = N := ⟨_, rfl⟩
  rw [hN] at ho2 htl ⊢
  have HNN := Lib.hid hN
  have HB2 := Lib.hid (HB1.out.trans (hb2.mono hs1))
  have HO2 := Lib.hid (show OwnTk w.heap.size w2 (.slice A2 N c2) (mixI tk 0) by rw [mixI_zero]; exact ho2.low hs1)
  clear ho2 hb2 hN L1 HB1 hs1
  go_wp2_with fail
  go_loopw [5, 16] (fun s i wr => ∃ (K : Nat) (sc : Int), K ≤ N ∧ i = .int .i64 K ∧ s = .int .i64 sc ∧ 0 ≤ sc ∧ sc ≤ 8 ∧ Hid (OwnTk w.heap.size wr (.slice A2 N c2) (mixI tk K)) ∧ Hid ((meanT 0 (tk.take K)).2 = sc) ∧ Hid (Below w.heap.size w wr)) (fun _ i _ => N - (intOf i).toNat)
  case atStart => exact ⟨0, 0, by omega, rfl, rfl, by decide, by decide, HO2, Lib.hid rfl, HB2⟩
  case round =>
    obtain ⟨K, sc, hK, rfl, rfl, sc0, sc1, ho, hsc, hb⟩ := hrel
    clear HO2 HB2
    by_cases hKn : K = N
    · have hK' : ¬ K < N := by omega
      have HE : Hid (mixI tk K = ms ∧ sc = fs) := by
        show _ ∧ _
        have h1 := hsc.out
        rw [mixI_all (by rw [HNN.out]; omega), HV.out]
        rw [List.take_of_length_le (by rw [HNN.out]; omega), HV.out] at h1
        exact ⟨rfl, h1.symm⟩
      obtain ⟨hE1, rfl⟩ := HE.out
      have HE1 := Lib.hid hE1
      clear hKn HE hE1
      go_wp2
      go_ret2
      exact ⟨_, rfl, by rw [← HE1.out]; exact ho.out, hb.out⟩
    have hK' : K < N := by omega
    have hK1 : K < tk.length := by rw [HNN.out]; exact hK'
    have k3 : (0 : Int) ≤ K := by omega
    have k4 : (K : Int) < N := by omega
    obtain ⟨g, cg, hgv⟩ : ∃ g c', Value.slice A2 N c2 = .slice (some ⟨g, 0, none⟩) N c' := by
      obtain ⟨xs, hown, _⟩ := ho.out
      rcases hown.2 with ⟨_, h2⟩ | ⟨g, cap, cur, h1, _⟩
      · rw [mixI_len, HNN.out] at h2; omega
      · rw [mixI_len, HNN.out] at h1
        exact ⟨g, cap, h1⟩
    obtain ⟨rfl, rfl⟩ : A2 = some ⟨g, 0, none⟩ ∧ c2 = cg := by injection hgv with a b c; exact ⟨a, c⟩
    clear hgv
    have hgl : g < wr.heap.size := by
      obtain ⟨xs, hown, _⟩ := ho.out
      exact (hown.lt g rfl).2
    have hat := mixI_at hK1
    obtain ⟨A3, n3, c3, q0, q1, q2, q3, hn3, hu3, hfr⟩ := ho.out.cellsAt (k := K) (by rw [mixI_len]; exact hK1)
    have hnx := mixI_next hK1
    have htn := meanT_take (sc := 0) hK1
    rw [List.getElem?_eq_getElem (by rw [mixI_len]; exact hK1)] at hat
    injection hat with hat
    rw [hat] at q0 q1 q3 hn3 hu3
    have hs3 := HTS.out _ (List.getElem_mem hK1)
    have hok3 := HOK.out _ (List.getElem_mem hK1)
    have hat2 : (mixI tk K)[K]? = some tk[K] := mixI_at hK1
    rw [hsc.out] at hnx htn
    obtain ⟨t, ht⟩ : ∃ t, tk[K] = t := ⟨_, rfl⟩
    rw [ht] at q0 q1 q3 hn3 hu3 hs3 hok3 hnx htn hat2
    obtain ⟨p, z, u, e⟩ := t
    simp only at q0 q1 q3 hn3 hu3 hs3 hok3 hnx htn
    have HNX := Lib.hid hnx
    have HTN := Lib.hid (congrArg Prod.snd htn)
    have HAT := Lib.hid hat2
    obtain ⟨mx, hmx⟩ : ∃ mx, mixI tk K = mx := ⟨_, rfl⟩
    rw [hmx] at ho HNX HAT
    have hba := below_allocI wr (.cells #[.int .i64 p, .int .i64 z, .slice A3 n3 c3, .int .i64 e] 44)
    have HO8 := Lib.hid (ho.out.below hba (Nat.le_refl _))
    have HB8 := Lib.hid (hb.out.trans (hba.mono hb.out.size))
    have HU8 := Lib.hid (hu3.step hba.size (Y := fun b => b < wr.heap.size) fun b hb hx => ⟨hb, hba.block b hb⟩)
    have HQ := Lib.hid (Held.new wr #[.int .i64 p, .int .i64 z, .slice A3 n3 c3, .int .i64 e] 44)
    have HN3 := Lib.hid hn3
    have n38 : n3 ≤ 8 := by omega
    have HOK3 := Lib.hid hok3
    have cc2 := HQ.out.cell 2
    have hwl := hb.out.size
    clear hsc ho hb hba hu3 hn3 hs3 hok3 hnx htn hat hat2 hmx ht hfr hKn hK1
    go_wp2_with fail
    obtain ⟨W, hW⟩ : ∃ W, wr.alloc (.cells #[.int .i64 p, .int .i64 z, .slice A3 n3 c3, .int .i64 e] 44) = W := ⟨_, rfl⟩
    obtain ⟨p8, hp8⟩ : ∃ p8, wr.heap.size = p8 := ⟨_, rfl⟩
    have hpW : p8 < W.heap.size := by rw [← hW, ← hp8]; simp
    rw [hW] at HO8 HB8 HU8 HQ cc2 ⊢
    rw [hp8] at HU8 HQ cc2 hwl hgl ⊢
    clear hW hp8 q0 q1 q2 q3 wr
    obtain ⟨S8, hS8⟩ : ∃ S8, W.heap.size = S8 := ⟨_, rfl⟩
    rw [hS8] at hpW
    have HS8 := Lib.hid hS8
    have HBW := Lib.hid (show Below S8 W W from Below.refl _ _)
    clear hS8
    go_wp2_with fail
    go_loopw [8, 5, 24] (fun v s i wi => ∃ (J : Nat) (s1 : Int), J ≤ n3 ∧ i = .int .i64 J ∧ s = .int .i64 s1 ∧ 0 ≤ s1 ∧ s1 ≤ 8 ∧ Hid (IR wi S8 v (meanU sc (u.take J)).1) ∧ Hid ((meanU sc (u.take J)).2 = s1) ∧ Hid (Below S8 W wi)) (fun _ _ i _ => n3 - (intOf i).toNat)
    case atStart => exact ⟨0, sc, by omega, rfl, rfl, sc0, sc1, Lib.hid (IR.nil _ _), Lib.hid rfl, HBW⟩
    case round =>
      obtain ⟨J, s1, hJ, rfl, rfl, s10, s11, hi, hs, hb⟩ := hrel
      clear HBW
      obtain ⟨wi, hwi⟩ : ∃ wi, wi = wr := ⟨_, rfl⟩
      rw [← hwi] at hi hb ⊢
      clear hwi wr
      by_cases hJn : J = n3
      · subst hJn
        have hsz := hb.out.size
        rw [HS8.out] at hsz
        have hfin := hi.out
        have hs' := hs.out
        rw [List.take_of_length_le (by rw [HN3.out]; exact Nat.le_refl _)] at hfin hs'
        obtain ⟨A9, c9, rfl, -, -⟩ := hfin.form
        have HO9 := HO8.out.below hb.out (by rw [HS8.out]; exact Nat.le_refl _)
        obtain ⟨m9, hm9⟩ : ∃ m, (meanU sc u).1 = m := ⟨_, rfl⟩
        rw [hm9] at hfin HNX ⊢
        obtain ⟨l9, hl9⟩ : ∃ l, m9.length = l := ⟨_, rfl⟩
        have HU9 := hfin.us.step (Y := fun b => (Value.slice (some ⟨g, 0, none⟩) N c2).ownBlock ≠ some b) (Nat.le_refl _) fun b _ hx => ⟨fun e => by injection e with e; have e' : g = b := e; have : S8 ≤ b := hx; omega, rfl⟩
        obtain ⟨A5, n5, c5, y0, y1, y2, y3, -, -, hfr⟩ := HO9.cellsAt (k := K) (by have := (List.getElem?_eq_some_iff.1 HAT.out).1; exact this)
        have hf2 := hfr (K * 4 + 2)
        obtain ⟨hSO, hge⟩ := ownTk_setOut HO9 HAT.out HU9
        have HSO := Lib.hid hSO
        have HB9 := Lib.hid ((HB8.out.trans (hb.out.mono (by omega))).setCell (p := ⟨g, K * 4 + 2, none⟩) hge (.slice A9 m9.length c9))
        rw [hl9] at HSO HB9 ⊢
        rw [hs'] at HTN
        have HTN' : Hid ((meanT 0 (tk.take (K + 1))).2 = s1) := HTN
        have HNX' := HNX
        clear hs hs' hfin hi hb HO9 HU9 hfr hSO hm9 y0 y1 y3 HTN HNX hl9
        go_wp2_with fail
        go_roundw
        case rel => exact ⟨K + 1, s1, by omega, by go_num, rfl, s10, s11, by rw [HNX'.out]; exact HSO, HTN', HB9⟩
        case measure => simp [intOf]; omega
      have hJ' : J < n3 := by omega
      have hJ1 : J < u.length := by rw [← HN3.out]; exact hJ'
      have j3 : (0 : Int) ≤ J := by omega
      have j4 : (J : Int) < n3 := by omega
      obtain ⟨Uu, cu', eu, gu1, gu2, gu3⟩ := HU8.out
      obtain ⟨rfl, rfl⟩ : A3 = Uu ∧ c3 = cu' := by injection eu with a b c; exact ⟨a, c⟩
      obtain ⟨b3, o3, rfl, hb3, hc3⟩ := rd_ints gu3.rdB (by omega)
      have r3 := (hb.out.cell (p := ⟨b3, o3 + J, none⟩) (by show b3 < S8; omega)).trans (hc3 J hJ1)
      have hx := HOK3.out (u.getD J 0) (by rw [List.getD_eq_getElem?_getD, List.getElem?_eq_getElem hJ1]; exact List.getElem_mem hJ1)
      have hsn := meanU_snoc (u.take J) (u.getD J 0) sc
      rw [show u.take J ++ [u.getD J 0] = u.take (J + 1) by rw [List.take_succ_eq_append_getElem hJ1, List.getD_eq_getElem?_getD, List.getElem?_eq_getElem hJ1]; rfl, hs.out] at hsn
      obtain ⟨x, hxe⟩ : ∃ x, u.getD J 0 = x := ⟨_, rfl⟩
      rw [hxe] at r3 hx hsn
      have hx0 : 0 ≤ x := by simp [unitOk] at hx; omega
      have hx1 : x ≤ 20000 := by simp [unitOk] at hx; omega
      have hx2 : x < 8192 → 4096 ≤ x → x ≤ 4104 := by simp [unitOk] at hx; omega
      obtain ⟨acc, hacc⟩ : ∃ acc, (meanU sc (u.take J)).1 = acc := ⟨_, rfl⟩
      have hal : acc.length ≤ 8 := by
        have h1 : ∀ (l : List Int) (s : Int), (meanU s l).1.length ≤ l.length := by
          intro l
          induction l with
          | nil => intro s; simp [meanU]
          | cons y l ih =>
            intro s
            simp only [meanU]
            split
            · have := ih s; simp; omega
            · split
              · have := ih (y - 4096); simp; omega
              · have := ih s; simp; omega
        have := h1 (u.take J) sc
        rw [hacc, List.length_take] at this
        omega
      rw [hacc] at hi hsn
      obtain ⟨A9, c9, rfl, -, -⟩ := hi.out.form
      obtain ⟨k9, hk9⟩ : ∃ k, acc.length = k := ⟨_, rfl⟩
      have HK9 := Lib.hid hal
      rw [hk9] at hi ⊢
      have hsz := hb.out.size
      rw [HS8.out] at hsz
      clear gu3 eu hc3 hx hxe hacc hal hk9 hs hJn hJ1 hb3
      by_cases h8 : 8192 ≤ x
      · rw [if_pos h8] at hsn
        have d0 : decide (x ≥ 8192) = true := by simpa using h8
        have HS1 := Lib.hid (congrArg Prod.fst hsn)
        have HS2 : Hid ((meanU sc (u.take (J + 1))).2 = s1) := Lib.hid (congrArg Prod.snd hsn)
        clear hsn hx2
        go_wp2_with (at_builtin; refine wpList_appI1 rfl _ _ rfl S8 (.slice A9 k9 c9) acc (x - 8192) rfl hi.out _ rfl rfl (by have := HK9.out; omega) hsz ?_)
        intro v9 w9 HI9 HG9
        have HB9 := Lib.hid (IR.keepsB hb.out HG9.out hi.out (Nat.le_refl _) hsz)
        have HI9' : Hid (IR w9 S8 v9 (meanU sc (u.take (J + 1))).1) := by rw [HS1.out]; exact HI9
        clear HI9 HG9 hi hb
        go_wp2_with fail
        go_roundw
        case rel => exact ⟨J + 1, s1, by omega, by go_num, rfl, s10, s11, HI9', HS2, HB9⟩
        case measure => simp [intOf]; omega
      · rw [if_neg h8] at hsn
        have d0 : decide (x ≥ 8192) = false := by simp; omega
        by_cases h4 : 4096 ≤ x
        · rw [if_pos h4] at hsn
          have d1 : decide (x ≥ 4096) = true := by simpa using h4
          have hx3 := hx2 (by omega) h4
          have HS1 := Lib.hid (congrArg Prod.fst hsn)
          have HS2 : Hid ((meanU sc (u.take (J + 1))).2 = x - 4096) := Lib.hid (congrArg Prod.snd hsn)
          have HI9 : Hid (IR wi S8 (.slice A9 k9 c9) (meanU sc (u.take (J + 1))).1) := by rw [HS1.out]; exact hi
          clear hsn hx2 hi HS1
          go_wp2_with fail
          go_roundw
          case rel => exact ⟨J + 1, x - 4096, by omega, by go_num, rfl, by omega, by omega, HI9, HS2, hb⟩
          case measure => simp [intOf]; omega
        · rw [if_neg h4] at hsn
          have d1 : decide (x ≥ 4096) = false := by simp; omega
          have HS1 := Lib.hid (congrArg Prod.fst hsn)
          have HS2 : Hid ((meanU sc (u.take (J + 1))).2 = s1) := Lib.hid (congrArg Prod.snd hsn)
          clear hsn hx2
          go_wp2_with (at_builtin; refine wpList_appI1 rfl _ _ rfl S8 (.slice A9 k9 c9) acc (2304 + 128 * s1 + x) rfl hi.out _ rfl rfl (by have := HK9.out; omega) hsz ?_)
          intro v9 w9 HI9 HG9
          have HB9 := Lib.hid (IR.keepsB hb.out HG9.out hi.out (Nat.le_refl _) hsz)
          have HI9' : Hid (IR w9 S8 v9 (meanU sc (u.take (J + 1))).1) := by rw [HS1.out]; exact HI9
          clear HI9 HG9 hi hb
          go_wp2_with fail
          go_roundw
          case rel => exact ⟨J + 1, s1, by omega, by go_num, rfl, s10, s11, HI9', HS2, HB9⟩
          case measure => simp [intOf]; omega
end Go.Proofs.YtdkcadckbjncjaaDoor
