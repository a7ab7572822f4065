/- Layer 5: first, All. -/
import Derived.Test.YtgjmclbcmfkhdaaDoorTrieK
namespace Go.Proofs.YtgjmclbcmfkhdaaDoor
set_option linter.unusedVariables false
open Go.RowKit
theorem infotok4 : (Tryd.prog.info? 53).map (·.size) = some 4 := by kernel_rfl
/-- a token handed back out of a cell of the frame -/
theorem tok_ret {fn : Func} {p : Tmp} {a : Act} {w : World} {R : Ending → World → Prop} {g : Nat} {cs : Array Value} {t : TypeId} {fr : Nat × Nat} (h : fn.results = #[.cell p 53]) (hp : a.tmps.getD p undef = .pointer (some ⟨g, 0, none⟩)) (hg : w.heap[g]? = some (.cells cs t fr)) (hs : cs.size = 4)
    (hd : a.defers = []) (hR : R (.returned (.agg cs)) w) : bodyPost Tryd.prog fn R .ret a w :=
  bodyPost_ret (results_cell_row h a.tmps w g t cs fr _ hp hg Tryd.underlying53 rfl (by rw [infotok4, hs])) hd hR
set_option maxHeartbeats 1600000 in
theorem first_any (w : World) (B T : Nat) (rs : List Rl) (h : TrieOK w B T rs) (hB : B ≤ w.heap.size) (n : Nat) (A : Option Addr) (c : Nat) (us : List Int) (B' : Nat) (hn : n = us.length) (hr : Rd w B' A (us.map (Value.int .i64))) (hB' : B' ≤ w.heap.size) (hnc : n ≤ c) (hc : c ≤ maxLen) (s e : Int) (o : List Int) (hv : stepT rs us = (s, e, o)) (m : Nat) (hm : o.length = m) :
    Calls Tryd.prog 40 #[.pointer (some ⟨T, 0, none⟩), .slice A n c] w fun en w' => ∃ A' c', en = .returned (.agg #[.int .i64 0, .int .i64 s, .slice A' m c', .int .i64 e]) ∧ Us (fun b => w.heap.size ≤ b) w' (.slice A' m c') o ∧ Below w.heap.size w w' := by
  obtain ⟨k, l, op, hl, _⟩ := h.good.long us
  have hst := h.good.step hl
  have hsn := h.good.stepN hl
  rw [hv] at hst hsn
  have H := Lib.hid h
  have HL := Lib.hid hl
  have HN := Lib.hid hn
  have HR := Lib.hid hr
  have HM := Lib.hid hm
  have hNu : ∀ w' : World, Us (fun b => w.heap.size ≤ b) w' (.slice none 0 0) [] := fun w' => ⟨none, 0, rfl, by simp, by simp [maxLen], .inl rfl⟩
  have HNU := Lib.hid hNu
  have HST := Lib.hid hst
  have HSN := Lib.hid hsn
  have hba : ∀ o, Below w.heap.size w (w.alloc o) := fun o => (Below.refl _ _).alloc (Nat.le_refl _) _
  have HBA := Lib.hid hba
  clear h hl hn hr hm hv hst hsn hNu hba
  go_enter Tryd.func40, Tryd.ntmps40
  go_wp2_with fail
  refine (long_ok _ B T rs (H.out.below ((HBA.out _).mono hB) (Nat.le_refl _)) (by simp; omega) n A c us B' HN.out (HR.out.below ((HBA.out _).mono hB') (Nat.le_refl _)) (by simp; omega) hnc hc k l op HL.out).mono ?_
  rintro en w1 ⟨rfl, hb1⟩
  have hbE := (HBA.out _).trans (hb1.mono (by simp))
  have HBE := Lib.hid hbE
  have hblk : w1.heap[w.heap.size]? = some (.cells #[.int .i64 0, .int .i64 0, .slice none 0 0, .int .i64 0] 53 (0, 0)) := (hb1.block w.heap.size (by simp)).trans (heap_alloc_new w _)
  by_cases hk : k < 0
  · have he := HSN.out hk
    injection he with e1 he
    injection he with e2 e3
    subst e1 e2 e3
    have hm0 : m = 0 := by rw [← HM.out]; rfl
    subst hm0
    have hd : decide (k < 0) = true := by simpa using hk
    clear hk hb1 hbE
    go_wp2_with (refine wpList_store_row rfl _ _ _ rfl w.heap.size #[.int .i64 0, .int .i64 1, .slice none 0 0, .int .i64 3] rfl rfl _ _ hblk infotok4 rfl (by simp [Value.oneCell']) ?_)
    have hq := setRow_heap w1 w.heap.size _ #[.int .i64 0, .int .i64 1, .slice none 0 0, .int .i64 3] _ _ hblk
    go_wp2
    refine tok_ret (g := w.heap.size) rfl rfl hq rfl rfl ⟨none, 0, rfl, HNU.out _, below_row HBE.out (Nat.le_refl _) _⟩
  · rcases HST.out with ⟨h1, _⟩ | ⟨q, h1, h2, h3, h4, K, h5, hK, h6, h7⟩
    · exact absurd h1 hk
    injection h7 with e1 h7
    injection h7 with e2 e3
    subst h5
    have hd : decide ((K : Int) < 0) = false := by simp
    have HK := Lib.hid hK
    have HO := Lib.hid e3
    subst e1 e2
    clear hk h6 e3 h1 h2 h3 h4 hbE hb1
    go_wp2_with fail
    refine (out_ok _ B T rs (H.out.below (HBE.out.mono hB) (Nat.le_refl _)) (by have := HBE.out.size; omega) K HK.out o m HO.out.symm HM.out).mono ?_
    rintro en w2 ⟨A', c', rfl, hu, hb2⟩
    have HU := Lib.hid hu
    have hblk2 : w2.heap[w.heap.size]? = some (.cells #[.int .i64 0, .int .i64 0, .slice none 0 0, .int .i64 0] 53 (0, 0)) := (hb2.block w.heap.size (heap_lt0 hblk)).trans hblk
    have HB2 := Lib.hid (HBE.out.trans (hb2.mono HBE.out.size))
    have hw1 : w.heap.size < w1.heap.size := heap_lt0 hblk
    clear hu hb2 hblk
    go_wp2_with (refine wpList_store_row rfl _ _ _ rfl w.heap.size #[.int .i64 0, .int .i64 s, .slice A' m c', .int .i64 0] rfl rfl _ _ hblk2 infotok4 rfl (by simp [Value.oneCell']) ?_)
    have hq := setRow_heap w2 w.heap.size _ #[.int .i64 0, .int .i64 s, .slice A' m c', .int .i64 0] _ _ hblk2
    go_wp2
    refine tok_ret (g := w.heap.size) rfl rfl hq rfl rfl ⟨A', c', rfl, HU.out.step (by simp) (fun b hb hx => ⟨by have : w1.heap.size ≤ b := hx; omega, setRow_other _ _ _ _ (by have : w1.heap.size ≤ b := hx; omega)⟩), below_row HB2.out (Nat.le_refl _) _⟩

theorem rew_stop {rs : List Rl} {us : List Int} {K : Nat} {acc ts : List Tk} (hf : acc ++ rewA rs K (us.drop K) = ts) (hK : us.length ≤ K) : ts = acc := by
  rw [List.drop_of_length_le hK, rewA_nil] at hf
  simpa using hf.symm
theorem rew_next {rs : List Rl} {us o : List Int} {K m : Nat} {s e : Int} {acc ts : List Tk} (hf : acc ++ rewA rs K (us.drop K) = ts) (hK : K < us.length) (hs : stepT rs (us.drop K) = (s, e, o)) (hp : StepP (us.drop K) s e o) (hm : s = m) : acc ++ [⟨(K : Int), s, o, e⟩] ++ rewA rs ((K + m : Nat) : Int) (us.drop (K + m)) = ts := by
  rw [← hf, rewA_cons (us := us.drop K) (by intro e; rw [List.drop_eq_nil_iff] at e; omega) hs hp.lo, List.drop_drop]
  rw [show ((K + m : Nat) : Int) = (K : Int) + s from by omega, show s.toNat = m from by omega]
  simp

set_option maxHeartbeats 3200000 in
theorem rew_any (w : World) (B T : Nat) (rs : List Rl) (h : TrieOK w B T rs) (hB : B ≤ w.heap.size) (n : Nat) (A : Option Addr) (c : Nat) (us : List Int) (B' : Nat) (hn : n = us.length) (hr : Rd w B' A (us.map (Value.int .i64))) (hB' : B' ≤ w.heap.size) (hnc : n ≤ c) (hc : c ≤ maxLen) (hl : n ≤ 1048576) (ts : List Tk) (hv : rewA rs 0 us = ts) :
    Calls Tryd.prog 24 #[.pointer (some ⟨T, 0, none⟩), .slice A n c] w fun en w' => ∃ v, en = .returned v ∧ OwnTk w.heap.size w' v ts ∧ Below w.heap.size w w' := by
  obtain ⟨i0, hi, hz0, HZ1, hz2⟩ := info_parts infotok
  have H := Lib.hid h
  have HG := Lib.hid h.good
  have HN := Lib.hid hn
  have HR := Lib.hid hr
  have HV := Lib.hid hv
  unfold maxLen at hc
  clear h hn hr hv
  go_enter Tryd.func24, Tryd.ntmps24
  go_wp2
  go_loopw [5, 6] (fun v i wr => ∃ (K : Nat) (acc : List Tk), K ≤ n ∧ i = .int .i64 K ∧ Hid (OwnTk w.heap.size wr v acc) ∧ acc.length ≤ K ∧ Hid (acc ++ rewA rs K (us.drop K) = ts) ∧ Below w.heap.size w wr) (fun _ i _ => n - (intOf i).toNat)
  case atStart => exact ⟨0, [], by omega, rfl, OwnTk.nil _ _, by simp, HV.out, Below.refl _ _⟩
  case round =>
    obtain ⟨K, acc, hK, rfl, ho, hacc, hf, hb⟩ := hrel
    have hs := hb.size
    by_cases hKn : K = n
    · have hK' : ¬ K < n := by omega
      have HE := Lib.hid (rew_stop hf.out (by rw [← HN.out, hKn]; omega))
      clear hKn
      go_wp2
      go_ret
      exact ⟨_, rfl, by rw [HE.out]; exact ho.out, hb⟩
    have hK' : K < n := by omega
    have hK1 : K < us.length := by rw [← HN.out]; exact hK'
    obtain ⟨s, e, o, hst, hp⟩ := HG.out.stepP (us := us.drop K) (by intro e; rw [List.drop_eq_nil_iff] at e; omega)
    obtain ⟨q, hq⟩ : ∃ q : Nat, s = q := ⟨s.toNat, by have := hp.lo; omega⟩
    have hp2 := hp.hi
    have hp1 := hp.lo
    rw [List.length_drop, ← HN.out] at hp2
    have HE := Lib.hid (rew_next hf.out hK1 hst hp hq)
    subst hq
    obtain ⟨m, hm⟩ : ∃ m, o.length = m := ⟨_, rfl⟩
    have HM := Lib.hid hm
    have HST := Lib.hid hst
    obtain ⟨A3, c3, rfl, hat⟩ := ho.out.form
    have hat2 := hat.fits
    have hat3 := hat.small
    unfold maxLen at hat3
    have k3 : (0 : Int) ≤ K := by omega
    have k4 : (K : Int) ≤ n := by omega
    have hrd := Rd.drop (k := K) (cap := c) (HR.out.below (hb.mono hB') (Nat.le_refl _)) (n := n) (by simp; exact HN.out) (by omega) hnc
    rw [← List.map_drop] at hrd
    have hcapK : ¬ c = K := by omega
    rw [if_neg hcapK] at hrd
    have HRD := Lib.hid hrd
    clear hKn hm hst hp hat hrd
    go_wp2_with fail
    refine (first_any wr B T rs (H.out.below (hb.mono hB) (Nat.le_refl _)) (by omega) (n - K) _ (c - K) (us.drop K) B' (by rw [List.length_drop, HN.out]) HRD.out (by omega) (by omega) (by unfold maxLen; omega) q e o HST.out m HM.out).mono ?_
    rintro en w1 ⟨A', c', rfl, hu, hb1⟩
    have hs1 := hb1.size
    have hbl := hb.trans (hb1.mono hs)
    obtain ⟨xs, hown, hx⟩ := ho.out.below hb1 (Nat.le_refl _)
    have hlow : ∀ x, (Value.slice A3 acc.length c3).ownBlock = some x → w.heap.size ≤ x ∧ x < wr.heap.size := fun x hx => ⟨(hown.lt x hx).1, own_lt (ho.out.choose_spec.1) hx⟩
    have HLOW := Lib.hid hlow
    have HX := Lib.hid hx
    have HU := Lib.hid hu
    clear hx hu hlow
    go_wp2_with (at_builtin; refine wpList_appB _ rfl _ _ 56 rfl w.heap.size 53 i0 _ 4 48 Tryd.underlying56 hi hz0 HZ1 hz2 rfl (by decide) _ _ _ rfl ((hown.alloc _).alloc _) (w1.heap.size + 1 + 1) _ 1 1 [.int .i64 K, .int .i64 q, .slice A' m c', .int .i64 e] rfl rfl ?c1 ?c2 ?c3 ?c4 ?c5 ?_)
    case c1 => exact Rd_newR _ _ _ _ (by simp)
    case c2 => intro u hu; simp at hu; rcases hu with rfl | rfl | rfl | rfl <;> rfl
    case c3 => simp only [maxLen]; omega
    case c4 => omega
    case c5 => simp; omega
    intro v' w4 hown4 hg4 hv4
    have hbA : ∀ o1 o2, Below w1.heap.size w1 ((w1.alloc o1).alloc o2) := fun o1 o2 => ((Below.refl _ _).alloc (Nat.le_refl _) _).alloc (by simp) _
    have hpush : OwnTk w.heap.size w4 v' (acc ++ [⟨K, q, o, e⟩]) := by
      refine tok_push (v := .slice A3 acc.length c3) (xs := xs) (by simpa using hown4) (HX.out.step (hbA _ _).size fun b hb hx => ⟨hx, (hbA _ _).block b hb⟩) ?_ hg4 (by simpa using hv4)
      exact HU.out.step (hbA _ _).size fun b hb hx => ⟨fun e => by have := HLOW.out _ e; have : wr.heap.size ≤ b := hx; omega, (hbA _ _).block b hb⟩
    have hbE : Below w.heap.size w w4 := below_own (hbl.trans ((hbA _ _).mono (by omega))) hg4 ((hown.alloc _).alloc _) (Nat.le_refl _) (by simp; omega)
    have HP := Lib.hid hpush
    clear hown4 hpush hg4 hv4 hbA
    go_wp2
    go_roundw
    case rel => exact ⟨K + q, _, by omega, by go_num, HP, by simp; omega, HE, hbE⟩
    case measure => simp [intOf]; omega
end Go.Proofs.YtgjmclbcmfkhdaaDoor
