/- Texts of this seat, one behind the other: TokSet, MacQ, IscM, IscN. -/
import Derived.Test.YtmenjcdmdmngcaaGreatDoorZ8
import Derived.Laws.OwnMore
import Derived.Test.YtmenjcdmdmngcaaGreatDoorZ3
import Derived.Test.YtmenjcdmdmngcaaGreatDoorZ2
namespace Go.Proofs.YtmenjcdmdmngcaaGreatDoor
set_option linter.unusedVariables false
open Go.RowKit
def shK (d : Int) (t : Tk) : Tk := ⟨t.pos + d, t.size, t.out, t.err⟩
def mixK (d : Int) (k : Nat) (ts : List Tk) : List Tk := (ts.take k).map (shK d) ++ ts.drop k
theorem mixK_len (d : Int) (k : Nat) (ts : List Tk) : (mixK d k ts).length = ts.length := by simp [mixK]; omega
theorem mixK_zero (d : Int) (ts : List Tk) : mixK d 0 ts = ts := by simp [mixK]
theorem mixK_all {d : Int} {k : Nat} {ts : List Tk} (h : ts.length ≤ k) : mixK d k ts = ts.map (shK d) := by
  unfold mixK; rw [List.take_of_length_le h, List.drop_of_length_le h]; simp
theorem mixK_at {d : Int} {k : Nat} {ts : List Tk} (h : k < ts.length) : (mixK d k ts)[k]? = some ts[k] := by
  unfold mixK
  rw [List.getElem?_append_right (by simp; omega)]
  simp [Nat.min_eq_left (Nat.le_of_lt h)]
theorem mixK_step {d : Int} {k : Nat} {ts : List Tk} (h : k < ts.length) : (mixK d k ts).set k (shK d ts[k]) = mixK d (k + 1) ts := by
  unfold mixK
  have hlen : ((ts.take k).map (shK d)).length = k := by simp; omega
  rw [List.take_succ_eq_append_getElem h, List.map_append, List.set_append, if_neg (by omega), hlen, Nat.sub_self, List.drop_eq_getElem_cons h, List.append_assoc]
  rfl
theorem Rd.dropS {w : World} {B : Nat} {A : Option Addr} {xs : List Value} {k m n cap : Nat} (h : Rd w B A xs) (hn : n * m = xs.length) (hk : k ≤ n) (hm : 0 < m) (hc : n ≤ cap) :
    Rd w B (if cap = k then A else A.map (·.add (k * m))) (xs.drop (k * m)) := by
  rcases h with h | ⟨b, off, h1, h2, h3⟩
  · subst h; exact .inl (by simp)
  · by_cases hkk : k = n
    · exact .inl (List.drop_of_length_le (by rw [← hn, hkk]; exact Nat.le_refl _))
    · right
      rw [if_neg (by omega), h1]
      refine ⟨b, off + k * m, ?_, h2, fun j hj => ?_⟩
      · simp only [Option.map_some, Addr.add]
        split
        · rename_i e; rw [e]; rfl
        · rfl
      · rw [Nat.add_assoc, h3 (k * m + j) (by simp at hj; omega), List.getElem?_drop]
theorem TkAt.drop {w : World} {B : Nat} {A : Option Addr} {n c : Nat} {ts : List Tk} (h : TkAt w B A n c ts) (k : Nat) (hk : k ≤ n) : TkAt w B (if c = k then A else A.map (·.add (k * 4))) (n - k) (c - k) (ts.drop k) := by
  obtain ⟨h1, h2, h3, xs, h4, h5⟩ := h
  have hlen := Tks.length h5
  rw [← List.take_append_drop k ts] at h5
  have h6 := h5.split.2
  rw [List.length_take, Nat.min_eq_left (by omega)] at h6
  exact ⟨by simp; omega, by omega, by omega, xs.drop (k * 4), h4.dropS (by omega) hk (by omega) h2, h6⟩
/-- the place of token k, moved -/
theorem OwnTk.setPos {base g n c : Nat} {w : World} {ts : List Tk} (h : OwnTk base w (.slice (some ⟨g, 0, none⟩) n c) ts) {k : Nat} {t : Tk} (hk : ts[k]? = some t) (q : Int) :
    OwnTk base (w.setCell ⟨g, k * 4, none⟩ (.int .i64 q)) (.slice (some ⟨g, 0, none⟩) n c) (ts.set k ⟨q, t.size, t.out, t.err⟩) ∧ base ≤ g := by
  obtain ⟨xs, ho, hx⟩ := h
  obtain ⟨A', c', e, h1, h2⟩ := own_form ho
  injection e with e1 e2 e3
  subst e2
  have hs := ho.stored (k * 4) (.int .i64 q)
  refine ⟨⟨_, by rw [List.length_set]; exact hs.1, (hx.step (by rw [World.size_setCell]; exact Nat.le_refl _) fun b hb hx => ⟨hx, Below.heap_setCell _ _ _ _ (fun e => hx (by show some g = some b; rw [e]))⟩).setPos k t hk⟩, (ho.lt g rfl).1⟩
theorem OwnTk.posAt {base g n c : Nat} {w : World} {ts : List Tk} (h : OwnTk base w (.slice (some ⟨g, 0, none⟩) n c) ts) {k : Nat} {t : Tk} (hk : ts[k]? = some t) :
    w.cell? ⟨g, k * 4, none⟩ = some (.int .i64 t.pos) ∧ w.frozen? ⟨g, k * 4, none⟩ = false := by
  obtain ⟨xs, ho, hx⟩ := h
  obtain ⟨A', c', e, h1, h2⟩ := own_form ho
  injection e with e1 e2 e3
  subst e2
  have hkl := (List.getElem?_eq_some_iff.1 hk).1
  obtain ⟨s, g1, _⟩ := hx.at k hkl
  rw [List.getElem?_eq_getElem hkl] at hk
  injection hk with hk
  rw [hk] at g1
  exact ⟨(ho.cellAt (k * 4) (by omega)).trans g1, ho.frozenAt _⟩
theorem OwnTk.some {base : Nat} {w : World} {v : Value} {ts : List Tk} (h : OwnTk base w v ts) (hn : 0 < ts.length) : ∃ g c, v = .slice (some ⟨g, 0, none⟩) ts.length c := by
  obtain ⟨xs, ho, hx⟩ := h
  rcases ho.2 with ⟨_, h2⟩ | ⟨g, cap, cur, h1, _⟩
  · omega
  · exact ⟨g, cap, h1⟩
/-- tokens moved, plainly -/
theorem Good.rew_shift {rs : List (List Int × List Int)} (h : Good rs) (d : Int) (us : List Int) : ∀ at_ : Int, (rewA rs at_ us).map (shK d) = rewA rs (at_ + d) us := by
  refine h.along (fun us => ∀ at_ : Int, (rewA rs at_ us).map (shK d) = rewA rs (at_ + d) us) (fun _ => by simp [rewA_nil]) ?_ us.length us (Nat.le_refl _)
  intro us s e o hu hs hp ih at_
  rw [rewA_cons hu hs hp.lo, rewA_cons hu hs hp.lo, List.map_cons, ih]
  rw [show at_ + s + d = at_ + d + s from by omega]
  rfl
/-- behind a token all goes on as if nothing stood ahead -/
theorem Good.rew_tail {rs : List (List Int × List Int)} (h : Good rs) (us : List Int) : ∀ (at_ : Int) (n : Nat) (t : Tk), (rewA rs at_ us)[n]? = some t → at_ ≤ t.pos ∧ t.pos < at_ + us.length ∧ (rewA rs at_ us).drop n = rewA rs t.pos (us.drop (t.pos - at_).toNat) := by
  refine h.along (fun us => ∀ (at_ : Int) (n : Nat) (t : Tk), (rewA rs at_ us)[n]? = some t → at_ ≤ t.pos ∧ t.pos < at_ + us.length ∧ (rewA rs at_ us).drop n = rewA rs t.pos (us.drop (t.pos - at_).toNat)) (fun _ _ _ h => by simp [rewA_nil] at h) ?_ us.length us (Nat.le_refl _)
  intro us s e o hu hs hp ih at_ n t ht
  have h1 := hp.lo
  have h2 := hp.hi
  match n with
  | 0 =>
    have h0 := rewA_cons (at_ := at_) hu hs hp.lo
    rw [h0] at ht
    obtain rfl : (⟨at_, s, o, e⟩ : Tk) = t := by simpa using ht
    refine ⟨Int.le_refl _, by show at_ < _; omega, ?_⟩
    show rewA rs at_ us = rewA rs at_ (us.drop (at_ - at_).toNat)
    rw [Int.sub_self]; rfl
  | n + 1 =>
    rw [rewA_cons hu hs hp.lo] at ht ⊢
    obtain ⟨g1, g2, g3⟩ := ih (at_ + s) n t (by simpa using ht)
    rw [List.length_drop] at g2
    refine ⟨by omega, by omega, ?_⟩
    rw [List.drop_succ_cons, g3, List.drop_drop]
    rw [show s.toNat + (t.pos - (at_ + s)).toNat = (t.pos - at_).toNat from by omega]
end Go.Proofs.YtmenjcdmdmngcaaGreatDoor
namespace Go.Proofs.YtmenjcdmdmngcaaGreatDoor
set_option linter.unusedVariables false
theorem joinT_shift (rs : List (List Int × List Int)) (a : List Int) (d : Int) (t : Tk) : joinT rs a (shK d t) = shK d (joinT rs a t) := by
  unfold joinT
  show (if t.err = 0 ∧ joinsR rs a t.out = true then _ else _) = _
  by_cases h : t.err = 0 ∧ joinsR rs a t.out = true
  · rw [if_pos h, if_pos h]; rfl
  · rw [if_neg h, if_neg h]
theorem encF_shift (rs : List (List Int × List Int)) (d : Int) : ∀ (ts : List Tk) (a : List Int), encF rs a (ts.map (shK d)) = (encF rs a ts).map (shK d)
  | [], _ => rfl
  | t :: ts, a => by
    simp only [List.map_cons, encF, joinT_shift, encF_shift rs d ts]
    rfl
theorem enc_further {rs : List (List Int × List Int)} (h : Good (turnR rs)) (us : List Int) (n : Int) : encF rs [] (rewA (turnR rs) n us) = (encA rs us).map (shK n) := by
  unfold encA
  rw [← encF_shift, h.rew_shift, Int.zero_add]
theorem aheadF_next {a : List Int} {ts : List Tk} {K : Nat} (h : K < ts.length) : aheadF a (ts.take (K + 1)) = if ts[K].err = 0 then ts[K].out else aheadF a (ts.take K) := by
  rw [List.take_succ_eq_append_getElem h, aheadF_app]; rfl
theorem encF_pos {rs : List (List Int × List Int)} : ∀ (ts : List Tk) (a : List Int) (t : Tk), t ∈ encF rs a ts → ∃ t' ∈ ts, t'.pos = t.pos
  | [], _, t, h => by cases h
  | x :: ts, a, t, h => by
    simp only [encF, List.mem_cons] at h
    rcases h with rfl | h
    · exact ⟨x, by simp, by unfold joinT; split <;> rfl⟩
    · obtain ⟨t', h1, h2⟩ := encF_pos ts _ t h
      exact ⟨t', by simp [h1], h2⟩
theorem encA_pos {rs : List (List Int × List Int)} (h : Good (turnR rs)) (us : List Int) : ∀ t ∈ encA rs us, 0 ≤ t.pos ∧ t.pos ≤ us.length := by
  intro t ht
  obtain ⟨t', h1, h2⟩ := encF_pos _ _ t ht
  obtain ⟨n, hn⟩ := List.mem_iff_getElem?.1 h1
  have := h.rew_tail us 0 n t' hn
  omega
/-- the first tokens of two rows, with nothing ahead and with something -/
theorem enc_first {rs : List (List Int × List Int)} {a : List Int} {ts : List Tk} (h : 0 < ts.length) : (encF rs [] ts)[0]'(by rw [encF_len]; exact h) = ts[0] ∧ (encF rs a ts)[0]'(by rw [encF_len]; exact h) = joinT rs a ts[0] := by
  cases ts with
  | nil => simp at h
  | cons t ts => exact ⟨joinT_nil rs t, rfl⟩
end Go.Proofs.YtmenjcdmdmngcaaGreatDoor
namespace Go.Proofs.YtmenjcdmdmngcaaGreatDoor
set_option linter.unusedVariables false
set_option linter.unusedSimpArgs false
set_option maxRecDepth 100000
theorem inR_closed : closedR inR = true := by decide +kernel
theorem inT_right : checkR (turnR inR) = (-1, 0) := by rw [inR_turn]; decide +kernel
theorem inR_good : Good inR := good_of inR_right
theorem inT_good : Good (turnR inR) := good_of inT_right
theorem inR_long : longR inR = 2 := by decide +kernel
theorem inT_long : longR (turnR inR) = 2 := by rw [inR_turn]; decide +kernel
/-- at most one unit waits -/
theorem wait_one {rs : List (List Int × List Int)} (hg : Good rs) (hl : longR rs = 2) {q : List Int} (h : q = [] ∨ opens rs q = true) : q.length ≤ 1 := by
  have := held_lt hg h hl (m := 2) (by decide)
  omega
/-- what a token's units are of -/
theorem Good.rew_from {rs : List (List Int × List Int)} (h : Good rs) (us : List Int) : ∀ a : Int, ∀ t ∈ rewA rs a us, t.out = [] ∨ ∃ r ∈ rs, t.out = r.2 ∧ ∀ u ∈ r.1, u ∈ us := by
  refine h.along (fun us => ∀ a : Int, ∀ t ∈ rewA rs a us, t.out = [] ∨ ∃ r ∈ rs, t.out = r.2 ∧ ∀ u ∈ r.1, u ∈ us) ?_ ?_ us.length us (Nat.le_refl _)
  · intro a t ht; rw [rewA_nil] at ht; cases ht
  intro us s e o hu hs hp ih a t ht
  rw [rewA_cons hu hs hp.lo] at ht
  rcases List.mem_cons.1 ht with rfl | ht
  · obtain ⟨k, n, op, hl, _⟩ := h.long us
    rcases h.step hl with ⟨h3, _⟩ | ⟨m, g1, g2, g3, _, K, g5, hK, g6, g7⟩
    · have := h.stepN hl h3
      rw [hs] at this
      injection this with _ this
      injection this with _ this
      exact .inl this
    · rw [hs] at g7
      injection g7 with _ g8
      injection g8 with _ g8
      exact .inr ⟨rs[K], List.getElem_mem hK, g8, fun u hu2 => by rw [g6] at hu2; exact List.mem_of_mem_take hu2⟩
  · rcases ih _ t ht with h1 | ⟨r, h1, h2, h3⟩
    · exact .inl h1
    · exact .inr ⟨r, h1, h2, fun u hu2 => List.mem_of_mem_drop (h3 u hu2)⟩
/-- what units mean, the script being sc: and the script behind them -/
def meanU (sc : Int) : List Int → List Int × Int
  | [] => ([], sc)
  | u :: us => if 8192 ≤ u then ((u - 8192) :: (meanU sc us).1, (meanU sc us).2) else if 4096 ≤ u then meanU (u - 4096) us else ((2304 + 128 * sc + u) :: (meanU sc us).1, (meanU sc us).2)
theorem meanU_app : ∀ (a b : List Int) (sc : Int), meanU sc (a ++ b) = ((meanU sc a).1 ++ (meanU (meanU sc a).2 b).1, (meanU (meanU sc a).2 b).2)
  | [], b, sc => rfl
  | u :: a, b, sc => by
    simp only [List.cons_append, meanU, meanU_app a b]
    split
    · rfl
    · split <;> rfl
/-- one more unit -/
theorem meanU_snoc (a : List Int) (u sc : Int) : meanU sc (a ++ [u]) = if 8192 ≤ u then ((meanU sc a).1 ++ [u - 8192], (meanU sc a).2) else if 4096 ≤ u then ((meanU sc a).1, u - 4096) else ((meanU sc a).1 ++ [2304 + 128 * (meanU sc a).2 + u], (meanU sc a).2) := by
  rw [meanU_app]
  simp only [meanU]
  split
  · rfl
  · split <;> simp
def meanT (sc : Int) : List Tk → List Tk × Int
  | [] => ([], sc)
  | t :: ts => (⟨t.pos, t.size, (meanU sc t.out).1, t.err⟩ :: (meanT (meanU sc t.out).2 ts).1, (meanT (meanU sc t.out).2 ts).2)
theorem meanT_app : ∀ (a b : List Tk) (sc : Int), meanT sc (a ++ b) = ((meanT sc a).1 ++ (meanT (meanT sc a).2 b).1, (meanT (meanT sc a).2 b).2)
  | [], b, sc => rfl
  | t :: a, b, sc => by simp only [List.cons_append, meanT, meanT_app a b]
theorem meanT_len : ∀ (ts : List Tk) (sc : Int), (meanT sc ts).1.length = ts.length
  | [], _ => rfl
  | t :: ts, sc => by simp only [meanT, List.length_cons, meanT_len ts]
theorem meanT_take {ts : List Tk} {sc : Int} {K : Nat} (h : K < ts.length) : meanT sc (ts.take (K + 1)) = ((meanT sc (ts.take K)).1 ++ [⟨ts[K].pos, ts[K].size, (meanU (meanT sc (ts.take K)).2 ts[K].out).1, ts[K].err⟩], (meanU (meanT sc (ts.take K)).2 ts[K].out).2) := by
  rw [List.take_succ_eq_append_getElem h, meanT_app]; rfl
theorem meanT_outs : ∀ (ts : List Tk) (sc : Int), outsT (meanT sc ts).1 = (meanU sc (outsT ts)).1 ∧ (meanT sc ts).2 = (meanU sc (outsT ts)).2
  | [], sc => ⟨rfl, rfl⟩
  | t :: ts, sc => by
    have ih := meanT_outs ts (meanU sc t.out).2
    have e : outsT (t :: ts) = t.out ++ outsT ts := rfl
    rw [e, meanU_app]
    exact ⟨by show (meanU sc t.out).1 ++ outsT _ = _; rw [ih.1], ih.2⟩
/-- such units are told -/
def unitOk (u : Int) : Bool := decide (0 ≤ u) && (decide (u < 128) || (decide (4096 ≤ u) && decide (u < 4105)) || (decide (8192 ≤ u) && decide (u ≤ 20000)))
theorem inR_outs : ∀ r ∈ inR, ∀ u ∈ r.2, unitOk u = true := by
  have h : (inR.all fun r => r.2.all unitOk) = true := by decide +kernel
  intro r hr u hu
  exact List.all_eq_true.1 (List.all_eq_true.1 h r hr) u hu
theorem rew_ok (us : List Int) (a : Int) : ∀ t ∈ rewA inR a us, ∀ u ∈ t.out, unitOk u = true := by
  intro t ht u hu
  rcases inR_good.rew_from us a t ht with h | ⟨r, h1, h2, _⟩
  · rw [h] at hu; cases hu
  · rw [h2] at hu; exact inR_outs r h1 u hu
theorem meanU_range : ∀ (us : List Int) (sc : Int), (∀ u ∈ us, unitOk u = true) → 0 ≤ sc ∧ sc ≤ 8 → 0 ≤ (meanU sc us).2 ∧ (meanU sc us).2 ≤ 8
  | [], sc, _, h => h
  | u :: us, sc, hu, h => by
    have h1 := hu u (by simp)
    have ih := fun s hs => meanU_range us s (fun x hx => hu x (by simp [hx])) hs
    simp only [meanU]
    split
    · exact ih sc h
    · split
      · refine ih _ ?_
        simp [unitOk] at h1
        omega
      · exact ih sc h
theorem meanT_range : ∀ (ts : List Tk) (sc : Int), (∀ t ∈ ts, ∀ u ∈ t.out, unitOk u = true) → 0 ≤ sc ∧ sc ≤ 8 → 0 ≤ (meanT sc ts).2 ∧ (meanT sc ts).2 ≤ 8
  | [], sc, _, h => h
  | t :: ts, sc, hu, h => meanT_range ts _ (fun x hx => hu x (by simp [hx])) (meanU_range t.out sc (hu t (by simp)) h)
/-- behind K units a Decoder has told acc: q waits, the script is sc -/
def DS (us : List Int) (K : Nat) (q : List Int) (a sc : Int) (acc : List Tk) : Prop :=
  (∃ raw, meanT 0 raw = (acc, sc) ∧ raw ++ rewA inR a (q ++ us.drop K) = rewA inR 0 us) ∧ a + q.length = K ∧ (q = [] ∨ opens inR q = true) ∧ 0 ≤ a ∧ 0 ≤ sc ∧ sc ≤ 8
theorem DS.start (us : List Int) : DS us 0 [] 0 0 [] := ⟨⟨[], rfl, by simp⟩, by simp, .inl rfl, by decide, by decide, by decide⟩
theorem DS.one {us q : List Int} {K : Nat} {a sc : Int} {acc : List Tk} (h : DS us K q a sc acc) : q.length ≤ 1 := wait_one inR_good inR_long h.2.2.1
theorem DS.step {us q rest : List Int} {K k : Nat} {a sc sc' : Int} {acc ts ms : List Tk} (h : DS us K q a sc acc) (hK : K < us.length) (hd : drain inR a (q ++ [us.getD K 0]) = (ts, rest, k)) (hm : meanT sc ts = (ms, sc')) :
    DS us (K + 1) rest (a + q.length + 1 - rest.length) sc' (acc ++ ms) := by
  obtain ⟨⟨raw, h1, h2⟩, h3, h4, h5, h6⟩ := h
  have hD := inR_good.drained (q ++ [us.getD K 0]) a
  rw [hd] at hD
  obtain ⟨_, ha, ho, hc, _⟩ := hD
  simp only at ha ho hc
  have h7 := ha (us.drop (K + 1))
  have e : q ++ [us.getD K 0] ++ us.drop (K + 1) = q ++ us.drop K := by
    rw [List.append_assoc, List.drop_eq_getElem_cons hK, List.getD_eq_getElem?_getD, List.getElem?_eq_getElem hK]; rfl
  rw [e] at h7
  rw [List.length_append, List.length_singleton] at h7 hc
  have hr := meanT_range ts sc (fun t ht u hu => rew_ok (q ++ us.drop K) a t (by rw [h7]; exact List.mem_append.2 (.inl ht)) u hu) h6
  rw [hm] at hr
  refine ⟨⟨raw ++ ts, ?_, ?_⟩, by omega, ho, by omega, hr⟩
  · rw [meanT_app, h1]; simp only; rw [hm]
  · rw [List.append_assoc, ← h2, h7, show a + ((q.length + 1 : Nat) : Int) - rest.length = a + q.length + 1 - rest.length from by omega]
theorem DS.fin {us q : List Int} {K : Nat} {a sc sc' : Int} {acc ts ms : List Tk} (h : DS us K q a sc acc) (hK : us.length ≤ K) (hd : rewA inR a q = ts) (hm : meanT sc ts = (ms, sc')) : meanT 0 (rewA inR 0 us) = (acc ++ ms, sc') := by
  obtain ⟨⟨raw, h1, h2⟩, _⟩ := h
  rw [List.drop_of_length_le hK, List.append_nil, hd] at h2
  rw [← h2, meanT_app, h1]; simp only; rw [hm]
/-- is it a script's? its unit; its script -/
def isB (s : Int) : Bool := decide (2304 ≤ s) && decide (s < 3456) && decide (s ≠ 2404)
def isU (s : Int) : Int := if isB s = true then s % 128 else if scB s = true then 8192 + s else -1
def isC (s : Int) : Int := (s - 2304) / 128
theorem isB_iff {s : Int} : isB s = true ↔ 2304 ≤ s ∧ s < 3456 ∧ s ≠ 2404 := by simp [isB, and_assoc]
theorem isC_range {s : Int} (h : isB s = true) : 0 ≤ isC s ∧ isC s ≤ 8 := by
  rw [isB_iff] at h; unfold isC; omega
theorem isU_range (s : Int) : isU s = -1 ∨ (0 ≤ isU s ∧ isU s < 128) ∨ 8192 ≤ isU s := by
  unfold isU
  split
  · omega
  · split
    · rename_i h; rw [scB_t] at h; omega
    · exact .inl rfl
/-- the token of a switch -/
def swT (at_ c : Int) : Tk := ⟨at_, 0, [239, cdC c.toNat], 0⟩
/-- what an Encoder's machine tells of a unit: and what it is then -/
def eOne (q : List Int) (a : Int) (ah : List Int) (u : Int) : List Tk × List Int × Int × List Int :=
  (encF inR ah (drain (turnR inR) a (q ++ [u])).1, (drain (turnR inR) a (q ++ [u])).2.1, a + q.length + 1 - (drain (turnR inR) a (q ++ [u])).2.1.length, aheadF ah (encF inR ah (drain (turnR inR) a (q ++ [u])).1))
def ePut (q : List Int) (a : Int) (ah : List Int) (sc s : Int) : List Tk × List Int × Int × List Int × Int :=
  if isB s = true ∧ isC s ≠ sc then
    (encF inR ah (rewA (turnR inR) a q) ++ swT (a + q.length) (isC s) :: (eOne [] (a + q.length) [] (isU s)).1, (eOne [] (a + q.length) [] (isU s)).2.1, (eOne [] (a + q.length) [] (isU s)).2.2.1, (eOne [] (a + q.length) [] (isU s)).2.2.2, isC s)
  else ((eOne q a ah (isU s)).1, (eOne q a ah (isU s)).2.1, (eOne q a ah (isU s)).2.2.1, (eOne q a ah (isU s)).2.2.2, sc)
/-- what scalars are written as: units xs stand ahead of them, in script sc, the first one at n; and the script behind them -/
def lawE (n : Int) (xs : List Int) (sc : Int) : List Int → List Tk × Int
  | [] => ((encA inR xs).map (shK n), sc)
  | s :: ss => if isB s = true ∧ isC s ≠ sc then ((encA inR xs).map (shK n) ++ swT (n + xs.length) (isC s) :: (lawE (n + xs.length) [isU s] (isC s) ss).1, (lawE (n + xs.length) [isU s] (isC s) ss).2) else lawE n (xs ++ [isU s]) sc ss
/-- behind K scalars an Encoder has told acc -/
def ES (ss : List Int) (K : Nat) (q : List Int) (a : Int) (ah : List Int) (sc : Int) (acc : List Tk) : Prop :=
  (∃ pre n xs t1, (pre ++ (lawE n xs sc (ss.drop K)).1, (lawE n xs sc (ss.drop K)).2) = lawE 0 [] 0 ss ∧ acc = pre ++ encF inR [] t1 ∧ (∀ ys, rewA (turnR inR) n (xs ++ ys) = t1 ++ rewA (turnR inR) a (q ++ ys)) ∧ ah = aheadF [] (encF inR [] t1) ∧ n + (xs.length : Int) = K) ∧
  a + q.length = K ∧ (q = [] ∨ opens (turnR inR) q = true) ∧ ah.length ≤ 8 ∧ 0 ≤ a ∧ 0 ≤ sc ∧ sc ≤ 8
theorem ES.start (ss : List Int) : ES ss 0 [] 0 [] 0 [] := ⟨⟨[], 0, [], [], rfl, rfl, fun ys => by simp, rfl, by simp⟩, by simp, .inl rfl, by simp, by decide, by decide, by decide⟩
theorem ES.one {ss q ah : List Int} {K : Nat} {a sc : Int} {acc : List Tk} (h : ES ss K q a ah sc acc) : q.length ≤ 1 := wait_one inT_good inT_long h.2.2.1
theorem inT_small {us rest : List Int} {a : Int} {ts : List Tk} {k : Nat} (hd : drain (turnR inR) a us = (ts, rest, k)) : ∀ t ∈ ts, t.out.length ≤ 8 := by
  have hd' := inT_good.drained us a
  rw [hd] at hd'
  obtain ⟨_, ha, _⟩ := hd'
  have h1 := ha []
  simp only at h1
  exact fun t ht => (inT_good.rew_tk (us ++ []) a t (by rw [h1]; exact List.mem_append.2 (.inl ht))).len
theorem ES.step {ss q q' ah ah' : List Int} {K : Nat} {a a' sc sc' : Int} {acc ts : List Tk} (h : ES ss K q a ah sc acc) (hK : K < ss.length) (hp : ePut q a ah sc (ss.getD K 0) = (ts, q', a', ah', sc')) :
    ES ss (K + 1) q' a' ah' sc' (acc ++ ts) := by
  obtain ⟨⟨pre, n, xs, t1, h1, rfl, h3, rfl, h5⟩, h6, h7, h8, h9, h10⟩ := h
  have e : ss.drop K = ss.getD K 0 :: ss.drop (K + 1) := by rw [List.drop_eq_getElem_cons hK, List.getD_eq_getElem?_getD, List.getElem?_eq_getElem hK]; rfl
  obtain ⟨s, hs⟩ : ∃ s, ss.getD K 0 = s := ⟨_, rfl⟩
  rw [e, hs] at h1
  rw [hs] at hp
  unfold ePut at hp
  by_cases hsw : isB s = true ∧ isC s ≠ sc
  · rw [if_pos hsw] at hp
    simp only [lawE, if_pos hsw] at h1
    simp only [eOne, List.nil_append, List.length_nil] at hp
    obtain ⟨d, hd⟩ : ∃ d, drain (turnR inR) (a + q.length) [isU s] = d := ⟨_, rfl⟩
    obtain ⟨t2, rest, k⟩ := d
    rw [hd] at hp
    simp only [Prod.mk.injEq] at hp
    obtain ⟨rfl, rfl, rfl, rfl, rfl⟩ := hp
    have hD := inT_good.drained [isU s] (a + q.length)
    rw [hd] at hD
    obtain ⟨_, ha, ho, hc, _⟩ := hD
    simp only [List.length_singleton] at ha ho hc
    have hrest := enc_further inT_good xs n
    have h3' := h3 []
    rw [List.append_nil, List.append_nil] at h3'
    have h8' := aheadF_small (a := []) (by simp) (encF_small (rs := inR) (a := []) (inT_small hd))
    refine ⟨⟨pre ++ ((encA inR xs).map (shK n) ++ [swT (n + xs.length) (isC s)]), n + xs.length, [isU s], t2, ?_, ?_, ?_, rfl, by simp; omega⟩, by simp; omega, ho, h8', by omega, isC_range hsw.1⟩
    · rw [← h1]; simp
    · rw [← hrest, h3', encF_app, show a + (q.length : Int) = n + xs.length by omega]; simp
    · intro ys
      rw [show n + (xs.length : Int) = a + q.length by omega, ha ys, show a + (q.length : Int) + ((1 : Nat) : Int) - rest.length = a + (q.length : Int) + ((0 : Nat) : Int) + 1 - rest.length by omega]
  · rw [if_neg hsw] at hp
    simp only [lawE, if_neg hsw] at h1
    simp only [eOne] at hp
    obtain ⟨d, hd⟩ : ∃ d, drain (turnR inR) a (q ++ [isU s]) = d := ⟨_, rfl⟩
    obtain ⟨t2, rest, k⟩ := d
    rw [hd] at hp
    simp only [Prod.mk.injEq] at hp
    obtain ⟨rfl, rfl, rfl, rfl, rfl⟩ := hp
    have hD := inT_good.drained (q ++ [isU s]) a
    rw [hd] at hD
    obtain ⟨_, ha, ho, hc, _⟩ := hD
    simp only [List.length_append, List.length_singleton] at ha ho hc
    have h8' := aheadF_small h8 (encF_small (rs := inR) (a := aheadF [] (encF inR [] t1)) (inT_small hd))
    refine ⟨⟨pre, n, xs ++ [isU s], t1 ++ t2, h1, ?_, ?_, ?_, by simp; omega⟩, by omega, ho, h8', by omega, h10⟩
    · rw [encF_app]; simp
    · intro ys
      rw [List.append_assoc, h3, ← List.append_assoc, ha ys, List.append_assoc, show a + ((q.length + 1 : Nat) : Int) - rest.length = a + q.length + 1 - rest.length by omega]
    · rw [encF_app, aheadF_app]
theorem ES.fin {ss q ah : List Int} {K : Nat} {a sc : Int} {acc ts : List Tk} (h : ES ss K q a ah sc acc) (hK : ss.length ≤ K) (hd : encF inR ah (rewA (turnR inR) a q) = ts) : (acc ++ ts, sc) = lawE 0 [] 0 ss := by
  obtain ⟨⟨pre, n, xs, t1, h1, rfl, h3, rfl, _⟩, _⟩ := h
  rw [List.drop_of_length_le hK] at h1
  simp only [lawE] at h1
  have h3' := h3 []
  rw [List.append_nil, List.append_nil] at h3'
  rw [← h1, ← hd, ← enc_further inT_good xs n, h3', encF_app, List.append_assoc]
end Go.Proofs.YtmenjcdmdmngcaaGreatDoor
namespace Go.Proofs.YtmenjcdmdmngcaaGreatDoor
set_option linter.unusedVariables false
set_option linter.unusedSimpArgs false
set_option maxRecDepth 100000
theorem inR_ef : ∀ r ∈ inR, r.1.getD 1 0 ≠ 239 := by
  have h : (inR.all fun r => decide (r.1.getD 1 0 ≠ 239)) = true := by decide +kernel
  intro r hr
  simpa using List.all_eq_true.1 h r hr
theorem join_ef (ah l : List Int) : joinsR inR ah (239 :: l) = false := by
  cases h : joinsR inR ah (239 :: l) with
  | false => rfl
  | true =>
    obtain ⟨r, hr, h1, h2, h3, h4⟩ := joinsR_iff.1 h
    have h5 := (inR_sides r hr).1
    have h6 : r.1.length = 2 := by omega
    match ah, h1, h2 with
    | [x], _, _ =>
      rw [h6] at h4
      exact absurd (by rw [← h4]; rfl) (inR_ef r hr)
    | x :: y :: ah, _, h2 => simp at h2; omega
theorem join_two {ah : List Int} (h : 2 ≤ ah.length) (us : List Int) : joinsR inR ah us = false := by
  cases hj : joinsR inR ah us with
  | false => rfl
  | true =>
    obtain ⟨r, hr, h1, h2, h3, h4⟩ := joinsR_iff.1 hj
    have h5 := (inR_sides r hr).1
    omega
theorem noJ_app {rs : List (List Int × List Int)} {q : List Int × List Int} {qs2 : List (List Int × List Int)} (h1 : ∀ ah, joinsR rs ah q.1 = false) (h2 : noJ rs q.1 qs2) : ∀ (qs1 : List (List Int × List Int)) (ah : List Int), noJ rs ah qs1 → noJ rs ah (qs1 ++ q :: qs2)
  | [], ah, _ => ⟨h1 ah, h2⟩
  | x :: qs1, ah, h => ⟨h.1, noJ_app h1 h2 qs1 x.1 h.2⟩
theorem noJ_two {ah : List Int} (h : 2 ≤ ah.length) : ∀ (qs : List (List Int × List Int)), noJ inR [] qs → noJ inR ah qs
  | [], _ => trivial
  | q :: qs, hq => ⟨join_two h _, hq.2⟩
theorem cd_rule (k : Nat) (h : k < 9) : ([239, cdC k], [4096 + (k : Int)]) ∈ inR := by
  have := all_rangeI (show (List.range 9).all (fun k => decide (([239, cdC k], [4096 + (k : Int)]) ∈ inR)) = true by decide +kernel) k h
  simpa using this
theorem meanU_one {s sc : Int} (hs : scB s = true) (h : isB s = true → isC s = sc) : meanU sc [isU s] = ([s], sc) := by
  simp only [meanU]
  unfold isU
  cases hb : isB s with
  | true =>
    have h1 := h hb
    rw [isB_iff] at hb
    unfold isC at h1
    simp only [if_true]
    rw [if_neg (by omega), if_neg (by omega)]
    simp; omega
  | false =>
    rw [scB_t] at hs
    simp only [Bool.false_eq_true, if_false, scB_t.2 hs, if_true]
    rw [if_pos (by omega)]
    simp; omega
theorem outs_shift (n : Int) : ∀ ts : List Tk, outsT (ts.map (shK n)) = outsT ts
  | [] => rfl
  | t :: ts => by show t.out ++ outsT (ts.map (shK n)) = t.out ++ outsT ts; rw [outs_shift n ts]
theorem lawE_back : ∀ (ss : List Int) (n : Int) (xs : List Int) (sc : Int) (pre : List Int), meanU sc xs = (pre, sc) → (∀ s ∈ ss, scB s = true) → (∀ t ∈ (lawE n xs sc ss).1, t.err = 0) →
    ∃ qs : List (List Int × List Int), (∀ q ∈ qs, q ∈ inR) ∧ noJ inR [] qs ∧ outsT (lawE n xs sc ss).1 = qs.flatMap (·.1) ∧ meanU sc (qs.flatMap (·.2)) = (pre ++ ss, (lawE n xs sc ss).2)
  | [], n, xs, sc, pre, hm, _, hall => by
    simp only [lawE] at hall ⊢
    obtain ⟨qs, h1, h2, h3, h4⟩ := enc_shape (rs := inR) inT_good (fun t hm => by obtain ⟨r, hr, rfl⟩ := turnR_mem hm; exact hr) xs 0 [] (fun t ht => hall (shK n t) (List.mem_map.2 ⟨t, ht, rfl⟩))
    exact ⟨qs, h1, h4, by rw [outs_shift]; exact h2, by rw [← h3, hm, List.append_nil]⟩
  | s :: ss, n, xs, sc, pre, hm, hs, hall => by
    have hs0 := hs s (by simp)
    by_cases hsw : isB s = true ∧ isC s ≠ sc
    · simp only [lawE, if_pos hsw] at hall ⊢
      obtain ⟨qs, h1, h2, h3, h4⟩ := enc_shape (rs := inR) inT_good (fun t hm => by obtain ⟨r, hr, rfl⟩ := turnR_mem hm; exact hr) xs 0 [] (fun t ht => hall (shK n t) (List.mem_append.2 (.inl (List.mem_map.2 ⟨t, ht, rfl⟩))))
      obtain ⟨qs2, g1, g2, g3, g4⟩ := lawE_back ss (n + xs.length) [isU s] (isC s) [s] (meanU_one hs0 fun _ => rfl) (fun x hx => hs x (by simp [hx])) (fun t ht => hall t (List.mem_append.2 (.inr (by simp [ht]))))
      obtain ⟨c0, c1⟩ := isC_range hsw.1
      obtain ⟨k, hk⟩ : ∃ k : Nat, isC s = k := ⟨(isC s).toNat, by omega⟩
      have hk9 : k < 9 := by omega
      rw [hk] at g3 g4 ⊢
      refine ⟨qs ++ ([239, cdC k], [4096 + (k : Int)]) :: qs2, ?_, ?_, ?_, ?_⟩
      · intro q hq
        rcases List.mem_append.1 hq with hq | hq
        · exact h1 q hq
        · rcases List.mem_cons.1 hq with rfl | hq
          · exact cd_rule k hk9
          · exact g1 q hq
      · exact noJ_app (fun ah => join_ef ah _) (noJ_two (by simp) qs2 g2) qs [] h4
      · rw [outsT_app, outs_shift]
        show outsT (encA inR xs) ++ ([239, cdC ((k : Int)).toNat] ++ outsT _) = _
        rw [g3, List.flatMap_append, List.flatMap_cons, ← h2]
        simp [encA]
      · rw [List.flatMap_append, List.flatMap_cons, ← h3, meanU_app, hm]
        simp only
        rw [meanU_app]
        have e : meanU sc [4096 + (k : Int)] = ([], (k : Int)) := by
          simp only [meanU]
          rw [if_neg (by omega), if_pos (by omega)]
          simp; omega
        rw [e]
        simp only
        rw [g4]
        simp
    · simp only [lawE, if_neg hsw] at hall ⊢
      obtain ⟨qs, g1, g2, g3, g4⟩ := lawE_back ss n (xs ++ [isU s]) sc (pre ++ [s]) (by rw [meanU_app, hm, meanU_one hs0 (fun hb => by by_cases he : isC s = sc; exact he; exact absurd ⟨hb, he⟩ hsw)]) (fun x hx => hs x (by simp [hx])) hall
      exact ⟨qs, g1, g2, g3, by rw [g4]; simp⟩
/-- what is written whole is read as it was -/
theorem isc_back {ss : List Int} (hs : ∀ s ∈ ss, scB s = true) (hall : ∀ t ∈ (lawE 0 [] 0 ss).1, t.err = 0) :
    outsT (meanT 0 (rewA inR 0 (outsT (lawE 0 [] 0 ss).1))).1 = ss ∧ (meanT 0 (rewA inR 0 (outsT (lawE 0 [] 0 ss).1))).2 = (lawE 0 [] 0 ss).2 := by
  obtain ⟨qs, h1, h2, h3, h4⟩ := lawE_back ss 0 [] 0 [] rfl hs hall
  obtain ⟨g1, g2⟩ := meanT_outs (rewA inR 0 (outsT (lawE 0 [] 0 ss).1)) 0
  rw [g1, g2, h3, (inR_good.reads_all inR_closed qs [] h1 h2 0).1, h4]
  exact ⟨by simp, rfl⟩
/-- a switch, as the law knows it -/
def isSw (t : Tk) : Prop := t.out.length = 2 ∧ t.out.getD 0 0 = 239
/-- switches stand only where the script changes, and none at the end -/
def SwOK : Int → List Tk → Int → Prop
  | s, [], f => s = f
  | s, t :: ts, f => (¬ isSw t ∧ SwOK s ts f) ∨ ∃ k : Nat, k < 9 ∧ t.out = [239, cdC k] ∧ (k : Int) ≠ s ∧ ts ≠ [] ∧ t.size = 0 ∧ SwOK k ts f
theorem SwOK.app {s f : Int} {b : List Tk} (h : SwOK s b f) : ∀ (a : List Tk), (∀ t ∈ a, ¬ isSw t) → SwOK s (a ++ b) f
  | [], _ => h
  | t :: a, ha => .inl ⟨ha t (by simp), SwOK.app h a fun x hx => ha x (by simp [hx])⟩
theorem inR_sw : ∀ r ∈ inR, r.1.length = 2 → r.1.getD 0 0 = 239 → ∃ u ∈ r.2, 4096 ≤ u ∧ u < 8192 := by
  have h : (inR.all fun r => decide (r.1.length ≠ 2) || decide (r.1.getD 0 0 ≠ 239) || r.2.any fun u => decide (4096 ≤ u ∧ u < 8192)) = true := by decide +kernel
  intro r hr h1 h2
  have := List.all_eq_true.1 h r hr
  rw [h1, h2] at this
  simpa using this
/-- units of scalars -/
def scU (x : Int) : Prop := x = -1 ∨ (0 ≤ x ∧ x < 128) ∨ 8192 ≤ x
theorem encF_outs {rs : List (List Int × List Int)} : ∀ (ts : List Tk) (a : List Int) (t : Tk), t ∈ encF rs a ts → t.out = [] ∨ ∃ t' ∈ ts, t'.out = t.out
  | [], _, t, h => by cases h
  | x :: ts, a, t, h => by
    simp only [encF, List.mem_cons] at h
    rcases h with rfl | h
    · unfold joinT
      split
      · exact .inl rfl
      · exact .inr ⟨x, by simp, rfl⟩
    · rcases encF_outs ts _ t h with h1 | ⟨t', h1, h2⟩
      · exact .inl h1
      · exact .inr ⟨t', by simp [h1], h2⟩
theorem enc_noSw {xs : List Int} (h : ∀ x ∈ xs, scU x) (n : Int) : ∀ t ∈ (encA inR xs).map (shK n), ¬ isSw t := by
  intro t ht hsw
  obtain ⟨t0, h1, rfl⟩ := List.mem_map.1 ht
  have hsw' : isSw t0 := hsw
  unfold encA at h1
  rcases encF_outs _ _ _ h1 with h2 | ⟨t', h2, h3⟩
  · have := hsw'.1; rw [h2] at this; cases this
  rw [isSw, ← h3] at hsw'
  rcases inT_good.rew_from xs 0 t' h2 with h4 | ⟨r, h4, h5, h6⟩
  · have := hsw'.1; rw [h4] at this; cases this
  rw [h5] at hsw'
  obtain ⟨r0, hr0, rfl⟩ := turnR_mem h4
  obtain ⟨u, hu, h7, h8⟩ := inR_sw _ hr0 hsw'.1 hsw'.2
  have := h u (h6 u hu)
  unfold scU at this
  omega
theorem encA_ne {xs : List Int} (h : xs ≠ []) : encA inR xs ≠ [] := by
  intro e
  have := congrArg List.length e
  unfold encA at this
  rw [encF_len] at this
  exact rewA_ne h (List.length_eq_zero_iff.1 this)
theorem lawE_ne : ∀ (ss : List Int) (n : Int) (xs : List Int) (sc : Int), xs ≠ [] → (lawE n xs sc ss).1 ≠ []
  | [], n, xs, sc, h => by simp only [lawE]; intro e; exact encA_ne h (List.map_eq_nil_iff.1 e)
  | s :: ss, n, xs, sc, h => by
    by_cases hsw : isB s = true ∧ isC s ≠ sc
    · simp only [lawE, if_pos hsw]; simp
    · simp only [lawE, if_neg hsw]; exact lawE_ne ss _ _ _ (by simp)
theorem lawE_sw : ∀ (ss : List Int) (n : Int) (xs : List Int) (sc : Int), (∀ x ∈ xs, scU x) → SwOK sc (lawE n xs sc ss).1 (lawE n xs sc ss).2
  | [], n, xs, sc, h => by
    simp only [lawE]
    have := SwOK.app (s := sc) (f := sc) (b := []) rfl ((encA inR xs).map (shK n)) (enc_noSw h n)
    rwa [List.append_nil] at this
  | s :: ss, n, xs, sc, h => by
    by_cases hsw : isB s = true ∧ isC s ≠ sc
    · simp only [lawE, if_pos hsw]
      refine SwOK.app ?_ _ (enc_noSw h n)
      obtain ⟨c0, c1⟩ := isC_range hsw.1
      refine .inr ⟨(isC s).toNat, by omega, rfl, ?_, lawE_ne _ _ _ _ (by simp), rfl, ?_⟩
      · rw [show (((isC s).toNat : Nat) : Int) = isC s by omega]; exact hsw.2
      · rw [show (((isC s).toNat : Nat) : Int) = isC s by omega]
        exact lawE_sw ss _ _ _ (by intro x hx; rw [List.mem_singleton] at hx; subst hx; exact isU_range s)
    · simp only [lawE, if_neg hsw]
      exact lawE_sw ss _ _ _ (by
        intro x hx
        rcases List.mem_append.1 hx with hx | hx
        · exact h x hx
        · rw [List.mem_singleton] at hx; subst hx; exact isU_range s)
/-- consonants of script k -/
theorem con_is (k p : Nat) (hk : k < 9) (hp : p < 20) : isB (2325 + 128 * (k : Int) + p) = true ∧ isC (2325 + 128 * (k : Int) + p) = k ∧ isU (2325 + 128 * (k : Int) + p) = 21 + p := by
  have hb : isB (2325 + 128 * (k : Int) + p) = true := isB_iff.2 (by omega)
  refine ⟨hb, by unfold isC; omega, ?_⟩
  unfold isU
  rw [if_pos hb]
  omega
theorem put_same (q : List Int) (a : Int) (ah : List Int) (k p : Nat) (hk : k < 9) (hp : p < 20) : ePut q a ah k (2325 + 128 * (k : Int) + p) = ((eOne q a ah (21 + p)).1, (eOne q a ah (21 + p)).2.1, (eOne q a ah (21 + p)).2.2.1, (eOne q a ah (21 + p)).2.2.2, (k : Int)) := by
  obtain ⟨h1, h2, h3⟩ := con_is k p hk hp
  unfold ePut
  rw [if_neg (by rw [h2]; simp), h3]
theorem put_first (k p : Nat) (hk : k < 9) (h0 : 0 < k) (hp : p < 20) : ePut [] 0 [] 0 (2325 + 128 * (k : Int) + p) = (swT 0 k :: (eOne [] 0 [] (21 + p)).1, (eOne [] 0 [] (21 + p)).2.1, (eOne [] 0 [] (21 + p)).2.2.1, (eOne [] 0 [] (21 + p)).2.2.2, (k : Int)) := by
  obtain ⟨h1, h2, h3⟩ := con_is k p hk hp
  unfold ePut
  rw [if_pos ⟨h1, by rw [h2]; omega⟩, h3, h2, rewA_nil]
  simp [encF]
theorem DS.len {us q : List Int} {K : Nat} {a sc : Int} {acc : List Tk} (h : DS us K q a sc acc) : acc.length ≤ us.length := by
  obtain ⟨⟨raw, h1, h2⟩, _⟩ := h
  have h3 := inR_good.rew_len us 0
  rw [← h2, List.length_append] at h3
  have h4 := meanT_len raw 0
  rw [h1] at h4
  simp only at h4
  omega
theorem meanU_len : ∀ (l : List Int) (s : Int), (meanU s l).1.length ≤ l.length
  | [], s => by simp [meanU]
  | y :: l, s => by
    simp only [meanU]
    split
    · have := meanU_len l s; simp; omega
    · split
      · have := meanU_len l (y - 4096); simp; omega
      · have := meanU_len l s; simp; omega
theorem meanT_small : ∀ (ts : List Tk) (s : Int), (∀ t ∈ ts, t.out.length ≤ 8) → ∀ t ∈ (meanT s ts).1, t.out.length ≤ 8
  | [], s, _, t, ht => by cases ht
  | x :: ts, s, h, t, ht => by
    simp only [meanT, List.mem_cons] at ht
    rcases ht with rfl | ht
    · exact Nat.le_trans (meanU_len _ _) (h x (by simp))
    · exact meanT_small ts _ (fun y hy => h y (by simp [hy])) t ht
theorem drain_smallI {us rest : List Int} {a sc sc' : Int} {ts ms : List Tk} {k : Nat} (hd : drain inR a us = (ts, rest, k)) (hm : meanT sc ts = (ms, sc')) : ∀ t ∈ ms, t.out.length ≤ 8 := by
  have hd' := inR_good.drained us a
  rw [hd] at hd'
  obtain ⟨_, ha, _⟩ := hd'
  have h1 := ha []
  simp only at h1
  have h2 := meanT_small ts sc fun t ht => (inR_good.rew_tk (us ++ []) a t (by rw [h1]; exact List.mem_append.2 (.inl ht))).len
  rw [hm] at h2
  exact h2
theorem rew_smallI {us : List Int} {a sc sc' : Int} {ts ms : List Tk} (hd : rewA inR a us = ts) (hm : meanT sc ts = (ms, sc')) : (∀ t ∈ ms, t.out.length ≤ 8) ∧ ms.length ≤ us.length := by
  have h2 := meanT_small ts sc fun t ht => (inR_good.rew_tk us a t (by rw [hd]; exact ht)).len
  have h3 := meanT_len ts sc
  have h4 := inR_good.rew_len us a
  rw [hm] at h2 h3
  rw [hd] at h4
  exact ⟨h2, by simp only at h3; omega⟩
theorem drain_lenT (us : List Int) (a : Int) : (drain (turnR inR) a us).1.length ≤ us.length := by
  have := (inT_good.drained us a).count
  omega
theorem ePut_len {q q' ah ah' : List Int} {a a' sc sc' s : Int} {ts : List Tk} (hp : ePut q a ah sc s = (ts, q', a', ah', sc')) (hq : q.length ≤ 1) : ts.length ≤ 3 := by
  unfold ePut at hp
  split at hp
  · have h1 := congrArg (·.1) hp
    simp only at h1
    rw [← h1, List.length_append, List.length_cons, encF_len]
    have h2 := inT_good.rew_len q a
    have h3 := drain_lenT [isU s] (a + q.length)
    simp only [eOne, List.nil_append, encF_len]
    simp at h3
    omega
  · have h1 := congrArg (·.1) hp
    simp only at h1
    rw [← h1]
    have h3 := drain_lenT (q ++ [isU s]) a
    simp only [eOne, encF_len]
    simp at h3
    omega
theorem eEnd_len {q ah : List Int} {a : Int} {ts : List Tk} (hd : encF inR ah (rewA (turnR inR) a q) = ts) (hq : q.length ≤ 1) : ts.length ≤ 1 := by
  rw [← hd, encF_len]
  have := inT_good.rew_len q a
  omega
theorem lawE_small : ∀ (ss : List Int) (n : Int) (xs : List Int) (sc : Int), ∀ t ∈ (lawE n xs sc ss).1, t.out.length ≤ 8
  | [], n, xs, sc, t, ht => by
    simp only [lawE] at ht
    obtain ⟨t0, h1, rfl⟩ := List.mem_map.1 ht
    unfold encA at h1
    exact encF_small (a := []) (fun t ht => (inT_good.rew_tk xs 0 t ht).len) t0 h1
  | s :: ss, n, xs, sc, t, ht => by
    by_cases hsw : isB s = true ∧ isC s ≠ sc
    · simp only [lawE, if_pos hsw] at ht
      rcases List.mem_append.1 ht with ht | ht
      · obtain ⟨t0, h1, rfl⟩ := List.mem_map.1 ht
        unfold encA at h1
        exact encF_small (a := []) (fun t ht => (inT_good.rew_tk xs 0 t ht).len) t0 h1
      · rcases List.mem_cons.1 ht with rfl | ht
        · simp [swT]
        · exact lawE_small ss _ _ _ t ht
    · simp only [lawE, if_neg hsw] at ht
      exact lawE_small ss _ _ _ t ht
theorem lawE_len : ∀ (ss : List Int) (n : Int) (xs : List Int) (sc : Int), (lawE n xs sc ss).1.length ≤ xs.length + 3 * ss.length
  | [], n, xs, sc => by
    simp only [lawE, List.length_map, encA, encF_len]
    have := inT_good.rew_len xs 0
    omega
  | s :: ss, n, xs, sc => by
    by_cases hsw : isB s = true ∧ isC s ≠ sc
    · simp only [lawE, if_pos hsw, List.length_append, List.length_cons, List.length_map, encA, encF_len]
      have h1 := inT_good.rew_len xs 0
      have h2 := lawE_len ss (n + xs.length) [isU s] (isC s)
      simp at h2
      omega
    · simp only [lawE, if_neg hsw, List.length_cons]
      have h2 := lawE_len ss n (xs ++ [isU s]) sc
      simp at h2
      omega
end Go.Proofs.YtmenjcdmdmngcaaGreatDoor
