/- Texts of this seat, one behind the other: TokSet, MacQ. -/
import Derived.Test.YtikbmagolgcbfaaZ9
import Derived.Laws.OwnMore
import Derived.Test.YtikbmagolgcbfaaZ1
namespace Go.Proofs.Ytikbmagolgcbfaa
set_option linter.unusedVariables false
open Go.RowKit
def shK (d : Int) (t : Tk) : Tk := ⟨t.pos + d, t.size, t.out, t.err⟩
def mixK (d : Int) (k : Nat) (ts : List Tk) : List Tk := (ts.take k).map (shK d) ++ ts.drop k
theorem mixK_len (d : Int) (k : Nat) (ts : List Tk) : (mixK d k ts).length = ts.length := by simp [mixK]; omega
theorem mixK_zero (d : Int) (ts : List Tk) : mixK d 0 ts = ts := by simp [mixK]
theorem mixK_all {d : Int} {k : Nat} {ts : List Tk} (h : ts.length ≤ k) : mixK d k ts = ts.map (shK d) := by
  unfold mixK; rw [List.take_of_length_le h, List.drop_of_length_le h]; simp
theorem mixK_at {d : Int} {k : Nat} {ts : List Tk} (h : k < ts.length) : (mixK d k ts)[k]? = some ts[k] := by
  unfold mixK
  rw [List.getElem?_append_right (by simp; omega)]
  simp [Nat.min_eq_left (Nat.le_of_lt h)]
theorem mixK_step {d : Int} {k : Nat} {ts : List Tk} (h : k < ts.length) : (mixK d k ts).set k (shK d ts[k]) = mixK d (k + 1) ts := by
  unfold mixK
  have hlen : ((ts.take k).map (shK d)).length = k := by simp; omega
  rw [List.take_succ_eq_append_getElem h, List.map_append, List.set_append, if_neg (by omega), hlen, Nat.sub_self, List.drop_eq_getElem_cons h, List.append_assoc]
  rfl
theorem Rd.dropS {w : World} {B : Nat} {A : Option Addr} {xs : List Value} {k m n cap : Nat} (h : Rd w B A xs) (hn : n * m = xs.length) (hk : k ≤ n) (hm : 0 < m) (hc : n ≤ cap) :
    Rd w B (if cap = k then A else A.map (·.add (k * m))) (xs.drop (k * m)) := by
  rcases h with h | ⟨b, off, h1, h2, h3⟩
  · subst h; exact .inl (by simp)
  · by_cases hkk : k = n
    · exact .inl (List.drop_of_length_le (by rw [← hn, hkk]; exact Nat.le_refl _))
    · right
      rw [if_neg (by omega), h1]
      refine ⟨b, off + k * m, ?_, h2, fun j hj => ?_⟩
      · simp only [Option.map_some, Addr.add]
        split
        · rename_i e; rw [e]; rfl
        · rfl
      · rw [Nat.add_assoc, h3 (k * m + j) (by simp at hj; omega), List.getElem?_drop]
theorem TkAt.drop {w : World} {B : Nat} {A : Option Addr} {n c : Nat} {ts : List Tk} (h : TkAt w B A n c ts) (k : Nat) (hk : k ≤ n) : TkAt w B (if c = k then A else A.map (·.add (k * 4))) (n - k) (c - k) (ts.drop k) := by
  obtain ⟨h1, h2, h3, xs, h4, h5⟩ := h
  have hlen := Tks.length h5
  rw [← List.take_append_drop k ts] at h5
  have h6 := h5.split.2
  rw [List.length_take, Nat.min_eq_left (by omega)] at h6
  exact ⟨by simp; omega, by omega, by omega, xs.drop (k * 4), h4.dropS (by omega) hk (by omega) h2, h6⟩
/-- the place of token k, moved -/
theorem OwnTk.setPos {base g n c : Nat} {w : World} {ts : List Tk} (h : OwnTk base w (.slice (some ⟨g, 0, none⟩) n c) ts) {k : Nat} {t : Tk} (hk : ts[k]? = some t) (q : Int) :
    OwnTk base (w.setCell ⟨g, k * 4, none⟩ (.int .i64 q)) (.slice (some ⟨g, 0, none⟩) n c) (ts.set k ⟨q, t.size, t.out, t.err⟩) ∧ base ≤ g := by
  obtain ⟨xs, ho, hx⟩ := h
  obtain ⟨A', c', e, h1, h2⟩ := own_form ho
  injection e with e1 e2 e3
  subst e2
  have hs := ho.stored (k * 4) (.int .i64 q)
  refine ⟨⟨_, by rw [List.length_set]; exact hs.1, (hx.step (by rw [World.size_setCell]; exact Nat.le_refl _) fun b hb hx => ⟨hx, Below.heap_setCell _ _ _ _ (fun e => hx (by show some g = some b; rw [e]))⟩).setPos k t hk⟩, (ho.lt g rfl).1⟩
theorem OwnTk.posAt {base g n c : Nat} {w : World} {ts : List Tk} (h : OwnTk base w (.slice (some ⟨g, 0, none⟩) n c) ts) {k : Nat} {t : Tk} (hk : ts[k]? = some t) :
    w.cell? ⟨g, k * 4, none⟩ = some (.int .i64 t.pos) ∧ w.frozen? ⟨g, k * 4, none⟩ = false := by
  obtain ⟨xs, ho, hx⟩ := h
  obtain ⟨A', c', e, h1, h2⟩ := own_form ho
  injection e with e1 e2 e3
  subst e2
  have hkl := (List.getElem?_eq_some_iff.1 hk).1
  obtain ⟨s, g1, _⟩ := hx.at k hkl
  rw [List.getElem?_eq_getElem hkl] at hk
  injection hk with hk
  rw [hk] at g1
  exact ⟨(ho.cellAt (k * 4) (by omega)).trans g1, ho.frozenAt _⟩
theorem OwnTk.some {base : Nat} {w : World} {v : Value} {ts : List Tk} (h : OwnTk base w v ts) (hn : 0 < ts.length) : ∃ g c, v = .slice (some ⟨g, 0, none⟩) ts.length c := by
  obtain ⟨xs, ho, hx⟩ := h
  rcases ho.2 with ⟨_, h2⟩ | ⟨g, cap, cur, h1, _⟩
  · omega
  · exact ⟨g, cap, h1⟩
/-- tokens moved, plainly -/
theorem Good.rew_shift {rs : List (List Int × List Int)} (h : Good rs) (d : Int) (us : List Int) : ∀ at_ : Int, (rewA rs at_ us).map (shK d) = rewA rs (at_ + d) us := by
  refine h.along (fun us => ∀ at_ : Int, (rewA rs at_ us).map (shK d) = rewA rs (at_ + d) us) (fun _ => by simp [rewA_nil]) ?_ us.length us (Nat.le_refl _)
  intro us s e o hu hs hp ih at_
  rw [rewA_cons hu hs hp.lo, rewA_cons hu hs hp.lo, List.map_cons, ih]
  rw [show at_ + s + d = at_ + d + s from by omega]
  rfl
/-- behind a token all goes on as if nothing stood ahead -/
theorem Good.rew_tail {rs : List (List Int × List Int)} (h : Good rs) (us : List Int) : ∀ (at_ : Int) (n : Nat) (t : Tk), (rewA rs at_ us)[n]? = some t → at_ ≤ t.pos ∧ t.pos < at_ + us.length ∧ (rewA rs at_ us).drop n = rewA rs t.pos (us.drop (t.pos - at_).toNat) := by
  refine h.along (fun us => ∀ (at_ : Int) (n : Nat) (t : Tk), (rewA rs at_ us)[n]? = some t → at_ ≤ t.pos ∧ t.pos < at_ + us.length ∧ (rewA rs at_ us).drop n = rewA rs t.pos (us.drop (t.pos - at_).toNat)) (fun _ _ _ h => by simp [rewA_nil] at h) ?_ us.length us (Nat.le_refl _)
  intro us s e o hu hs hp ih at_ n t ht
  have h1 := hp.lo
  have h2 := hp.hi
  match n with
  | 0 =>
    have h0 := rewA_cons (at_ := at_) hu hs hp.lo
    rw [h0] at ht
    obtain rfl : (⟨at_, s, o, e⟩ : Tk) = t := by simpa using ht
    refine ⟨Int.le_refl _, by show at_ < _; omega, ?_⟩
    show rewA rs at_ us = rewA rs at_ (us.drop (at_ - at_).toNat)
    rw [Int.sub_self]; rfl
  | n + 1 =>
    rw [rewA_cons hu hs hp.lo] at ht ⊢
    obtain ⟨g1, g2, g3⟩ := ih (at_ + s) n t (by simpa using ht)
    rw [List.length_drop] at g2
    refine ⟨by omega, by omega, ?_⟩
    rw [List.drop_succ_cons, g3, List.drop_drop]
    rw [show s.toNat + (t.pos - (at_ + s)).toNat = (t.pos - at_).toNat from by omega]
end Go.Proofs.Ytikbmagolgcbfaa
namespace Go.Proofs.Ytikbmagolgcbfaa
set_option linter.unusedVariables false
theorem joinT_shift (rs : List (List Int × List Int)) (a : List Int) (d : Int) (t : Tk) : joinT rs a (shK d t) = shK d (joinT rs a t) := by
  unfold joinT
  show (if t.err = 0 ∧ joinsR rs a t.out = true then _ else _) = _
  by_cases h : t.err = 0 ∧ joinsR rs a t.out = true
  · rw [if_pos h, if_pos h]; rfl
  · rw [if_neg h, if_neg h]
theorem encF_shift (rs : List (List Int × List Int)) (d : Int) : ∀ (ts : List Tk) (a : List Int), encF rs a (ts.map (shK d)) = (encF rs a ts).map (shK d)
  | [], _ => rfl
  | t :: ts, a => by
    simp only [List.map_cons, encF, joinT_shift, encF_shift rs d ts]
    rfl
theorem enc_further {rs : List (List Int × List Int)} (h : Good (turnR rs)) (us : List Int) (n : Int) : encF rs [] (rewA (turnR rs) n us) = (encA rs us).map (shK n) := by
  unfold encA
  rw [← encF_shift, h.rew_shift, Int.zero_add]
theorem aheadF_next {a : List Int} {ts : List Tk} {K : Nat} (h : K < ts.length) : aheadF a (ts.take (K + 1)) = if ts[K].err = 0 then ts[K].out else aheadF a (ts.take K) := by
  rw [List.take_succ_eq_append_getElem h, aheadF_app]; rfl
theorem encF_pos {rs : List (List Int × List Int)} : ∀ (ts : List Tk) (a : List Int) (t : Tk), t ∈ encF rs a ts → ∃ t' ∈ ts, t'.pos = t.pos
  | [], _, t, h => by cases h
  | x :: ts, a, t, h => by
    simp only [encF, List.mem_cons] at h
    rcases h with rfl | h
    · exact ⟨x, by simp, by unfold joinT; split <;> rfl⟩
    · obtain ⟨t', h1, h2⟩ := encF_pos ts _ t h
      exact ⟨t', by simp [h1], h2⟩
theorem encA_pos {rs : List (List Int × List Int)} (h : Good (turnR rs)) (us : List Int) : ∀ t ∈ encA rs us, 0 ≤ t.pos ∧ t.pos ≤ us.length := by
  intro t ht
  obtain ⟨t', h1, h2⟩ := encF_pos _ _ t ht
  obtain ⟨n, hn⟩ := List.mem_iff_getElem?.1 h1
  have := h.rew_tail us 0 n t' hn
  omega
/-- the first tokens of two rows, with nothing ahead and with something -/
theorem enc_first {rs : List (List Int × List Int)} {a : List Int} {ts : List Tk} (h : 0 < ts.length) : (encF rs [] ts)[0]'(by rw [encF_len]; exact h) = ts[0] ∧ (encF rs a ts)[0]'(by rw [encF_len]; exact h) = joinT rs a ts[0] := by
  cases ts with
  | nil => simp at h
  | cons t ts => exact ⟨joinT_nil rs t, rfl⟩
end Go.Proofs.Ytikbmagolgcbfaa
