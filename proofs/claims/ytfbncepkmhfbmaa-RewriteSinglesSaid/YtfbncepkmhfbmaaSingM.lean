/- Rules of one unit each, plainly: what their rewriting is; a dictionary. No program is named here. -/
import Derived.Test.YtfbncepkmhfbmaaTokM
namespace Go.Proofs.Ytfbncepkmhfbmaa
def look : List (Int × Int) → Int → Option Int
  | [], _ => none
  | p :: ps, z => if p.1 = z then some p.2 else look ps z
def singS (ps : List (Int × Int)) : List (List Int × List Int) := ps.map fun p => ([p.1], [p.2])
theorem look_app : ∀ (ps : List (Int × Int)) (p : Int × Int) (z : Int), look ps p.1 = none → look (ps ++ [p]) z = if z = p.1 then some p.2 else look ps z
  | [], p, z, _ => by
    simp only [List.nil_append, look]
    by_cases h : p.1 = z
    · rw [if_pos h, if_pos h.symm]
    · rw [if_neg h, if_neg (fun e => h e.symm)]
  | q :: ps, p, z, hn => by
    simp only [look] at hn
    by_cases hq : q.1 = p.1
    · rw [if_pos hq] at hn; cases hn
    · rw [if_neg hq] at hn
      simp only [List.cons_append, look]
      by_cases h : q.1 = z
      · rw [if_pos h, if_pos h, if_neg (fun e => hq (by rw [h, e]))]
      · rw [if_neg h, if_neg h]; exact look_app ps p z hn
theorem look_none : ∀ {ps : List (Int × Int)} {z : Int}, look ps z = none ↔ findR (singS ps) [z] < 0 := by
  intro ps z
  rw [findR_neg]
  induction ps with
  | nil => simp [look, singS]
  | cons p ps ih =>
    simp only [look, singS, List.map_cons, List.mem_cons]
    by_cases h : p.1 = z
    · rw [if_pos h]
      constructor
      · intro e; cases e
      · intro e; exact absurd (by rw [h]) (e _ (.inl rfl))
    · rw [if_neg h, ih]
      constructor
      · rintro g r (rfl | hr)
        · intro e; exact h (by simpa using e)
        · exact g r hr
      · intro g r hr; exact g r (.inr hr)
theorem look_at : ∀ (ps : List (Int × Int)) (z k : Int) (K : Nat), findFrom k (singS ps) [z] = k + K → 0 ≤ k → ∃ h : K < ps.length, look ps z = some ps[K].2
  | [], z, k, K, h, hk => by simp [singS, findFrom] at h; omega
  | p :: ps, z, k, K, h, hk => by
    simp only [singS, List.map_cons, findFrom] at h
    by_cases e : p.1 = z
    · rw [if_pos (by rw [e])] at h
      obtain rfl : K = 0 := by omega
      exact ⟨by simp, by simp [look, e]⟩
    · rw [if_neg (fun g => e (by simpa using g))] at h
      match K with
      | 0 =>
        rcases findFrom_eq (singS ps) [z] (k + 1) with ⟨h1, _⟩ | ⟨h1, _, _⟩
        · have : findFrom (k + 1) (singS ps) [z] = k + (0 : Nat) := h; omega
        · have : findFrom (k + 1) (singS ps) [z] = k + (0 : Nat) := h; omega
      | K + 1 =>
        obtain ⟨g1, g2⟩ := look_at ps z (k + 1) K (by show findFrom (k + 1) (singS ps) [z] = _; rw [show findFrom (k + 1) (singS ps) [z] = k + ((K + 1 : Nat) : Int) from h]; omega) (by omega)
        exact ⟨by simp; omega, by simp only [look, if_neg e]; simpa using g2⟩
theorem sing_skip {acc rows : List (Int × Int)} {p : Int × Int} {rs : List (List Int × List Int)} {v : Int} (h : rightFrom (singS acc) (singS (p :: rows)) = rs) (hl : look acc p.1 = some v) : rightFrom (singS acc) (singS rows) = rs := by
  simp only [singS, List.map_cons, rightFrom] at h ⊢
  rw [if_neg] at h
  · exact h
  · rintro ⟨_, _, h3⟩
    have := look_none.2 (show findR (singS acc) [p.1] < 0 from h3)
    rw [this] at hl; cases hl
theorem sing_take {acc rows : List (Int × Int)} {p : Int × Int} {rs : List (List Int × List Int)} (h : rightFrom (singS acc) (singS (p :: rows)) = rs) (hl : look acc p.1 = none) (h1 : 0 ≤ p.1 ∧ p.1 ≤ 255) (h2 : 0 ≤ p.2 ∧ p.2 ≤ 255) : rightFrom (singS (acc ++ [p])) (singS rows) = rs := by
  simp only [singS, List.map_cons, rightFrom, List.map_append, List.map_nil] at h ⊢
  rw [if_pos] at h
  · exact h
  · refine ⟨?_, ?_, look_none.1 hl⟩ <;> (simp [sideB]; omega)
/-- a token of a row of rules of one unit each -/
def TkS (ps : List (Int × Int)) (u : Int) (t : Tk) : Prop := t.size = 1 ∧ ((∃ v, look ps u = some v ∧ t.err = 0 ∧ t.out = [v]) ∨ (look ps u = none ∧ t.err = 3 ∧ t.out = []))
theorem sing_step {ps : List (Int × Int)} (hg : Good (singS ps)) (u : Int) (t : List Int) : ∃ e o, stepT (singS ps) (u :: t) = (1, e, o) ∧ ((∃ v, look ps u = some v ∧ e = 0 ∧ o = [v]) ∨ (look ps u = none ∧ e = 3 ∧ o = [])) := by
  obtain ⟨k, n, o, hl, hls⟩ := hg.long (u :: t)
  rcases hg.step hl with ⟨h1, h0⟩ | ⟨m, h1, h2, h3, h4, K, h5, hK, h6, h7⟩
  · refine ⟨3, [], hg.stepN hl h1, .inr ⟨?_, rfl, rfl⟩⟩
    rw [look_none, findR_neg]
    intro r hr e
    have := hls.max r hr (by rw [e]; simp) (by rw [e]; rfl)
    rw [e] at this; simp at this; omega
  · have hK' : K < ps.length := by simpa [singS] using hK
    have hr : (singS ps)[K] = ([ps[K].1], [ps[K].2]) := by simp [singS]
    rw [hr] at h6 h7
    have hm : m = 1 := by have := congrArg List.length h6; rw [List.length_take, Nat.min_eq_left h3] at this; exact this.symm
    subst hm
    have hu : ps[K].1 = u := by simpa using h6
    have hs := hg.self hK
    rw [hr] at hs
    simp only at hs
    rw [hu] at hs
    obtain ⟨g1, g2⟩ := look_at ps u 0 K (by rw [Int.zero_add]; exact hs) (by omega)
    exact ⟨0, [ps[K].2], by rw [h7, h1]; rfl, .inl ⟨_, g2, rfl, rfl⟩⟩
theorem sing_rew {ps : List (Int × Int)} (hg : Good (singS ps)) : ∀ (us : List Int) (at_ : Int), (rewA (singS ps) at_ us).length = us.length ∧ ∀ (k : Nat) (u : Int) (t : Tk), us[k]? = some u → (rewA (singS ps) at_ us)[k]? = some t → TkS ps u t
  | [], at_ => by rw [rewA_nil]; exact ⟨rfl, fun k u t h => by simp at h⟩
  | u :: us, at_ => by
    obtain ⟨e, o, h1, h2⟩ := sing_step hg u us
    have hr := rewA_cons (at_ := at_) (List.cons_ne_nil u us) h1 (by omega)
    rw [show (1 : Int).toNat = 1 from rfl, List.drop_succ_cons, List.drop_zero] at hr
    obtain ⟨g1, g2⟩ := sing_rew hg us (at_ + 1)
    rw [hr]
    refine ⟨by simp [g1], fun k v t hv ht => ?_⟩
    match k with
    | 0 =>
      obtain rfl : u = v := by simpa using hv
      obtain rfl : (⟨at_, 1, o, e⟩ : Tk) = t := by simpa using ht
      exact ⟨rfl, h2⟩
    | k + 1 => exact g2 k v t (by simpa using hv) (by simpa using ht)
end Go.Proofs.Ytfbncepkmhfbmaa
