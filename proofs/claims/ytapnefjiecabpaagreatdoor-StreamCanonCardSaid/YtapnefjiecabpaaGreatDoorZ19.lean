/- Texts of this seat, one behind the other: TokSet, MacQ, IscM, IscN. -/
import Derived.Test.YtapnefjiecabpaaGreatDoorZ8
import Derived.Laws.OwnMore
import Derived.Test.YtapnefjiecabpaaGreatDoorZ3
import Derived.Test.YtapnefjiecabpaaGreatDoorZ2
namespace Go.Proofs.YtapnefjiecabpaaGreatDoor
set_option linter.unusedVariables false
open Go.RowKit
def shK (d : Int) (t : Tk) : Tk := ⟨t.pos + d, t.size, t.out, t.err⟩
/-- tokens moved, plainly -/
theorem Good.rew_shift {rs : List (List Int × List Int)} (h : Good rs) (d : Int) (us : List Int) : ∀ at_ : Int, (rewA rs at_ us).map (shK d) = rewA rs (at_ + d) us := by
  refine h.along (fun us => ∀ at_ : Int, (rewA rs at_ us).map (shK d) = rewA rs (at_ + d) us) (fun _ => by simp [rewA_nil]) ?_ us.length us (Nat.le_refl _)
  intro us s e o hu hs hp ih at_
  rw [rewA_cons hu hs hp.lo, rewA_cons hu hs hp.lo, List.map_cons, ih]
  rw [show at_ + s + d = at_ + d + s from by omega]
  rfl
end Go.Proofs.YtapnefjiecabpaaGreatDoor
namespace Go.Proofs.YtapnefjiecabpaaGreatDoor
set_option linter.unusedVariables false
theorem joinT_shift (rs : List (List Int × List Int)) (a : List Int) (d : Int) (t : Tk) : joinT rs a (shK d t) = shK d (joinT rs a t) := by
  unfold joinT
  show (if t.err = 0 ∧ joinsR rs a t.out = true then _ else _) = _
  by_cases h : t.err = 0 ∧ joinsR rs a t.out = true
  · rw [if_pos h, if_pos h]; rfl
  · rw [if_neg h, if_neg h]
theorem encF_shift (rs : List (List Int × List Int)) (d : Int) : ∀ (ts : List Tk) (a : List Int), encF rs a (ts.map (shK d)) = (encF rs a ts).map (shK d)
  | [], _ => rfl
  | t :: ts, a => by
    simp only [List.map_cons, encF, joinT_shift, encF_shift rs d ts]
    rfl
theorem enc_further {rs : List (List Int × List Int)} (h : Good (turnR rs)) (us : List Int) (n : Int) : encF rs [] (rewA (turnR rs) n us) = (encA rs us).map (shK n) := by
  unfold encA
  rw [← encF_shift, h.rew_shift, Int.zero_add]
end Go.Proofs.YtapnefjiecabpaaGreatDoor
namespace Go.Proofs.YtapnefjiecabpaaGreatDoor
set_option linter.unusedVariables false
set_option linter.unusedSimpArgs false
set_option maxRecDepth 100000
theorem inT_right : checkR (turnR inR) = (-1, 0) := by rw [inR_turn]; decide +kernel
theorem inR_good : Good inR := good_of inR_right
theorem inT_good : Good (turnR inR) := good_of inT_right
/-- what units mean, the script being sc: and the script behind them -/
def meanU (sc : Int) : List Int → List Int × Int
  | [] => ([], sc)
  | u :: us => if 8192 ≤ u then ((u - 8192) :: (meanU sc us).1, (meanU sc us).2) else if 4096 ≤ u then meanU (u - 4096) us else ((2304 + 128 * sc + u) :: (meanU sc us).1, (meanU sc us).2)
def meanT (sc : Int) : List Tk → List Tk × Int
  | [] => ([], sc)
  | t :: ts => (⟨t.pos, t.size, (meanU sc t.out).1, t.err⟩ :: (meanT (meanU sc t.out).2 ts).1, (meanT (meanU sc t.out).2 ts).2)
theorem meanT_app : ∀ (a b : List Tk) (sc : Int), meanT sc (a ++ b) = ((meanT sc a).1 ++ (meanT (meanT sc a).2 b).1, (meanT (meanT sc a).2 b).2)
  | [], b, sc => rfl
  | t :: a, b, sc => by simp only [List.cons_append, meanT, meanT_app a b]
/-- is it a script's? its unit; its script -/
def isB (s : Int) : Bool := decide (2304 ≤ s) && decide (s < 3456) && decide (s ≠ 2404)
def isU (s : Int) : Int := if isB s = true then s % 128 else if scB s = true then 8192 + s else -1
def isC (s : Int) : Int := (s - 2304) / 128
theorem isB_iff {s : Int} : isB s = true ↔ 2304 ≤ s ∧ s < 3456 ∧ s ≠ 2404 := by simp [isB, and_assoc]
theorem isC_range {s : Int} (h : isB s = true) : 0 ≤ isC s ∧ isC s ≤ 8 := by
  rw [isB_iff] at h; unfold isC; omega
/-- the token of a switch -/
def swT (at_ c : Int) : Tk := ⟨at_, 0, [239, cdC c.toNat], 0⟩
/-- what an Encoder's machine tells of a unit: and what it is then -/
def eOne (q : List Int) (a : Int) (ah : List Int) (u : Int) : List Tk × List Int × Int × List Int :=
  (encF inR ah (drain (turnR inR) a (q ++ [u])).1, (drain (turnR inR) a (q ++ [u])).2.1, a + q.length + 1 - (drain (turnR inR) a (q ++ [u])).2.1.length, aheadF ah (encF inR ah (drain (turnR inR) a (q ++ [u])).1))
def ePut (q : List Int) (a : Int) (ah : List Int) (sc s : Int) : List Tk × List Int × Int × List Int × Int :=
  if isB s = true ∧ isC s ≠ sc then
    (encF inR ah (rewA (turnR inR) a q) ++ swT (a + q.length) (isC s) :: (eOne [] (a + q.length) [] (isU s)).1, (eOne [] (a + q.length) [] (isU s)).2.1, (eOne [] (a + q.length) [] (isU s)).2.2.1, (eOne [] (a + q.length) [] (isU s)).2.2.2, isC s)
  else ((eOne q a ah (isU s)).1, (eOne q a ah (isU s)).2.1, (eOne q a ah (isU s)).2.2.1, (eOne q a ah (isU s)).2.2.2, sc)
/-- what scalars are written as: units xs stand ahead of them, in script sc, the first one at n; and the script behind them -/
def lawE (n : Int) (xs : List Int) (sc : Int) : List Int → List Tk × Int
  | [] => ((encA inR xs).map (shK n), sc)
  | s :: ss => if isB s = true ∧ isC s ≠ sc then ((encA inR xs).map (shK n) ++ swT (n + xs.length) (isC s) :: (lawE (n + xs.length) [isU s] (isC s) ss).1, (lawE (n + xs.length) [isU s] (isC s) ss).2) else lawE n (xs ++ [isU s]) sc ss
/-- behind K scalars an Encoder has told acc -/
def ES (ss : List Int) (K : Nat) (q : List Int) (a : Int) (ah : List Int) (sc : Int) (acc : List Tk) : Prop :=
  (∃ pre n xs t1, (pre ++ (lawE n xs sc (ss.drop K)).1, (lawE n xs sc (ss.drop K)).2) = lawE 0 [] 0 ss ∧ acc = pre ++ encF inR [] t1 ∧ (∀ ys, rewA (turnR inR) n (xs ++ ys) = t1 ++ rewA (turnR inR) a (q ++ ys)) ∧ ah = aheadF [] (encF inR [] t1) ∧ n + (xs.length : Int) = K) ∧
  a + q.length = K ∧ (q = [] ∨ opens (turnR inR) q = true) ∧ ah.length ≤ 8 ∧ 0 ≤ a ∧ 0 ≤ sc ∧ sc ≤ 8
theorem ES.start (ss : List Int) : ES ss 0 [] 0 [] 0 [] := ⟨⟨[], 0, [], [], rfl, rfl, fun ys => by simp, rfl, by simp⟩, by simp, .inl rfl, by simp, by decide, by decide, by decide⟩
theorem inT_small {us rest : List Int} {a : Int} {ts : List Tk} {k : Nat} (hd : drain (turnR inR) a us = (ts, rest, k)) : ∀ t ∈ ts, t.out.length ≤ 8 := by
  have hd' := inT_good.drained us a
  rw [hd] at hd'
  obtain ⟨_, ha, _⟩ := hd'
  have h1 := ha []
  simp only at h1
  exact fun t ht => (inT_good.rew_tk (us ++ []) a t (by rw [h1]; exact List.mem_append.2 (.inl ht))).len
theorem ES.step {ss q q' ah ah' : List Int} {K : Nat} {a a' sc sc' : Int} {acc ts : List Tk} (h : ES ss K q a ah sc acc) (hK : K < ss.length) (hp : ePut q a ah sc (ss.getD K 0) = (ts, q', a', ah', sc')) :
    ES ss (K + 1) q' a' ah' sc' (acc ++ ts) := by
  obtain ⟨⟨pre, n, xs, t1, h1, rfl, h3, rfl, h5⟩, h6, h7, h8, h9, h10⟩ := h
  have e : ss.drop K = ss.getD K 0 :: ss.drop (K + 1) := by rw [List.drop_eq_getElem_cons hK, List.getD_eq_getElem?_getD, List.getElem?_eq_getElem hK]; rfl
  obtain ⟨s, hs⟩ : ∃ s, ss.getD K 0 = s := ⟨_, rfl⟩
  rw [e, hs] at h1
  rw [hs] at hp
  unfold ePut at hp
  by_cases hsw : isB s = true ∧ isC s ≠ sc
  · rw [if_pos hsw] at hp
    simp only [lawE, if_pos hsw] at h1
    simp only [eOne, List.nil_append, List.length_nil] at hp
    obtain ⟨d, hd⟩ : ∃ d, drain (turnR inR) (a + q.length) [isU s] = d := ⟨_, rfl⟩
    obtain ⟨t2, rest, k⟩ := d
    rw [hd] at hp
    simp only [Prod.mk.injEq] at hp
    obtain ⟨rfl, rfl, rfl, rfl, rfl⟩ := hp
    have hD := inT_good.drained [isU s] (a + q.length)
    rw [hd] at hD
    obtain ⟨_, ha, ho, hc, _⟩ := hD
    simp only [List.length_singleton] at ha ho hc
    have hrest := enc_further inT_good xs n
    have h3' := h3 []
    rw [List.append_nil, List.append_nil] at h3'
    have h8' := aheadF_small (a := []) (by simp) (encF_small (rs := inR) (a := []) (inT_small hd))
    refine ⟨⟨pre ++ ((encA inR xs).map (shK n) ++ [swT (n + xs.length) (isC s)]), n + xs.length, [isU s], t2, ?_, ?_, ?_, rfl, by simp; omega⟩, by simp; omega, ho, h8', by omega, isC_range hsw.1⟩
    · rw [← h1]; simp
    · rw [← hrest, h3', encF_app, show a + (q.length : Int) = n + xs.length by omega]; simp
    · intro ys
      rw [show n + (xs.length : Int) = a + q.length by omega, ha ys, show a + (q.length : Int) + ((1 : Nat) : Int) - rest.length = a + (q.length : Int) + ((0 : Nat) : Int) + 1 - rest.length by omega]
  · rw [if_neg hsw] at hp
    simp only [lawE, if_neg hsw] at h1
    simp only [eOne] at hp
    obtain ⟨d, hd⟩ : ∃ d, drain (turnR inR) a (q ++ [isU s]) = d := ⟨_, rfl⟩
    obtain ⟨t2, rest, k⟩ := d
    rw [hd] at hp
    simp only [Prod.mk.injEq] at hp
    obtain ⟨rfl, rfl, rfl, rfl, rfl⟩ := hp
    have hD := inT_good.drained (q ++ [isU s]) a
    rw [hd] at hD
    obtain ⟨_, ha, ho, hc, _⟩ := hD
    simp only [List.length_append, List.length_singleton] at ha ho hc
    have h8' := aheadF_small h8 (encF_small (rs := inR) (a := aheadF [] (encF inR [] t1)) (inT_small hd))
    refine ⟨⟨pre, n, xs ++ [isU s], t1 ++ t2, h1, ?_, ?_, ?_, by simp; omega⟩, by omega, ho, h8', by omega, h10⟩
    · rw [encF_app]; simp
    · intro ys
      rw [List.append_assoc, h3, ← List.append_assoc, ha ys, List.append_assoc, show a + ((q.length + 1 : Nat) : Int) - rest.length = a + q.length + 1 - rest.length by omega]
    · rw [encF_app, aheadF_app]
theorem ES.fin {ss q ah : List Int} {K : Nat} {a sc : Int} {acc ts : List Tk} (h : ES ss K q a ah sc acc) (hK : ss.length ≤ K) (hd : encF inR ah (rewA (turnR inR) a q) = ts) : (acc ++ ts, sc) = lawE 0 [] 0 ss := by
  obtain ⟨⟨pre, n, xs, t1, h1, rfl, h3, rfl, _⟩, _⟩ := h
  rw [List.drop_of_length_le hK] at h1
  simp only [lawE] at h1
  have h3' := h3 []
  rw [List.append_nil, List.append_nil] at h3'
  rw [← h1, ← hd, ← enc_further inT_good xs n, h3', encF_app, List.append_assoc]
end Go.Proofs.YtapnefjiecabpaaGreatDoor
namespace Go.Proofs.YtapnefjiecabpaaGreatDoor
set_option linter.unusedVariables false
set_option linter.unusedSimpArgs false
set_option maxRecDepth 100000
end Go.Proofs.YtapnefjiecabpaaGreatDoor
