/- Texts of this seat, one behind the other: CdVt, CdZ, MchM, StrM, CanM, StrN, StrL, CdWr, MchK, MchE, MchD, CdU8, StrK. -/
import Derived.Test.YtapnefjiecabpaaGreatDoorZ36
import Derived.Test.YtapnefjiecabpaaGreatDoorZ30
import Derived.Test.YtapnefjiecabpaaGreatDoorZ9
import Derived.Test.YtapnefjiecabpaaGreatDoorZ31
import Derived.Test.YtapnefjiecabpaaGreatDoorZ3
import Derived.Test.YtapnefjiecabpaaGreatDoorZ27
import Derived.Test.YtapnefjiecabpaaGreatDoorZ2
import Derived.Test.YtapnefjiecabpaaGreatDoorZ6
import Derived.Test.YtapnefjiecabpaaGreatDoorZ7
import Derived.Test.YtapnefjiecabpaaGreatDoorZ5
namespace Go.Proofs.YtapnefjiecabpaaGreatDoor
set_option linter.unusedVariables false
set_option linter.unusedSimpArgs false
set_option linter.unnecessarySimpa false
open Go.RowKit
/-- a table's machine that reads -/
def DT (k S L : Nat) (w : World) (V : Value) : Prop := ∃ p R B, V = .iface 156 (.agg #[.pointer (some ⟨p, 0, none⟩)]) ∧ Stab S B w (fun W => TrieOK W B R (cdR k)) ∧ S ≤ B ∧ B ≤ p ∧ p < L ∧ L ≤ w.heap.size ∧ MAt w p R [] 0 0
/-- a table's machine that writes -/
def ET (k S L : Nat) (w : World) (V : Value) : Prop := ∃ p T B R, V = .iface 122 (.pointer (some ⟨p, 0, none⟩)) ∧ S ≤ B ∧ p < L ∧ L ≤ w.heap.size ∧ EAtF S (fun _ => False) w B p (cdR k) T R [] 0 0 []
section
variable {k S L : Nat} {w w' : World} {V : Value}
end
end Go.Proofs.YtapnefjiecabpaaGreatDoor
namespace Go.Proofs.YtapnefjiecabpaaGreatDoor
set_option linter.unusedVariables false
set_option linter.unusedSimpArgs false
set_option linter.unnecessarySimpa false
open Go.RowKit
theorem rput_any (p : Nat) (q : List Int) (at_ u : Int) (w : World) (hp : RdrAtT 90 w p q at_) (hq : q.length ≤ 3) (h0 : 0 ≤ at_) (h1 : at_ ≤ 2251799813685248) (hc : 0 ≤ u ∧ u ≤ 255) (hb : ∀ z ∈ q, 0 ≤ z ∧ z ≤ 255)
    (kn : List Tok) (n : Nat) (hd : List Int) (hk : KN at_ (q ++ [u]) = kn) (hn : kn.length = n) (hh : HD (q ++ [u]) = hd) :
    Calls Tryz.prog 191 #[.pointer (some ⟨p, 0, none⟩), .int .i64 u] w (RetPutT 90 w p kn n hd (at_ + q.length + 1 - hd.length)) := by
  have H := Lib.hid (put_rdr p q at_ u w hp hq h0 h1 hc hb kn n hd hk hn hh (by decide))
  obtain ⟨c0, c1⟩ := hc
  have hw : IntKind.u8.wrap u = u := by rw [IntKind.wrap_u8]; omega
  clear hp hb hk hn hh
  go_enter Tryz.func191, Tryz.ntmps191
  go_wp2_with fail
  refine H.out.mono ?_
  rintro e w1 ⟨v, xs, rfl, ho, ht, hr, hg⟩
  have HO := Lib.hid ho
  have HT := Lib.hid ht
  have HR := Lib.hid hr
  have HG := Lib.hid hg
  clear ho ht hr hg H
  go_wp2_with fail
  go_ret
  exact ⟨v, xs, rfl, HO.out, HT.out, HR.out, HG.out⟩
theorem rend_any (p : Nat) (q : List Int) (at_ : Int) (w : World) (hp : RdrAtT 90 w p q at_) (h0 : 0 ≤ at_) (h1 : at_ ≤ 2251799813685248) (kn : List Tok) (n : Nat) (hk : endK q at_ = kn) (hn : kn.length = n) :
    Calls Tryz.prog 189 #[.pointer (some ⟨p, 0, none⟩)] w (RetPutT 90 w p kn n [] (at_ + q.length)) := end_rdr p q at_ w hp h0 h1 kn n hk hn
theorem kn_small {p : Int} {zs : List Int} : ∀ t ∈ (KN p zs).map tkOf, t.out.length ≤ 8 := fun t ht => by
  obtain ⟨x, hx, rfl⟩ := List.mem_map.1 ht
  have := (knownF_out _ _ _ x hx).1
  show x.out.length ≤ 8
  omega
theorem end_small {q : List Int} {p : Int} : ∀ t ∈ (endK q p).map tkOf, t.out.length ≤ 8 := fun t ht => by
  obtain ⟨x, hx, rfl⟩ := List.mem_map.1 ht
  unfold endK at hx
  split at hx
  · cases hx
  · rw [List.mem_singleton] at hx; subst hx; simp [tkOf]
/-- what bytes are read as: what is known, and the end -/
theorem utA_kn (zs : List Int) : utA zs = (KN 0 zs).map tkOf ++ (endK (HD zs) (zs.length - (HD zs).length)).map tkOf := by
  unfold utA
  rw [allF_known zs.length 0 zs (Nat.le_refl _), List.map_append]
  have e : (tkT : Tok → Tk) = tkOf := rfl
  rw [e]
  congr 1
  unfold endK HD
  rw [show (0 : Int) + zs.length - (heldF zs.length zs).length = zs.length - (heldF zs.length zs).length by omega]
theorem HD_mem {zs : List Int} : ∀ z ∈ HD zs, z ∈ zs := heldF_mem _ _
end Go.Proofs.YtapnefjiecabpaaGreatDoor
namespace Go.Proofs.YtapnefjiecabpaaGreatDoor
set_option linter.unusedVariables false
set_option linter.unusedSimpArgs false
/-- what comes of units one by one, and of the end -/
def runM {σ : Type} (put : σ → Int → List Tk × σ) (fin : σ → List Tk) : σ → List Int → List Tk
  | s, [] => fin s
  | s, u :: us => (put s u).1 ++ runM put fin (put s u).2 us
/-- what waits; where it begins; the script -/
structure DSt where
  q : List Int
  a : Int
  sc : Int
/-- .., and what stands ahead -/
structure ESt where
  q : List Int
  a : Int
  ah : List Int
  sc : Int
def D0 : DSt := ⟨[], 0, 0⟩
def E0 : ESt := ⟨[], 0, [], 0⟩
def putD (k : Nat) (s : DSt) (u : Int) : List Tk × DSt :=
  if k = 0 then ((KN s.a (s.q ++ [u])).map tkOf, ⟨HD (s.q ++ [u]), s.a + s.q.length + 1 - (HD (s.q ++ [u])).length, s.sc⟩)
  else if k = 7 then ((meanT s.sc (drain inR s.a (s.q ++ [u])).1).1, ⟨(drain inR s.a (s.q ++ [u])).2.1, s.a + s.q.length + 1 - (drain inR s.a (s.q ++ [u])).2.1.length, (meanT s.sc (drain inR s.a (s.q ++ [u])).1).2⟩)
  else ((drain (cdR k) s.a (s.q ++ [u])).1, ⟨(drain (cdR k) s.a (s.q ++ [u])).2.1, s.a + s.q.length + 1 - (drain (cdR k) s.a (s.q ++ [u])).2.1.length, s.sc⟩)
def finD (k : Nat) (s : DSt) : List Tk := if k = 0 then (endK s.q s.a).map tkOf else if k = 7 then (meanT s.sc (rewA inR s.a s.q)).1 else rewA (cdR k) s.a s.q
def eOneR (rs : List (List Int × List Int)) (q : List Int) (a : Int) (ah : List Int) (u : Int) : List Tk × List Int × Int × List Int :=
  (encF rs ah (drain (turnR rs) a (q ++ [u])).1, (drain (turnR rs) a (q ++ [u])).2.1, a + q.length + 1 - (drain (turnR rs) a (q ++ [u])).2.1.length, aheadF ah (encF rs ah (drain (turnR rs) a (q ++ [u])).1))
def putE (k : Nat) (s : ESt) (u : Int) : List Tk × ESt :=
  if k = 0 then (utE s.a [u], ⟨[], s.a + 1, [], s.sc⟩)
  else if k = 7 then ((ePut s.q s.a s.ah s.sc u).1, ⟨(ePut s.q s.a s.ah s.sc u).2.1, (ePut s.q s.a s.ah s.sc u).2.2.1, (ePut s.q s.a s.ah s.sc u).2.2.2.1, (ePut s.q s.a s.ah s.sc u).2.2.2.2⟩)
  else ((eOneR (cdR k) s.q s.a s.ah u).1, ⟨(eOneR (cdR k) s.q s.a s.ah u).2.1, (eOneR (cdR k) s.q s.a s.ah u).2.2.1, (eOneR (cdR k) s.q s.a s.ah u).2.2.2, s.sc⟩)
def finE (k : Nat) (s : ESt) : List Tk := if k = 0 then [] else if k = 7 then encF inR s.ah (rewA (turnR inR) s.a s.q) else encF (cdR k) s.ah (rewA (turnR (cdR k)) s.a s.q)
/-- behind units: what was told, what is then -/
def toldM {σ : Type} (put : σ → Int → List Tk × σ) : σ → List Int → List Tk × σ
  | s, [] => ([], s)
  | s, u :: us => ((put s u).1 ++ (toldM put (put s u).2 us).1, (toldM put (put s u).2 us).2)
theorem runM_told {σ : Type} (put : σ → Int → List Tk × σ) (fin : σ → List Tk) : ∀ (us : List Int) (s : σ), runM put fin s us = (toldM put s us).1 ++ fin (toldM put s us).2
  | [], s => rfl
  | u :: us, s => by simp only [runM, toldM, runM_told put fin us, List.append_assoc]
theorem tab_run {rs : List (List Int × List Int)} (hg : Good rs) : ∀ (us q : List Int) (a : Int), runM (fun (s : DSt) u => ((drain rs s.a (s.q ++ [u])).1, (⟨(drain rs s.a (s.q ++ [u])).2.1, s.a + s.q.length + 1 - (drain rs s.a (s.q ++ [u])).2.1.length, s.sc⟩ : DSt))) (fun s => rewA rs s.a s.q) ⟨q, a, 0⟩ us = rewA rs a (q ++ us)
  | [], q, a => by simp [runM]
  | u :: us, q, a => by
    simp only [runM]
    rw [tab_run hg us]
    have h := (hg.drained (q ++ [u]) a).all us
    rw [List.append_assoc, List.singleton_append] at h
    rw [h]
    congr 2
    rw [List.length_append, List.length_singleton]
    omega
theorem isc_run : ∀ (us q : List Int) (a sc : Int), runM (putD 7) (finD 7) ⟨q, a, sc⟩ us = (meanT sc (rewA inR a (q ++ us))).1
  | [], q, a, sc => by simp [runM, finD]
  | u :: us, q, a, sc => by
    have h := (inR_good.drained (q ++ [u]) a).all us
    rw [List.append_assoc, List.singleton_append] at h
    simp only [runM]
    show (putD 7 ⟨q, a, sc⟩ u).1 ++ runM (putD 7) (finD 7) (putD 7 ⟨q, a, sc⟩ u).2 us = _
    have e : putD 7 ⟨q, a, sc⟩ u = ((meanT sc (drain inR a (q ++ [u])).1).1, ⟨(drain inR a (q ++ [u])).2.1, a + q.length + 1 - (drain inR a (q ++ [u])).2.1.length, (meanT sc (drain inR a (q ++ [u])).1).2⟩) := rfl
    rw [e, isc_run us, h, meanT_app]
    congr 3
    rw [List.length_append, List.length_singleton]
    congr 1
    omega
theorem utf_run : ∀ (us q : List Int) (a : Int), HD q = q → runM (putD 0) (finD 0) ⟨q, a, 0⟩ us = (KN a (q ++ us)).map tkOf ++ (endK (HD (q ++ us)) (a + (q ++ us).length - (HD (q ++ us)).length)).map tkOf
  | [], q, a, hq => by
    simp only [runM, List.append_nil, hq]
    show (endK q a).map tkOf = _
    rw [KN_q hq]
    simp
  | u :: us, q, a, hq => by
    show (putD 0 ⟨q, a, 0⟩ u).1 ++ runM (putD 0) (finD 0) (putD 0 ⟨q, a, 0⟩ u).2 us = _
    have e : putD 0 ⟨q, a, 0⟩ u = ((KN a (q ++ [u])).map tkOf, ⟨HD (q ++ [u]), a + q.length + 1 - (HD (q ++ [u])).length, 0⟩) := rfl
    rw [e, utf_run us _ _ (HD_HD _)]
    have h1 : q ++ u :: us = (q ++ [u]) ++ us := by simp
    rw [h1, KN_app a (q ++ [u]) us, HD_app (q ++ [u]) us, List.map_append, List.append_assoc]
    have h2 := HD_len (q ++ [u])
    rw [List.length_append, List.length_singleton] at h2
    congr 2
    · rw [List.length_append, List.length_singleton]
      congr 2
      omega
    · congr 2
      simp only [List.length_append, List.length_singleton]
      omega
/-- what bytes are read as, one by one -/
theorem runD_eq {k : Nat} (hk : k < 8) (us : List Int) : runM (putD k) (finD k) D0 us = decL k us := by
  rcases kinds hk with rfl | rfl | ⟨h1, h2⟩
  · have h := utf_run us [] 0 rfl
    rw [List.nil_append] at h
    show _ = utA us
    rw [utA_kn]
    refine h.trans ?_
    rw [show (0 : Int) + us.length - (HD us).length = us.length - (HD us).length by omega]
  · exact isc_run us [] 0 0
  · rw [decL_t h1 h2]
    have h := tab_run (cdR_p h1 h2).good us [] 0
    have e1 : putD k = fun (s : DSt) u => ((drain (cdR k) s.a (s.q ++ [u])).1, (⟨(drain (cdR k) s.a (s.q ++ [u])).2.1, s.a + s.q.length + 1 - (drain (cdR k) s.a (s.q ++ [u])).2.1.length, s.sc⟩ : DSt)) := by
      funext s u; unfold putD; rw [if_neg (by omega), if_neg (by omega)]
    have e2 : finD k = fun s => rewA (cdR k) s.a s.q := by funext s; unfold finD; rw [if_neg (by omega), if_neg (by omega)]
    rw [e1, e2]
    exact h
theorem enc_run {rs : List (List Int × List Int)} (hg : Good (turnR rs)) : ∀ (us q : List Int) (a : Int) (ah : List Int), runM (fun (s : ESt) u => ((eOneR rs s.q s.a s.ah u).1, (⟨(eOneR rs s.q s.a s.ah u).2.1, (eOneR rs s.q s.a s.ah u).2.2.1, (eOneR rs s.q s.a s.ah u).2.2.2, s.sc⟩ : ESt))) (fun s => encF rs s.ah (rewA (turnR rs) s.a s.q)) ⟨q, a, ah, 0⟩ us = encF rs ah (rewA (turnR rs) a (q ++ us))
  | [], q, a, ah => by simp [runM]
  | u :: us, q, a, ah => by
    simp only [runM]
    rw [enc_run hg us]
    have h := (hg.drained (q ++ [u]) a).all us
    rw [List.append_assoc, List.singleton_append] at h
    rw [h, encF_app]
    simp only [eOneR]
    congr 3
    rw [List.length_append, List.length_singleton]
    omega
theorem isc_enc (ss : List Int) : ∀ (us : List Int) (K : Nat) (q : List Int) (a : Int) (ah : List Int) (sc : Int) (acc : List Tk), ES ss K q a ah sc acc → ss.drop K = us → acc ++ runM (putE 7) (finE 7) ⟨q, a, ah, sc⟩ us = (lawE 0 [] 0 ss).1
  | [], K, q, a, ah, sc, acc, h, hd => by
    have h1 := h.fin (by rw [← List.drop_eq_nil_iff]; exact hd) rfl
    rw [← h1]
    rfl
  | u :: us, K, q, a, ah, sc, acc, h, hd => by
    have hK : K < ss.length := by
      rcases Nat.lt_or_ge K ss.length with h1 | h1
      · exact h1
      · rw [List.drop_of_length_le h1] at hd; cases hd
    rw [List.drop_eq_getElem_cons hK] at hd
    injection hd with hd1 hd2
    have hu : ss.getD K 0 = u := by rw [List.getD_eq_getElem?_getD, List.getElem?_eq_getElem hK]; exact hd1
    obtain ⟨ts, q', a', ah', sc', hp⟩ : ∃ ts q' a' ah' sc', ePut q a ah sc u = (ts, q', a', ah', sc') := ⟨_, _, _, _, _, rfl⟩
    have h2 : ES ss (K + 1) q' a' ah' sc' (acc ++ ts) := h.step hK (by rw [hu]; exact hp)
    have h3 := isc_enc ss us (K + 1) q' a' ah' sc' (acc ++ ts) h2 hd2
    rw [← h3, List.append_assoc]
    show acc ++ ((putE 7 ⟨q, a, ah, sc⟩ u).1 ++ runM (putE 7) (finE 7) (putE 7 ⟨q, a, ah, sc⟩ u).2 us) = _
    have e : putE 7 ⟨q, a, ah, sc⟩ u = (ts, ⟨q', a', ah', sc'⟩) := by
      show ((ePut q a ah sc u).1, _) = _
      rw [hp]
    rw [e]
theorem ute_run : ∀ (us q : List Int) (a : Int) (ah : List Int) (sc : Int), runM (putE 0) (finE 0) ⟨q, a, ah, sc⟩ us = utE a us
  | [], q, a, ah, sc => rfl
  | u :: us, q, a, ah, sc => by
    show utE a [u] ++ runM (putE 0) (finE 0) ⟨[], a + 1, [], sc⟩ us = _
    rw [ute_run us]
    rfl
/-- what scalars are written as, one by one -/
theorem runE_eq {k : Nat} (hk : k < 8) (us : List Int) : runM (putE k) (finE k) E0 us = encK k us := by
  rcases kinds hk with rfl | rfl | ⟨h1, h2⟩
  · exact ute_run us [] 0 [] 0
  · exact isc_enc us us 0 [] 0 [] 0 [] (ES.start us) rfl
  · rw [encK_t h1 h2]
    have h := enc_run (rs := cdR k) (cdR_p h1 h2).goodT us [] 0 []
    have e1 : putE k = fun (s : ESt) u => ((eOneR (cdR k) s.q s.a s.ah u).1, (⟨(eOneR (cdR k) s.q s.a s.ah u).2.1, (eOneR (cdR k) s.q s.a s.ah u).2.2.1, (eOneR (cdR k) s.q s.a s.ah u).2.2.2, s.sc⟩ : ESt)) := by
      funext s u; unfold putE; rw [if_neg (by omega), if_neg (by omega)]
    have e2 : finE k = fun s => encF (cdR k) s.ah (rewA (turnR (cdR k)) s.a s.q) := by funext s; unfold finE; rw [if_neg (by omega), if_neg (by omega)]
    rw [e1, e2]
    exact h
end Go.Proofs.YtapnefjiecabpaaGreatDoor
namespace Go.Proofs.YtapnefjiecabpaaGreatDoor
set_option linter.unusedVariables false
set_option linter.unusedSimpArgs false
/-- what is wrong: on which side, where, what -/
structure Flt where
  side : Int
  at_ : Int
  err : Int
def F0 : Flt := ⟨0, 0, 0⟩
/-- what is owed, and what is wrong, behind tokens that are written -/
def toksS (pol : Int) : List Int → Flt → List Tk → List Int × Flt
  | o, f, [] => (o, f)
  | o, f, t :: ts => if f.err ≠ 0 then (o, f) else if t.err = 0 then toksS pol (o ++ t.out.map (· % 256)) f ts else if pol = 0 then toksS pol o ⟨2, t.pos, t.err⟩ ts else if pol = 1 then toksS pol (o ++ [63]) f ts else toksS pol o f ts
theorem toksS_stop {pol : Int} {o : List Int} {f : Flt} (h : f.err ≠ 0) : ∀ ts : List Tk, toksS pol o f ts = (o, f)
  | [] => rfl
  | t :: ts => by rw [toksS, if_pos h]
theorem toksS_app (pol : Int) : ∀ (a b : List Tk) (o : List Int) (f : Flt), toksS pol o f (a ++ b) = toksS pol (toksS pol o f a).1 (toksS pol o f a).2 b
  | [], b, o, f => rfl
  | t :: a, b, o, f => by
    simp only [List.cons_append, toksS]
    by_cases h : f.err ≠ 0
    · rw [if_pos h, if_pos h, toksS_stop h]
    · rw [if_neg h, if_neg h]
      split
      · exact toksS_app pol a b _ _
      · split
        · exact toksS_app pol a b _ _
        · split
          · exact toksS_app pol a b _ _
          · exact toksS_app pol a b _ _
/-- behind scalars that are written, one by one -/
def writeS (k : Nat) (pol : Int) : ESt → List Int → Flt → List Int → ESt × List Int × Flt
  | e, o, f, [] => (e, o, f)
  | e, o, f, u :: us => if f.err ≠ 0 then writeS k pol e o f us else writeS k pol (putE k e u).2 (toksS pol o f (putE k e u).1).1 (toksS pol o f (putE k e u).1).2 us
theorem writeS_stop {k : Nat} {pol : Int} {e : ESt} {o : List Int} {f : Flt} (h : f.err ≠ 0) : ∀ us : List Int, writeS k pol e o f us = (e, o, f)
  | [] => rfl
  | u :: us => by rw [writeS, if_pos h]; exact writeS_stop h us
theorem writeS_snoc (k : Nat) (pol : Int) : ∀ (us : List Int) (e : ESt) (o : List Int) (f : Flt) (u : Int), writeS k pol e o f (us ++ [u]) = writeS k pol (writeS k pol e o f us).1 (writeS k pol e o f us).2.1 (writeS k pol e o f us).2.2 [u]
  | [], e, o, f, u => rfl
  | x :: us, e, o, f, u => by
    simp only [List.cons_append, writeS]
    split
    · exact writeS_snoc k pol us e o f u
    · exact writeS_snoc k pol us _ _ _ u
/-- what is written of a token that is read -/
def outS (pol : Int) (t : Tk) : List Int := if t.err ≠ 0 then (if pol = 1 then [65533] else []) else t.out
/-- behind a token that is read -/
def takeS (k : Nat) (pol : Int) (e : ESt) (o : List Int) (f : Flt) (t : Tk) : ESt × List Int × Flt :=
  let (e1, o1, f1) := writeS k pol e o f (outS pol t)
  if t.err ≠ 0 ∧ pol = 0 ∧ f1.err = 0 then
    let (o2, f2) := toksS pol o1 f1 (finE k e1)
    if f2.err = 0 then (e1, o2, ⟨1, t.pos, t.err⟩) else (e1, o2, f2)
  else (e1, o1, f1)
/-- behind tokens that are read -/
def takesS (k : Nat) (pol : Int) : ESt → List Int → Flt → List Tk → ESt × List Int × Flt
  | e, o, f, [] => (e, o, f)
  | e, o, f, t :: ts => if f.err ≠ 0 then (e, o, f) else takesS k pol (takeS k pol e o f t).1 (takeS k pol e o f t).2.1 (takeS k pol e o f t).2.2 ts
theorem takesS_stop {k : Nat} {pol : Int} {e : ESt} {o : List Int} {f : Flt} (h : f.err ≠ 0) (ts : List Tk) : takesS k pol e o f ts = (e, o, f) := by
  cases ts with
  | nil => rfl
  | cons t ts => rw [takesS, if_pos h]
theorem takesS_app (k : Nat) (pol : Int) : ∀ (a b : List Tk) (e : ESt) (o : List Int) (f : Flt), takesS k pol e o f (a ++ b) = takesS k pol (takesS k pol e o f a).1 (takesS k pol e o f a).2.1 (takesS k pol e o f a).2.2 b
  | [], b, e, o, f => rfl
  | t :: a, b, e, o, f => by
    simp only [List.cons_append, takesS]
    by_cases h : f.err ≠ 0
    · rw [if_pos h, if_pos h, takesS_stop h]
    · rw [if_neg h, if_neg h]
      exact takesS_app k pol a b _ _ _
/-- what becomes of bytes, and what is wrong of them -/
def allS (k1 k2 : Nat) (pol : Int) (us : List Int) : List Int × Flt :=
  let (e, o, f) := takesS k2 pol E0 [] F0 (decL k1 us)
  if f.err ≠ 0 then (o, f) else toksS pol o f (finE k2 e)
end Go.Proofs.YtapnefjiecabpaaGreatDoor
namespace Go.Proofs.YtapnefjiecabpaaGreatDoor
set_option linter.unusedVariables false
set_option linter.unusedSimpArgs false
theorem writeS_app (k : Nat) (pol : Int) : ∀ (a b : List Int) (e : ESt) (o : List Int) (f : Flt), writeS k pol e o f (a ++ b) = writeS k pol (writeS k pol e o f a).1 (writeS k pol e o f a).2.1 (writeS k pol e o f a).2.2 b
  | [], b, e, o, f => rfl
  | x :: a, b, e, o, f => by
    simp only [List.cons_append, writeS]
    split
    · exact writeS_app k pol a b e o f
    · exact writeS_app k pol a b _ _ _
/-- what is owed behind scalars is what is owed behind all their tokens -/
theorem write_told (k : Nat) (pol : Int) : ∀ (us : List Int) (e : ESt) (o : List Int) (f : Flt), (writeS k pol e o f us).2 = toksS pol o f (toldM (putE k) e us).1
  | [], e, o, f => rfl
  | u :: us, e, o, f => by
    by_cases h : f.err ≠ 0
    · rw [writeS_stop h, toksS_stop h]
    · simp only [writeS, toldM]
      rw [if_neg h, write_told k pol us, toksS_app]
theorem write_state (k : Nat) (pol : Int) : ∀ (us : List Int) (e : ESt) (o : List Int) (f : Flt), (writeS k pol e o f us).2.2.err = 0 → (writeS k pol e o f us).1 = (toldM (putE k) e us).2
  | [], e, o, f, _ => rfl
  | u :: us, e, o, f, h => by
    by_cases h0 : f.err ≠ 0
    · rw [writeS_stop h0] at h; exact absurd h h0
    · simp only [writeS, toldM] at h ⊢
      rw [if_neg h0] at h ⊢
      exact write_state k pol us _ _ _ h
theorem takes_good (k : Nat) (pol : Int) : ∀ (ts : List Tk) (e : ESt) (o : List Int) (f : Flt), (∀ t ∈ ts, t.err = 0) → takesS k pol e o f ts = writeS k pol e o f (outsT ts)
  | [], e, o, f, _ => rfl
  | t :: ts, e, o, f, h => by
    have h0 := h t List.mem_cons_self
    have ih := takes_good k pol ts
    by_cases hf : f.err ≠ 0
    · rw [takesS_stop hf, writeS_stop hf]
    · have e1 : takeS k pol e o f t = writeS k pol e o f t.out := by
        unfold takeS outS
        simp [h0]
      rw [takesS, if_neg hf, e1, ih _ _ _ fun x hx => h x (List.mem_cons_of_mem _ hx)]
      show _ = writeS k pol e o f (t.out ++ outsT ts)
      rw [writeS_app]
/-- what is read whole: what becomes of its scalars' tokens -/
theorem all_good {k1 k2 : Nat} (hk : k2 < 8) (pol : Int) (us : List Int) (h : ∀ t ∈ decL k1 us, t.err = 0) : allS k1 k2 pol us = toksS pol [] F0 (encK k2 (outsT (decL k1 us))) := by
  unfold allS
  rw [takes_good k2 pol _ _ _ _ h, ← runE_eq hk, runM_told, toksS_app]
  have h1 := write_told k2 pol (outsT (decL k1 us)) E0 [] F0
  have h2 := write_state k2 pol (outsT (decL k1 us)) E0 [] F0
  obtain ⟨e, o, f, hw⟩ : ∃ e o f, writeS k2 pol E0 [] F0 (outsT (decL k1 us)) = (e, o, f) := ⟨_, _, _, rfl⟩
  rw [hw] at h1 h2 ⊢
  rw [← h1]
  simp only at h2 ⊢
  by_cases hf : f.err ≠ 0
  · rw [if_pos hf, toksS_stop hf]
  · rw [if_neg hf, h2 (by simpa using hf)]
theorem toks_whole : ∀ (ts : List Tk) (o : List Int), (∀ t ∈ ts, t.err = 0) → toksS 0 o F0 ts = (o ++ (outsT ts).map (· % 256), F0)
  | [], o, _ => by simp [toksS, outsT]
  | t :: ts, o, h => by
    rw [toksS, if_neg (by simp [F0]), if_pos (h t List.mem_cons_self), toks_whole ts _ fun x hx => h x (List.mem_cons_of_mem _ hx)]
    show _ = (o ++ (t.out ++ outsT ts).map (· % 256), F0)
    rw [List.map_append, List.append_assoc]
theorem toks_bad : ∀ (ts : List Tk) (o : List Int), ¬ (∀ t ∈ ts, t.err = 0) → ∃ (j : Nat) (h : j < ts.length), (∀ t ∈ ts.take j, t.err = 0) ∧ ts[j].err ≠ 0 ∧ toksS 0 o F0 ts = (o ++ (outsT (ts.take j)).map (· % 256), ⟨2, ts[j].pos, ts[j].err⟩)
  | [], o, h => absurd (by simp) h
  | t :: ts, o, h => by
    by_cases h0 : t.err = 0
    · obtain ⟨j, hj, g1, g2, g3⟩ := toks_bad ts (o ++ t.out.map (· % 256)) (fun hx => h fun x hx2 => by
        rcases List.mem_cons.1 hx2 with rfl | hx2
        · exact h0
        · exact hx x hx2)
      refine ⟨j + 1, by simp; omega, ?_, by simpa using g2, ?_⟩
      · intro x hx
        rw [List.take_succ_cons] at hx
        rcases List.mem_cons.1 hx with rfl | hx
        · exact h0
        · exact g1 x hx
      · rw [toksS, if_neg (by simp [F0]), if_pos h0, g3, List.take_succ_cons]
        show _ = (o ++ (t.out ++ outsT (ts.take j)).map (· % 256), _)
        rw [List.map_append, List.append_assoc]
        simp
    · refine ⟨0, by simp, by simp, by simpa using h0, ?_⟩
      rw [toksS, if_neg (by simp [F0]), if_neg h0, if_pos rfl, toksS_stop (by simpa using h0)]
      simp [outsT]
/-- rules of one unit each: each unit is a token -/
theorem one_shut {ts : List (List Int × List Int)} (hg : Good ts) (h1 : ∀ r ∈ ts, r.1.length = 1) (u : Int) : opens ts [u] = false := by
  obtain ⟨k, n, o, hl, hls⟩ := hg.long [u]
  unfold opens
  rw [hl]
  show o = false
  cases ho : o with
  | false => rfl
  | true =>
    obtain ⟨r, hr, h2, _⟩ := hls.op.1 ho
    have := h1 r hr
    simp at h2
    omega
theorem one_split {ts : List (List Int × List Int)} (hg : Good ts) (h1 : ∀ r ∈ ts, r.1.length = 1) (u : Int) (us : List Int) (a : Int) : rewA ts a (u :: us) = rewA ts a [u] ++ rewA ts (a + 1) us ∧ (rewA ts a [u]).length = 1 := by
  have hD := hg.drained [u] a
  obtain ⟨t, r, n, hd⟩ : ∃ t r n, drain ts a [u] = (t, r, n) := ⟨_, _, _, rfl⟩
  rw [hd] at hD
  obtain ⟨⟨pre, htl⟩, hall, hop, hc, -⟩ := hD
  simp only at htl hall hop hc
  have hr : r = [] := by
    cases r with
    | nil => rfl
    | cons y ys =>
      have e : pre = [] ∧ y = u ∧ ys = [] := by
        cases pre with
        | nil => simpa [eq_comm] using htl
        | cons p ps => simp at htl
      obtain ⟨-, rfl, rfl⟩ := e
      rcases hop with h | h
      · cases h
      · rw [one_shut hg h1] at h; cases h
  subst hr
  have e1 := hall us
  have e2 := hall []
  simp [rewA_nil] at e1 e2
  have hne := rewA_ne (rs := ts) (at_ := a) (us := [u]) (by simp)
  refine ⟨by rw [e1, e2], ?_⟩
  rw [e2] at hne ⊢
  have := List.length_pos_iff.2 hne
  simp at hc
  omega
theorem one_app {ts : List (List Int × List Int)} (hg : Good ts) (h1 : ∀ r ∈ ts, r.1.length = 1) : ∀ (xs ys : List Int) (a : Int), rewA ts a (xs ++ ys) = rewA ts a xs ++ rewA ts (a + xs.length) ys ∧ (rewA ts a xs).length = xs.length
  | [], ys, a => by simp [rewA_nil]
  | x :: xs, ys, a => by
    obtain ⟨g1, g2⟩ := one_app hg h1 xs ys (a + 1)
    obtain ⟨e1, e2⟩ := one_split hg h1 x (xs ++ ys) a
    obtain ⟨e3, -⟩ := one_split hg h1 x xs a
    rw [List.cons_append, e1, e3, g1, List.append_assoc, show a + 1 + (xs.length : Int) = a + ((x :: xs).length : Int) by simp; omega]
    exact ⟨rfl, by rw [List.length_append, e2, g2]; simp; omega⟩
/-- each scalar has a token of its own -/
def OneEach (k : Nat) : Prop := ∀ ss : List Int, (encK k ss).length = ss.length ∧ ∀ j, j ≤ ss.length → (encK k ss).take j = encK k (ss.take j)
theorem oneEach_t {k : Nat} (h1 : 1 ≤ k) (h5 : k ≤ 5) : OneEach k := by
  intro ss
  have hs := cdR_s h1 h5
  have ho : ∀ r ∈ turnR (cdR k), r.1.length = 1 := fun r hr => by
    obtain ⟨q, hq, rfl⟩ := turnR_mem hr
    exact hs.one q hq
  have hl : ∀ xs, (encK k xs).length = xs.length := fun xs => by
    rw [encK_t h1 (by omega)]
    unfold encA
    rw [encF_len]
    have := (one_app hs.back ho xs [] 0).2
    exact this
  refine ⟨hl ss, fun j hj => ?_⟩
  have e : encK k ss = encK k (ss.take j) ++ encF (cdR k) (aheadF [] (encF (cdR k) [] (rewA (turnR (cdR k)) 0 (ss.take j)))) (rewA (turnR (cdR k)) (0 + (ss.take j).length) (ss.drop j)) := by
    rw [encK_t h1 (by omega), encK_t h1 (by omega)]
    unfold encA
    rw [← encF_app, ← (one_app hs.back ho (ss.take j) (ss.drop j) 0).1, List.take_append_drop]
  have hl2 := hl (ss.take j)
  rw [List.length_take, Nat.min_eq_left hj] at hl2
  rw [e, List.take_append_of_le_length (by omega), List.take_of_length_le (by omega)]
theorem outs_len8 : ∀ {ts : List Tk}, (∀ t ∈ ts, t.out.length ≤ 8) → (outsT ts).length ≤ 8 * ts.length
  | [], _ => by simp [outsT]
  | t :: ts, h => by
    have h0 := h t List.mem_cons_self
    have ih := outs_len8 fun x hx => h x (List.mem_cons_of_mem _ hx)
    show (t.out ++ outsT ts).length ≤ _
    rw [List.length_append, List.length_cons]
    omega
/-- a table's bytes -/
def bytesB (rs : List (List Int × List Int)) : Bool := rs.all fun r => r.1.all fun u => decide (0 ≤ u ∧ u ≤ 255)
theorem enc_bytes {k : Nat} (h1 : 1 ≤ k) (h6 : k ≤ 6) (hb : bytesB (cdR k) = true) (ss : List Int) (h : ∀ t ∈ encK k ss, t.err = 0) : ∀ u ∈ outsT (encK k ss), 0 ≤ u ∧ u ≤ 255 := by
  rw [encK_t h1 h6] at h ⊢
  obtain ⟨qs, g1, g2, -, -⟩ := enc_shape (rs := cdR k) (cdR_p h1 h6).goodT (fun t hm => by obtain ⟨r, hr, rfl⟩ := turnR_mem hm; exact hr) ss 0 [] h
  unfold encA
  rw [g2]
  intro u hu
  obtain ⟨q, hq, hu2⟩ := List.mem_flatMap.1 hu
  exact of_decide_eq_true (List.all_eq_true.1 (List.all_eq_true.1 hb q (g1 q hq)) u hu2)
theorem mod_bytes : ∀ {zs : List Int}, (∀ u ∈ zs, 0 ≤ u ∧ u ≤ 255) → zs.map (· % 256) = zs
  | [], _ => rfl
  | z :: zs, h => by
    have h0 := h z List.mem_cons_self
    rw [List.map_cons, mod_bytes fun u hu => h u (List.mem_cons_of_mem _ hu)]
    congr 1
    omega
theorem utBytes {ss : List Int} (hs : ∀ s ∈ ss, scB s = true) : ∀ u ∈ ss.flatMap encL, 0 ≤ u ∧ u ≤ 255 := fun u hu => by
  obtain ⟨s, h1, h2⟩ := List.mem_flatMap.1 hu
  exact encL_bytes s (hs s h1) u h2
theorem ut_dec {ss : List Int} (hs : ∀ s ∈ ss, scB s = true) : outsT (decL 0 (ss.flatMap encL)) = ss ∧ ∀ t ∈ decL 0 (ss.flatMap encL), t.err = 0 := by
  have h := ut_reads ss (ss.flatMap encL).length 0 hs (Nat.le_refl _)
  have e : decL 0 (ss.flatMap encL) = (allF (ss.flatMap encL).length 0 (ss.flatMap encL)).map tkT := rfl
  rw [e, tk_outs]
  refine ⟨h.1, fun t ht => ?_⟩
  obtain ⟨x, hx, rfl⟩ := List.mem_map.1 ht
  exact h.2 x hx
/-- all scalars, from a table's bytes to UTF-8 -/
theorem tab_out {k : Nat} (h1 : 1 ≤ k) (h5 : k ≤ 6) (ss : List Int) (hs : ∀ s ∈ ss, scB s = true) (h : ∀ t ∈ encK k ss, t.err = 0) : allS k 0 0 (outsT (encK k ss)) = (ss.flatMap encL, F0) := by
  have hp := cdR_p h1 h5
  have hb : outsT (decL k (outsT (encK k ss))) = ss ∧ ∀ t ∈ decL k (outsT (encK k ss)), t.err = 0 := by
    rw [encK_t h1 h5] at h ⊢
    rw [decL_t h1 h5]
    exact table_back hp.good hp.goodT hp.closed ss h 0
  rw [all_good (by decide) 0 _ hb.2, hb.1]
  have h0 := utE_ok 0 ss hs
  show toksS 0 [] F0 (utE 0 ss) = _
  rw [toks_whole _ _ h0, (utE_good 0 ss h0).2, mod_bytes (utBytes hs)]
  rfl
/-- from UTF-8 to a codec of one scalar each, and back -/
theorem canon_plain {k : Nat} (h1 : 1 ≤ k) (h5 : k ≤ 5) (hb : bytesB (cdR k) = true) (ss : List Int) (hs : ∀ s ∈ ss, scB s = true) :
    ∃ x f, allS 0 k 0 (ss.flatMap encL) = (x, f) ∧ (∀ u ∈ x, 0 ≤ u ∧ u ≤ 255) ∧ x.length ≤ 8 * ss.length ∧ ((f = F0 ∧ allS k 0 0 x = (ss.flatMap encL, F0)) ∨ (f.err ≠ 0 ∧ f.side = 2 ∧ ∃ j, j ≤ ss.length ∧ allS k 0 0 x = ((ss.take j).flatMap encL, F0))) := by
  obtain ⟨d1, d2⟩ := ut_dec hs
  rw [all_good (show k < 8 by omega) 0 _ d2, d1]
  obtain ⟨hl, ht⟩ := oneEach_t h1 h5 ss
  have hsm : ∀ zs : List Int, (outsT (encK k zs)).length ≤ 8 * zs.length := fun zs => by
    have h8 : ∀ t ∈ encK k zs, t.out.length ≤ 8 := by
      rw [encK_t h1 (by omega)]
      exact encF_small fun t ht => (cdR_p h1 (by omega)).goodT.rew_tk zs 0 t ht |>.len
    have := outs_len8 h8
    rw [(oneEach_t h1 h5 zs).1] at this
    exact this
  by_cases hall : ∀ t ∈ encK k ss, t.err = 0
  · have hby := enc_bytes h1 (by omega) hb ss hall
    rw [toks_whole _ _ hall, mod_bytes hby, List.nil_append]
    exact ⟨_, _, rfl, hby, hsm ss, .inl ⟨rfl, tab_out h1 (by omega) ss hs hall⟩⟩
  · obtain ⟨j, hj, g1, g2, g3⟩ := toks_bad (encK k ss) [] hall
    rw [ht j (by omega)] at g1 g3
    have hby := enc_bytes h1 (by omega) hb (ss.take j) g1
    rw [g3, mod_bytes hby, List.nil_append]
    exact ⟨_, _, rfl, hby, by have := hsm (ss.take j); rw [List.length_take] at this; omega, .inr ⟨g2, rfl, j, by omega, tab_out h1 (by omega) (ss.take j) (fun s hx => hs s (List.mem_of_mem_take hx)) g1⟩⟩
theorem viet_bytes : bytesB (cdR 2) = true ∧ bytesB (cdR 3) = true ∧ bytesB (cdR 4) = true := by decide +kernel
theorem flat_take (ss : List Int) (j : Nat) : (ss.take j).flatMap encL = (ss.flatMap encL).take ((ss.take j).flatMap encL).length := by
  have e : ss.flatMap encL = (ss.take j).flatMap encL ++ (ss.drop j).flatMap encL := by rw [← List.flatMap_append, List.take_append_drop]
  rw [e, List.take_append_of_le_length (Nat.le_refl _), List.take_length]
end Go.Proofs.YtapnefjiecabpaaGreatDoor
namespace Go.Proofs.YtapnefjiecabpaaGreatDoor
set_option linter.unusedVariables false
set_option linter.unusedSimpArgs false
/-- both machines, what is owed, what is wrong; flushed, closed -/
structure SSt where
  d : DSt
  e : ESt
  o : List Int
  f : Flt
  fl : Bool
  cl : Bool
def S0 : SSt := ⟨D0, E0, [], F0, false, false⟩
/-- behind a byte -/
def byteS (k1 k2 : Nat) (pol : Int) (s : SSt) (u : Int) : SSt :=
  { s with d := (putD k1 s.d u).2, e := (takesS k2 pol s.e s.o s.f (putD k1 s.d u).1).1, o := (takesS k2 pol s.e s.o s.f (putD k1 s.d u).1).2.1, f := (takesS k2 pol s.e s.o s.f (putD k1 s.d u).1).2.2 }
/-- behind bytes, as long as there is room: how many were taken -/
def bytesS (k1 k2 : Nat) (pol : Int) (room : Int) : SSt → List Int → SSt × Int
  | s, [] => (s, 0)
  | s, u :: us => if (s.o.length : Int) < room ∧ s.f.err = 0 then ((bytesS k1 k2 pol room (byteS k1 k2 pol s u) us).1, (bytesS k1 k2 pol room (byteS k1 k2 pol s u) us).2 + 1) else (s, 0)
/-- what is paid: bytes, what is told, what is then -/
def payS (room : Int) (s : SSt) : List Int × Int × SSt :=
  (s.o.take room.toNat, if s.o.drop room.toNat ≠ [] then 4 else s.f.err, { s with o := s.o.drop room.toNat, cl := s.cl || (decide (s.o.drop room.toNat = []) && decide (s.f.err ≠ 0)) })
/-- Feed: bytes, how many were taken, what is told, what is then -/
def feedS (k1 k2 : Nat) (pol room : Int) (s : SSt) (us : List Int) : List Int × Int × Int × SSt :=
  if s.cl = true ∨ s.fl = true then ([], 0, 5, s) else if room < 16 then ([], 0, 9, s)
  else ((payS room (bytesS k1 k2 pol room s us).1).1, (bytesS k1 k2 pol room s us).2, (payS room (bytesS k1 k2 pol room s us).1).2.1, (payS room (bytesS k1 k2 pol room s us).1).2.2)
/-- behind the end -/
def endS (k1 k2 : Nat) (pol : Int) (s : SSt) : SSt :=
  if s.fl = true ∨ s.f.err ≠ 0 then { s with fl := true }
  else
    let t := takesS k2 pol s.e s.o s.f (finD k1 s.d)
    if t.2.2.err ≠ 0 then { s with e := t.1, o := t.2.1, f := t.2.2, fl := true }
    else { s with e := t.1, o := (toksS pol t.2.1 t.2.2 (finE k2 t.1)).1, f := (toksS pol t.2.1 t.2.2 (finE k2 t.1)).2, fl := true }
/-- Flush -/
def flushS (k1 k2 : Nat) (pol room : Int) (s : SSt) : List Int × Int × SSt :=
  if s.cl = true then ([], 5, s) else if room < 16 then ([], 9, s)
  else ((payS room (endS k1 k2 pol s)).1, (payS room (endS k1 k2 pol s)).2.1, { (payS room (endS k1 k2 pol s)).2.2 with cl := (payS room (endS k1 k2 pol s)).2.2.cl || decide ((payS room (endS k1 k2 pol s)).2.1 = 0) })
theorem one_drain {rs : List (List Int × List Int)} (hg : Good rs) (h1 : ∀ r ∈ rs, r.1.length = 1) (u a : Int) : (drain rs a [u]).1 = rewA rs a [u] ∧ (drain rs a [u]).2.1 = [] := by
  have hD := hg.drained [u] a
  obtain ⟨t, r, n, hd⟩ : ∃ t r n, drain rs a [u] = (t, r, n) := ⟨_, _, _, rfl⟩
  rw [hd] at hD ⊢
  obtain ⟨⟨pre, htl⟩, hall, hop, hc, -⟩ := hD
  simp only at htl hall hop hc ⊢
  have hr : r = [] := by
    cases r with
    | nil => rfl
    | cons y ys =>
      have e : pre = [] ∧ y = u ∧ ys = [] := by
        cases pre with
        | nil => simpa [eq_comm] using htl
        | cons p ps => simp at htl
      obtain ⟨-, rfl, rfl⟩ := e
      rcases hop with h | h
      · cases h
      · rw [one_shut hg h1] at h; cases h
  subst hr
  have e2 := hall []
  simp [rewA_nil] at e2
  exact ⟨e2.symm, rfl⟩
theorem th_one : ∀ r ∈ cdR 5, r.1.length = 1 := by
  have h : ((cdR 5).all fun r => decide (r.1.length = 1)) = true := by decide +kernel
  exact fun r hr => of_decide_eq_true (List.all_eq_true.1 h r hr)
theorem put5 (a u : Int) (o : List Int) (e : Int) (h : stepT (cdR 5) [u] = (1, e, o)) : putD 5 ⟨[], a, 0⟩ u = ([⟨a, 1, o, e⟩], ⟨[], a + 1, 0⟩) := by
  obtain ⟨h1, h2⟩ := one_drain (cdR_p (by decide) (by decide)).good th_one u a
  unfold putD
  rw [if_neg (by decide), if_neg (by decide)]
  simp only [List.nil_append]
  rw [h1, h2, rewA_cons (by simp) h (by omega)]
  simp [rewA_nil]
/-- the law's examples -/
theorem ex_all : allS 1 0 0 [65, 128] = ([65], ⟨1, 1, 3⟩) := by
  have h : decL 1 [65, 128] = [⟨0, 1, [65], 0⟩, ⟨1, 1, [], 3⟩] := by
    rw [decL_t (by decide) (by decide)]
    rw [rewA_cons (o := [65]) (s := 1) (e := 0) (by simp) (by decide +kernel) (by omega)]
    show _ :: rewA (cdR 1) 1 [128] = _
    rw [rewA_cons (o := []) (s := 1) (e := 3) (by simp) (by decide +kernel) (by omega)]
    show _ :: _ :: rewA (cdR 1) 2 [] = _
    rw [rewA_nil]
  unfold allS
  rw [h]
  first | rfl | (dsimp only; kernel_rfl)
theorem ex_feed : feedS 5 0 1 16 S0 [161, 219] = ([224, 184, 129, 239, 191, 189], 2, 0, ⟨⟨[], 2, 0⟩, ⟨[], 2, [], 0⟩, [], F0, false, false⟩) := by
  have h1 : putD 5 D0 161 = ([⟨0, 1, [3585], 0⟩], ⟨[], 1, 0⟩) := put5 0 161 [3585] 0 (by decide +kernel)
  have h2 : putD 5 ⟨[], 1, 0⟩ 219 = ([⟨1, 1, [], 3⟩], ⟨[], 2, 0⟩) := put5 1 219 [] 3 (by decide +kernel)
  have b1 : byteS 5 0 1 S0 161 = ⟨⟨[], 1, 0⟩, ⟨[], 1, [], 0⟩, [224, 184, 129], F0, false, false⟩ := by
    unfold byteS
    rw [show putD 5 S0.d 161 = _ from h1]; kernel_rfl
  have b2 : byteS 5 0 1 ⟨⟨[], 1, 0⟩, ⟨[], 1, [], 0⟩, [224, 184, 129], F0, false, false⟩ 219 = ⟨⟨[], 2, 0⟩, ⟨[], 2, [], 0⟩, [224, 184, 129, 239, 191, 189], F0, false, false⟩ := by
    unfold byteS
    simp only [h2]; kernel_rfl
  unfold feedS
  rw [if_neg (by decide), if_neg (by decide)]
  simp only [bytesS]
  rw [if_pos (by decide), b1, if_pos (by decide), b2]
  rfl
theorem ex_flush : flushS 5 0 1 16 ⟨⟨[], 2, 0⟩, ⟨[], 2, [], 0⟩, [], F0, false, false⟩ = ([], 0, ⟨⟨[], 2, 0⟩, ⟨[], 2, [], 0⟩, [], F0, true, true⟩) := by
  have h : finD 5 ⟨[], 2, 0⟩ = [] := by unfold finD; rw [if_neg (by decide), if_neg (by decide), rewA_nil]
  have e : endS 5 0 1 ⟨⟨[], 2, 0⟩, ⟨[], 2, [], 0⟩, [], F0, false, false⟩ = ⟨⟨[], 2, 0⟩, ⟨[], 2, [], 0⟩, [], F0, true, false⟩ := by
    unfold endS
    rw [if_neg (by decide), h]
    rfl
  unfold flushS
  rw [if_neg (by decide), if_neg (by decide), e]
  rfl
theorem ex_closed (k1 k2 : Nat) (pol room : Int) (s : SSt) (us : List Int) (h : s.cl = true) : feedS k1 k2 pol room s us = ([], 0, 5, s) := by unfold feedS; rw [if_pos (.inl h)]
end Go.Proofs.YtapnefjiecabpaaGreatDoor
namespace Go.Proofs.YtapnefjiecabpaaGreatDoor
set_option linter.unusedVariables false
set_option linter.unusedSimpArgs false
/-- what is wrong is told by a side and an error at once -/
def FltOK (f : Flt) : Prop := f.side = 0 ↔ f.err = 0
theorem toksS_ok {pol : Int} : ∀ (ts : List Tk) (o : List Int) (f : Flt), FltOK f → FltOK (toksS pol o f ts).2
  | [], o, f, h => h
  | t :: ts, o, f, h => by
    unfold toksS
    split
    · exact h
    · split
      · exact toksS_ok ts _ _ h
      · rename_i h1 h2
        split
        · exact toksS_ok ts _ _ ⟨fun e => absurd (show (2 : Int) = 0 from e) (by decide), fun e => absurd e h2⟩
        · split
          · exact toksS_ok ts _ _ h
          · exact toksS_ok ts _ _ h
theorem toksS_len {pol : Int} : ∀ (ts : List Tk) (o : List Int) (f : Flt), (∀ t ∈ ts, t.out.length ≤ 8) → (toksS pol o f ts).1.length ≤ o.length + 8 * ts.length
  | [], o, f, h => by simp [toksS]
  | t :: ts, o, f, h => by
    have h0 := h t List.mem_cons_self
    have ih := fun o f => toksS_len (pol := pol) ts o f fun x hx => h x (List.mem_cons_of_mem _ hx)
    unfold toksS
    split
    · simp
    · split
      · have := ih (o ++ t.out.map (· % 256)) f; simp only [List.length_append, List.length_map, List.length_cons] at this ⊢; omega
      · split
        · have := ih o ⟨2, t.pos, t.err⟩; simp only [List.length_cons] at this ⊢; omega
        · split
          · have := ih (o ++ [63]) f; simp only [List.length_append, List.length_cons, List.length_nil] at this ⊢; omega
          · have := ih o f; simp only [List.length_cons] at this ⊢; omega
theorem drain_small {rs : List (List Int × List Int)} (hg : Good rs) (us : List Int) (a : Int) : ∀ t ∈ (drain rs a us).1, t.out.length ≤ 8 := by
  have h1 := (hg.drained us a).all []
  exact fun t ht => (hg.rew_tk (us ++ []) a t (by rw [h1]; exact List.mem_append.2 (.inl ht))).len
theorem putD_small {k : Nat} (h6 : k ≤ 6) (s : DSt) (u : Int) : ∀ t ∈ (putD k s u).1, t.out.length ≤ 8 := by
  unfold putD
  by_cases h0 : k = 0
  · rw [if_pos h0]; exact kn_small
  · rw [if_neg h0, if_neg (by omega)]; exact drain_small (cdR_p (by omega) h6).good _ _
theorem putD_len {k : Nat} (h6 : k ≤ 6) (s : DSt) (u : Int) (hq : s.q.length ≤ 7) : (putD k s u).1.length ≤ 8 := by
  unfold putD
  by_cases h0 : k = 0
  · rw [if_pos h0]
    have := KN_len s.a (s.q ++ [u])
    simp only [List.length_map, List.length_append, List.length_singleton] at this ⊢
    omega
  · rw [if_neg h0, if_neg (by omega)]
    have := ((cdR_p (show 1 ≤ k by omega) h6).good.drained (s.q ++ [u]) s.a).count
    simp only [List.length_append, List.length_singleton] at this ⊢
    omega
theorem putD_a {k : Nat} (h6 : k ≤ 6) (s : DSt) (u : Int) : (putD k s u).2.a + ((putD k s u).2.q.length : Int) = s.a + s.q.length + 1 := by
  unfold putD
  by_cases h0 : k = 0
  · rw [if_pos h0]; simp only; omega
  · rw [if_neg h0, if_neg (by omega)]; simp only; omega
theorem finD_small {k : Nat} (h6 : k ≤ 6) (s : DSt) : ∀ t ∈ finD k s, t.out.length ≤ 8 := by
  unfold finD
  by_cases h0 : k = 0
  · rw [if_pos h0]; exact end_small
  · rw [if_neg h0, if_neg (by omega)]; exact rewA_out (cdR_p (by omega) h6).good _ _
theorem finD_len {k : Nat} (h6 : k ≤ 6) (s : DSt) (hq : s.q.length ≤ 7) : (finD k s).length ≤ 8 := by
  unfold finD
  by_cases h0 : k = 0
  · rw [if_pos h0, List.length_map]; unfold endK; split <;> simp
  · rw [if_neg h0, if_neg (by omega)]; have := (cdR_p (show 1 ≤ k by omega) h6).good.rew_len s.q s.a; omega
theorem putE_small {k : Nat} (h6 : k ≤ 6) (s : ESt) (u : Int) : ∀ t ∈ (putE k s u).1, t.out.length ≤ 8 := by
  unfold putE
  by_cases h0 : k = 0
  · rw [if_pos h0]; exact fun t ht => by have := utE_small s.a [u] t ht; omega
  · rw [if_neg h0, if_neg (by omega)]; exact encF_out _ _ _ (drain_small (cdR_p (by omega) h6).goodT _ _)
theorem putE_len {k : Nat} (h6 : k ≤ 6) (s : ESt) (u : Int) (hq : s.q.length ≤ 7) : (putE k s u).1.length ≤ 8 := by
  unfold putE
  by_cases h0 : k = 0
  · rw [if_pos h0]; simp only; rw [utE_len]; simp
  · rw [if_neg h0, if_neg (by omega)]
    have := ((cdR_p (show 1 ≤ k by omega) h6).goodT.drained (s.q ++ [u]) s.a).count
    simp only [eOneR, encF_len, List.length_append, List.length_singleton] at this ⊢
    omega
theorem putE_a {k : Nat} (h6 : k ≤ 6) (s : ESt) (u : Int) : (putE k s u).2.a + ((putE k s u).2.q.length : Int) ≤ s.a + s.q.length + 1 := by
  unfold putE
  by_cases h0 : k = 0
  · rw [if_pos h0]; simp only [List.length_nil]; omega
  · rw [if_neg h0, if_neg (by omega)]; simp only [eOneR]; omega
theorem finE_small {k : Nat} (h6 : k ≤ 6) (s : ESt) : ∀ t ∈ finE k s, t.out.length ≤ 8 := by
  unfold finE
  by_cases h0 : k = 0
  · rw [if_pos h0]; intro t ht; cases ht
  · rw [if_neg h0, if_neg (by omega)]; exact encF_out _ _ _ (rewA_out (cdR_p (by omega) h6).goodT _ _)
theorem finE_len {k : Nat} (h6 : k ≤ 6) (s : ESt) (hq : s.q.length ≤ 7) : (finE k s).length ≤ 8 := by
  unfold finE
  by_cases h0 : k = 0
  · rw [if_pos h0]; simp
  · rw [if_neg h0, if_neg (by omega), encF_len]; have := (cdR_p (show 1 ≤ k by omega) h6).goodT.rew_len s.q s.a; omega
/-- behind scalars that are written: how far the encoder is, how much is owed -/
theorem outS_len {pol : Int} {t : Tk} (h : t.out.length ≤ 8) : (outS pol t).length ≤ 8 := by
  unfold outS; split
  · split <;> simp
  · exact h
theorem putE_q {k : Nat} (h6 : k ≤ 6) (s : ESt) (u : Int) : (putE k s u).2.q.length ≤ 7 := by
  unfold putE
  by_cases h0 : k = 0
  · rw [if_pos h0]; simp
  · rw [if_neg h0, if_neg (by omega)]
    have hg := (cdR_p (show 1 ≤ k by omega) h6).goodT
    exact opens_lt hg (hg.drained (s.q ++ [u]) s.a).open_
theorem writeS_b {k : Nat} (h6 : k ≤ 6) {pol : Int} : ∀ (us : List Int) (e : ESt) (o : List Int) (f : Flt), e.q.length ≤ 7 → FltOK f → (writeS k pol e o f us).1.q.length ≤ 7 ∧ (writeS k pol e o f us).1.a + ((writeS k pol e o f us).1.q.length : Int) ≤ e.a + e.q.length + us.length ∧ (writeS k pol e o f us).2.1.length ≤ o.length + 64 * us.length ∧ FltOK (writeS k pol e o f us).2.2
  | [], e, o, f, h, hf => by simp only [writeS, List.length_nil]; exact ⟨h, by omega, by omega, hf⟩
  | u :: us, e, o, f, h, hf => by
    by_cases h0 : f.err ≠ 0
    · rw [writeS_stop h0]; simp only [List.length_cons]; exact ⟨h, by omega, by omega, hf⟩
    · rw [writeS, if_neg h0]
      obtain ⟨g1, g2, g3, g4⟩ := writeS_b h6 (pol := pol) us (putE k e u).2 (toksS pol o f (putE k e u).1).1 (toksS pol o f (putE k e u).1).2 (putE_q h6 e u) (toksS_ok _ _ _ hf)
      have h1 := putE_a h6 e u
      have h2 := toksS_len (pol := pol) (putE k e u).1 o f (putE_small h6 e u)
      have h3 := putE_len h6 e u h
      simp only [List.length_cons]
      exact ⟨g1, by omega, by omega, g4⟩
theorem takeS_b {k : Nat} (h6 : k ≤ 6) {pol : Int} (e : ESt) (o : List Int) (f : Flt) (t : Tk) (ht : t.out.length ≤ 8) (h : e.q.length ≤ 7) (hf : FltOK f) : (takeS k pol e o f t).1.q.length ≤ 7 ∧ (takeS k pol e o f t).1.a + ((takeS k pol e o f t).1.q.length : Int) ≤ e.a + e.q.length + 8 ∧ (takeS k pol e o f t).2.1.length ≤ o.length + 576 ∧ FltOK (takeS k pol e o f t).2.2 := by
  obtain ⟨g1, g2, g3, g4⟩ := writeS_b h6 (pol := pol) (outS pol t) e o f h hf
  have h8 := outS_len (pol := pol) ht
  obtain ⟨e1, o1, f1, hw⟩ : ∃ e1 o1 f1, writeS k pol e o f (outS pol t) = (e1, o1, f1) := ⟨_, _, _, rfl⟩
  rw [hw] at g1 g2 g3 g4
  simp only at g1 g2 g3 g4
  unfold takeS
  rw [hw]
  dsimp only
  split
  · rename_i hc
    have h2 := toksS_len (pol := pol) (finE k e1) o1 f1 (finE_small h6 e1)
    have h3 := finE_len h6 e1 g1
    have h4 := toksS_ok (pol := pol) (finE k e1) o1 f1 g4
    split
    · exact ⟨g1, by show e1.a + (e1.q.length : Int) ≤ _; omega, by show (toksS pol o1 f1 (finE k e1)).1.length ≤ _; omega, ⟨fun e => absurd (show (1 : Int) = 0 from e) (by decide), fun e => absurd e hc.1⟩⟩
    · exact ⟨g1, by show e1.a + (e1.q.length : Int) ≤ _; omega, by show (toksS pol o1 f1 (finE k e1)).1.length ≤ _; omega, h4⟩
  · exact ⟨g1, by show e1.a + (e1.q.length : Int) ≤ _; omega, by show o1.length ≤ _; omega, g4⟩
theorem takesS_b {k : Nat} (h6 : k ≤ 6) {pol : Int} : ∀ (ts : List Tk) (e : ESt) (o : List Int) (f : Flt), (∀ t ∈ ts, t.out.length ≤ 8) → e.q.length ≤ 7 → FltOK f → (takesS k pol e o f ts).1.q.length ≤ 7 ∧ (takesS k pol e o f ts).1.a + ((takesS k pol e o f ts).1.q.length : Int) ≤ e.a + e.q.length + 8 * ts.length ∧ (takesS k pol e o f ts).2.1.length ≤ o.length + 576 * ts.length ∧ FltOK (takesS k pol e o f ts).2.2
  | [], e, o, f, _, h, hf => by simp only [takesS, List.length_nil]; exact ⟨h, by omega, by omega, hf⟩
  | t :: ts, e, o, f, ht, h, hf => by
    by_cases h0 : f.err ≠ 0
    · rw [takesS_stop h0]; simp only [List.length_cons]; exact ⟨h, by omega, by omega, hf⟩
    · rw [takesS, if_neg h0]
      obtain ⟨b1, b2, b3, b4⟩ := takeS_b h6 (pol := pol) e o f t (ht t List.mem_cons_self) h hf
      obtain ⟨g1, g2, g3, g4⟩ := takesS_b h6 (pol := pol) ts (takeS k pol e o f t).1 (takeS k pol e o f t).2.1 (takeS k pol e o f t).2.2 (fun x hx => ht x (List.mem_cons_of_mem _ hx)) b1 b4
      simp only [List.length_cons]
      exact ⟨g1, by omega, by omega, g4⟩
/-- behind a fault nothing more -/
theorem writeS_end {k : Nat} {pol : Int} {e e1 : ESt} {o o1 : List Int} {f f1 : Flt} {us : List Int} {K : Nat} (h : writeS k pol e o f (us.take K) = (e1, o1, f1)) (hf : f1.err ≠ 0) : writeS k pol e o f us = (e1, o1, f1) := by
  rw [← List.take_append_drop K us, writeS_app, h]
  exact writeS_stop hf _
theorem takesS_end {k : Nat} {pol : Int} {e e1 : ESt} {o o1 : List Int} {f f1 : Flt} {ts : List Tk} {K : Nat} (h : takesS k pol e o f (ts.take K) = (e1, o1, f1)) (hf : f1.err ≠ 0) : takesS k pol e o f ts = (e1, o1, f1) := by
  rw [← List.take_append_drop K ts, takesS_app, h]
  exact takesS_stop hf _
end Go.Proofs.YtapnefjiecabpaaGreatDoor
namespace Go.Proofs.YtapnefjiecabpaaGreatDoor
set_option linter.unusedVariables false
set_option linter.unusedSimpArgs false
set_option linter.unnecessarySimpa false
open Go.RowKit
/-- UTF-8's machine that writes: at block p; n were put -/
structure WApi where
  St : World → Nat → Int → Prop
  lt : ∀ {w : World} {p : Nat} {n : Int}, St w p n → p < w.heap.size
  stay : ∀ {w w' : World} {p : Nat} {n : Int}, St w p n → w'.heap[p]? = w.heap[p]? → St w' p n
  put : ∀ {w : World} {p : Nat} {n : Int} (u : Int), St w p n → 0 ≤ n → n ≤ 100000 → Calls Tryz.prog 213 #[.pointer (some ⟨p, 0, none⟩), .int .i64 u] w fun e w' => ∃ v, e = .returned v ∧ OwnTkB w.heap.size w' v (utE n [u]) ∧ St w' p (n + 1) ∧ w.grownBy w' (some p)
  fin : ∀ {w : World} {p : Nat} {n : Int}, St w p n → Calls Tryz.prog 211 #[.pointer (some ⟨p, 0, none⟩)] w fun e w' => ∃ v, e = .returned v ∧ OwnTkB w.heap.size w' v [] ∧ St w' p n ∧ w.grownBy w' (some p)
  held : ∀ {w : World} {p : Nat} {n : Int}, St w p n → Calls Tryz.prog 212 #[.pointer (some ⟨p, 0, none⟩)] w fun e w' => e = .returned (.int .i64 0) ∧ Below w.heap.size w w'
end Go.Proofs.YtapnefjiecabpaaGreatDoor
namespace Go.Proofs.YtapnefjiecabpaaGreatDoor
set_option linter.unusedVariables false
set_option linter.unusedSimpArgs false
set_option linter.unnecessarySimpa false
open Go.RowKit
/-- function f is entered -/
def Enters (f : FuncId) : Prop := ∀ (args : Array Value) (W : World), (callFunc f args).run Tryz.prog W = .ok (.enter f args) W
/-- V's methods are these functions, of r -/
def Kind (V : Value) (fP fE fH : FuncId) (r : Value) : Prop := ∃ T x, V = .iface T x ∧ (∀ (n : Nat) (W : World), (method (n + 1) T x "Put").run Tryz.prog W = .ok (fP, r) W) ∧ (∀ (n : Nat) (W : World), (method (n + 1) T x "End").run Tryz.prog W = .ok (fE, r) W) ∧ (∀ (n : Nat) (W : World), (method (n + 1) T x "Held").run Tryz.prog W = .ok (fH, r) W) ∧ Enters fP ∧ Enters fE ∧ Enters fH
def vE (k p : Nat) : Value := if k = 0 then .iface 117 (.pointer (some ⟨p, 0, none⟩)) else if k = 7 then .iface 120 (.pointer (some ⟨p, 0, none⟩)) else .iface 122 (.pointer (some ⟨p, 0, none⟩))
def fPE (k : Nat) : FuncId := if k = 0 then 213 else if k = 7 then 217 else 223
def fEE (k : Nat) : FuncId := if k = 0 then 211 else if k = 7 then 215 else 219
def fHE (k : Nat) : FuncId := if k = 0 then 212 else if k = 7 then 216 else 220
def vD (k p : Nat) : Value := if k = 0 then .iface 85 (.pointer (some ⟨p, 0, none⟩)) else if k = 7 then .iface 91 (.pointer (some ⟨p, 0, none⟩)) else .iface 156 (.agg #[.pointer (some ⟨p, 0, none⟩)])
def fPD (k : Nat) : FuncId := if k = 0 then 191 else if k = 7 then 199 else 229
def fED (k : Nat) : FuncId := if k = 0 then 189 else if k = 7 then 197 else 226
def fHD (k : Nat) : FuncId := if k = 0 then 190 else if k = 7 then 198 else 227
theorem kindE (k p : Nat) : Kind (vE k p) (fPE k) (fEE k) (fHE k) (.pointer (some ⟨p, 0, none⟩)) := by
  unfold vE fPE fEE fHE
  by_cases h0 : k = 0
  · simp only [if_pos h0]
    exact ⟨_, _, rfl, fun n W => by kernel_rfl, fun n W => by kernel_rfl, fun n W => by kernel_rfl, fun a W => by kernel_rfl, fun a W => by kernel_rfl, fun a W => by kernel_rfl⟩
  · simp only [if_neg h0]
    by_cases h7 : k = 7
    · simp only [if_pos h7]
      exact ⟨_, _, rfl, fun n W => by kernel_rfl, fun n W => by kernel_rfl, fun n W => by kernel_rfl, fun a W => by kernel_rfl, fun a W => by kernel_rfl, fun a W => by kernel_rfl⟩
    · simp only [if_neg h7]
      exact ⟨_, _, rfl, fun n W => by kernel_rfl, fun n W => by kernel_rfl, fun n W => by kernel_rfl, fun a W => by kernel_rfl, fun a W => by kernel_rfl, fun a W => by kernel_rfl⟩
theorem kindD (k p : Nat) : Kind (vD k p) (fPD k) (fED k) (fHD k) (.pointer (some ⟨p, 0, none⟩)) := by
  unfold vD fPD fED fHD
  by_cases h0 : k = 0
  · simp only [if_pos h0]
    exact ⟨_, _, rfl, fun n W => by kernel_rfl, fun n W => by kernel_rfl, fun n W => by kernel_rfl, fun a W => by kernel_rfl, fun a W => by kernel_rfl, fun a W => by kernel_rfl⟩
  · simp only [if_neg h0]
    by_cases h7 : k = 7
    · simp only [if_pos h7]
      exact ⟨_, _, rfl, fun n W => by kernel_rfl, fun n W => by kernel_rfl, fun n W => by kernel_rfl, fun a W => by kernel_rfl, fun a W => by kernel_rfl, fun a W => by kernel_rfl⟩
    · simp only [if_neg h7]
      exact ⟨_, _, rfl, fun n W => by kernel_rfl, fun n W => by kernel_rfl, fun n W => by kernel_rfl, fun a W => by kernel_rfl, fun a W => by kernel_rfl, fun a W => by kernel_rfl⟩
end Go.Proofs.YtapnefjiecabpaaGreatDoor
namespace Go.Proofs.YtapnefjiecabpaaGreatDoor
set_option linter.unusedVariables false
set_option linter.unusedSimpArgs false
set_option linter.unnecessarySimpa false
open Go.RowKit
/-- a table's encoder at block p -/
structure TE (k : Nat) (G F : Nat → Prop) (w : World) (p T B L : Nat) (R : List Value) (st : Int) (s : ESt) : Prop where
  gp : G p
  ge : ∀ b, G b → b = p
  fp : F p
  lt : ∀ b, F b → b < w.heap.size
  lp : L ≤ p
  en : EAtF L (fun b => F b ∧ b ≠ p) w B p (cdR k) T R s.q s.a st s.ah
  fl : ∀ b, L ≤ b → b ≤ p → F b
  s0 : 0 ≤ st
  s1 : st + 7 * s.q.length ≤ 200 * (s.a + s.q.length)
  op : s.q = [] ∨ opens (turnR (cdR k)) s.q = true
section
variable {k : Nat} {G F : Nat → Prop} {w w' : World} {p T B L : Nat} {R : List Value} {st : Int} {s : ESt}
theorem TE.stay (h : TE k G F w p T B L R st s) (hs : w.heap.size ≤ w'.heap.size) (hk : ∀ b, F b → w'.heap[b]? = w.heap[b]?) : TE k G F w' p T B L R st s :=
  ⟨h.gp, h.ge, h.fp, fun b hb => Nat.lt_of_lt_of_le (h.lt b hb) hs, h.lp, h.en.stay hs (fun b h1 h2 => hk b (h.fl b h1 h2)) (fun b _ hx => hk b hx.1), h.fl, h.s0, h.s1, h.op⟩
theorem TE.back {R' : List Value} {st' : Int} {s' : ESt} {v : Value} (h : TE k G F w p T B L R st s) (hg : w.grownBy w' (some p)) (hn : EAtF L (fun b => ((F b ∧ b ≠ p) ∨ w.heap.size ≤ b) ∧ v.ownBlock ≠ some b) w' B p (cdR k) T R' s'.q s'.a st' s'.ah) (hv : ∀ b, v.ownBlock = some b → w.heap.size ≤ b) (h0 : 0 ≤ st') (h1 : st' + 7 * s'.q.length ≤ 200 * (s'.a + s'.q.length)) (ho : s'.q = [] ∨ opens (turnR (cdR k)) s'.q = true) :
    TE k G (fun b => F b ∨ (w.heap.size ≤ b ∧ b < w'.heap.size ∧ v.ownBlock ≠ some b)) w' p T B L R' st' s' ∧ (∀ b, v.ownBlock = some b → ¬ (F b ∨ (w.heap.size ≤ b ∧ b < w'.heap.size ∧ v.ownBlock ≠ some b))) := by
  have hml := h.lt p h.fp
  have hs := hg.size
  refine ⟨⟨h.gp, h.ge, .inl h.fp, ?_, h.lp, hn.with (Nat.le_refl _) (fun _ _ _ => rfl) rfl (fun b hl hx => ⟨?_, rfl⟩) (fun b hb => hb.2) hn.is, fun b h1 h2 => .inl (h.fl b h1 h2), h0, h1, ho⟩, ?_⟩
  · rintro b (hb | hb)
    · have := h.lt b hb; omega
    · exact hb.2.1
  · obtain ⟨hx1 | hx1, hx2⟩ := hx
    · exact ⟨.inl hx1.1, hx1.2⟩
    · exact ⟨.inr ⟨hx1, hl, hx2⟩, by omega⟩
  · rintro b e (hb | hb)
    · have := h.lt b hb; have := hv b e; omega
    · exact hb.2.2 e
theorem TE.front (h : TE k G F w p T B L R st s) : EAtF L (fun b => (F b ∧ b ≠ p) ∨ w.heap.size ≤ b) w B p (cdR k) T R s.q s.a st s.ah :=
  h.en.weak (fun b hb => .inl hb) (fun b hb => by have hml := h.lt p h.fp; rcases hb with h1 | h1; exact h1.2; omega)
theorem drain_lk7 {rs : List Rl} (hg : Good rs) {q rest : List Int} {u a : Int} {ts : List Tk} {n : Nat} (hd : drain rs a (q ++ [u]) = (ts, rest, n)) (hq : q.length ≤ 7) : n ≤ 72 ∧ rest.length ≤ q.length + 1 ∧ (rest = [] ∨ opens rs rest = true) ∧ ts.length ≤ 8 := by
  have hD := hg.drained (q ++ [u]) a
  rw [hd] at hD
  obtain ⟨_, _, ho, hc, hl⟩ := hD
  simp only [List.length_append, List.length_singleton] at hc hl ho
  have := hl 8 (by omega)
  exact ⟨by omega, by omega, ho, by omega⟩
/-- what a machine's call leaves -/
theorem told_grown {G F F' : Nat → Prop} {w w' : World} {v : Value} {p : Nat} {fr : Prop} (hg : w.grownBy w' (some p)) (hp : G p) (hG : ∀ b, G b → b < w.heap.size) (hF : ∀ b, F' b → F b ∨ w.heap.size ≤ b) (hn : ∀ b, v.ownBlock = some b → ¬ F' b) : Told G G F F' w w' v w.heap.size fr :=
  ⟨Nat.le_refl _, hg.size, hG, hF, fun b hb => .inl hb, .inl fun b hb => hb, hn, Mid.by hg hp⟩
theorem TE.put (h : TE k G F w p T B L R st s) (h1 : 1 ≤ k) (h6 : k ≤ 6) (u : Int) (h0 : 0 ≤ s.a) (h9 : s.a ≤ 1000000) :
    Calls Tryz.prog 223 #[.pointer (some ⟨p, 0, none⟩), .int .i64 u] w fun e w' => ∃ v F' R' st', e = .returned v ∧ OwnTkB w.heap.size w' v (putE k s u).1 ∧ TE k G F' w' p T B L R' st' (putE k s u).2 ∧ Told G G F F' w w' v w.heap.size (s.q = [] ∧ s.a = 0) := by
  have hgT := (cdR_p h1 h6).goodT
  have hq7 := opens_lt hgT h.op
  obtain ⟨t1, r1, k1, hd⟩ : ∃ t r n, drain (turnR (cdR k)) s.a (s.q ++ [u]) = (t, r, n) := ⟨_, _, _, rfl⟩
  obtain ⟨hk6, hr2, hop, ht2⟩ := drain_lk7 hgT hd (by omega)
  have hs0 := h.s0
  have hs1 := h.s1
  have e : putE k s u = (encF (cdR k) s.ah t1, ⟨r1, s.a + s.q.length + 1 - r1.length, aheadF s.ah (encF (cdR k) s.ah t1), s.sc⟩) := by
    unfold putE eOneR; rw [if_neg (by omega), if_neg (by omega), hd]
  rw [e]
  refine (eput_anyF L _ w B p (cdR k) T R s.q s.a st u s.ah h.front (by omega) (fun b hb => .inr hb) h0 (by omega) hs0 (by omega) t1 r1 k1 hd).mono ?_
  rintro e w' ⟨v, rfl, ho, ⟨R', hn⟩, hg⟩
  have hvb : ∀ b, v.ownBlock = some b → w.heap.size ≤ b := fun b e => (own_ltT ho e).1
  obtain ⟨g1, g2⟩ := h.back (s' := ⟨r1, s.a + s.q.length + 1 - r1.length, aheadF s.ah (encF (cdR k) s.ah t1), s.sc⟩) hg hn hvb (by omega) (by show st + k1 + 7 * (r1.length : Int) ≤ 200 * (s.a + s.q.length + 1 - r1.length + r1.length); omega) hop
  exact ⟨v, _, R', st + k1, rfl, ho, g1, told_grown hg h.gp (fun b hb => by rw [h.ge b hb]; exact h.lt p h.fp) (fun b hb => by rcases hb with hb | hb; exact .inl hb; exact .inr hb.1) g2⟩
theorem TE.fin (h : TE k G F w p T B L R st s) (h1 : 1 ≤ k) (h6 : k ≤ 6) (h0 : 0 ≤ s.a) (h9 : s.a ≤ 1000000) :
    Calls Tryz.prog 219 #[.pointer (some ⟨p, 0, none⟩)] w fun e w' => ∃ v F' R' st', e = .returned v ∧ OwnTkB w.heap.size w' v (finE k s) ∧ TE k G F' w' p T B L R' st' ⟨[], s.a + s.q.length, aheadF s.ah (finE k s), s.sc⟩ ∧ Told G G F F' w w' v w.heap.size (s.q = [] ∧ s.a = 0) := by
  have hgT := (cdR_p h1 h6).goodT
  have hq7 := opens_lt hgT h.op
  have hs0 := h.s0
  have hs1 := h.s1
  have hlk := hgT.looksE_le s.q 7 (by omega)
  have e : finE k s = encF (cdR k) s.ah (rewA (turnR (cdR k)) s.a s.q) := by unfold finE; rw [if_neg (by omega), if_neg (by omega)]
  rw [e]
  refine (eend_anyF L _ w B p (cdR k) T R s.q s.a st s.ah h.front (fun b hb => .inr hb) h0 (by omega) hs0 (by omega) _ rfl).mono ?_
  rintro e w' ⟨v, rfl, ho, ⟨R', hn⟩, hg⟩
  have hvb : ∀ b, v.ownBlock = some b → w.heap.size ≤ b := fun b e => (own_ltT ho e).1
  obtain ⟨g1, g2⟩ := h.back (s' := ⟨[], s.a + s.q.length, aheadF s.ah (encF (cdR k) s.ah (rewA (turnR (cdR k)) s.a s.q)), s.sc⟩) hg hn hvb (by omega) (by show st + (looksE (turnR (cdR k)) s.q : Int) + 7 * (([] : List Int).length : Int) ≤ 200 * (s.a + s.q.length + (([] : List Int).length : Int)); simp only [List.length_nil]; omega) (.inl rfl)
  exact ⟨v, _, R', st + looksE (turnR (cdR k)) s.q, rfl, ho, g1, told_grown hg h.gp (fun b hb => by rw [h.ge b hb]; exact h.lt p h.fp) (fun b hb => by rcases hb with hb | hb; exact .inl hb; exact .inr hb.1) g2⟩
end
/-- codec k's encoder at block p (k: 0 to 6): it writes G, looks at F -/
def EV (I : WApi) (k : Nat) (G F : Nat → Prop) (w : World) (p : Nat) (s : ESt) : Prop :=
  if k = 0 then I.St w p s.a ∧ s.q = [] ∧ 0 ≤ s.a ∧ G p ∧ (∀ b, G b → b = p) ∧ F p ∧ ∀ b, F b → b < w.heap.size
  else 0 ≤ s.a ∧ ∃ T B L R st, TE k G F w p T B L R st s
section
variable {I : WApi} {k : Nat} {G F : Nat → Prop} {w w' : World} {p : Nat} {s : ESt}
theorem EV.foot (h : EV I k G F w p s) : (∀ b, G b → F b) ∧ (∀ b, F b → b < w.heap.size) ∧ 0 ≤ s.a := by
  unfold EV at h
  by_cases h0 : k = 0
  · rw [if_pos h0] at h
    obtain ⟨_, _, h1, h2, h3, h4, h5⟩ := h
    exact ⟨fun b hb => by rw [h3 b hb]; exact h4, h5, h1⟩
  · rw [if_neg h0] at h
    obtain ⟨h1, T, B, L, R, st, h⟩ := h
    exact ⟨fun b hb => by rw [h.ge b hb]; exact h.fp, h.lt, h1⟩
theorem EV.stay (h : EV I k G F w p s) (hs : w.heap.size ≤ w'.heap.size) (hk : ∀ b, F b → w'.heap[b]? = w.heap[b]?) : EV I k G F w' p s := by
  unfold EV at h ⊢
  by_cases h0 : k = 0
  · rw [if_pos h0] at h ⊢
    obtain ⟨g, g0, h1, h2, h3, h4, h5⟩ := h
    exact ⟨I.stay g (hk p h4), g0, h1, h2, h3, h4, fun b hb => Nat.lt_of_lt_of_le (h5 b hb) hs⟩
  · rw [if_neg h0] at h ⊢
    obtain ⟨h1, T, B, L, R, st, h⟩ := h
    exact ⟨h1, T, B, L, R, st, h.stay hs hk⟩
theorem EV.put (h : EV I k G F w p s) (hk : k ≤ 6) (u : Int) (h9 : s.a ≤ 90000) :
    Calls Tryz.prog (fPE k) #[.pointer (some ⟨p, 0, none⟩), .int .i64 u] w fun e w' => ∃ v G' F' B, e = .returned v ∧ OwnTkB B w' v (putE k s u).1 ∧ EV I k G' F' w' p (putE k s u).2 ∧ Told G G' F F' w w' v B (s.q = [] ∧ s.a = 0) := by
  have hf := h.foot
  unfold EV at h
  by_cases h0 : k = 0
  · subst h0
    rw [if_pos rfl] at h
    obtain ⟨g, g0, h1, h2, h3, h4, h5⟩ := h
    refine (I.put u g h1 (by omega)).mono ?_
    rintro e w' ⟨v, rfl, ho, hst, hg⟩
    exact ⟨v, G, F, w.heap.size, rfl, ho, ⟨hst, rfl, by show 0 ≤ s.a + 1; omega, h2, h3, h4, fun b hb => Nat.lt_of_lt_of_le (h5 b hb) hg.size⟩, told_grown hg h2 (fun b hb => h5 b (hf.1 b hb)) (fun b hb => .inl hb) (fun b e hb => by have h1 := (own_ltT ho e).1; have h2 := h5 b hb; omega)⟩
  · rw [if_neg h0] at h
    have h7 : ¬ k = 7 := by omega
    obtain ⟨h1, T, B, L, R, st, h⟩ := h
    have e : fPE k = 223 := by unfold fPE; rw [if_neg h0, if_neg h7]
    rw [e]
    have hq7 := opens_lt (cdR_p (show 1 ≤ k by omega) (show k ≤ 6 by omega)).goodT h.op
    refine (h.put (by omega) (by omega) u h1 (by omega)).mono ?_
    rintro e w' ⟨v, F', R', st', rfl, ho, hT, hT2⟩
    refine ⟨v, G, F', w.heap.size, rfl, ho, ?_, hT2⟩
    unfold EV
    rw [if_neg h0]
    refine ⟨?_, T, B, L, R', st', hT⟩
    obtain ⟨d, hd⟩ : ∃ d, drain (turnR (cdR k)) s.a (s.q ++ [u]) = d := ⟨_, rfl⟩
    obtain ⟨t1, r1, k1⟩ := d
    have h8 := (drain_lk7 (cdR_p (show 1 ≤ k by omega) (show k ≤ 6 by omega)).goodT hd (by omega)).2.1
    unfold putE eOneR
    rw [if_neg h0, if_neg h7, hd]
    show 0 ≤ s.a + s.q.length + 1 - (r1.length : Int)
    omega
theorem EV.fin (h : EV I k G F w p s) (hk : k ≤ 6) (h9 : s.a ≤ 90000) :
    Calls Tryz.prog (fEE k) #[.pointer (some ⟨p, 0, none⟩)] w fun e w' => ∃ v G' F' B s', e = .returned v ∧ OwnTkB B w' v (finE k s) ∧ EV I k G' F' w' p s' ∧ Told G G' F F' w w' v B (s.q = [] ∧ s.a = 0) := by
  have hf := h.foot
  unfold EV at h
  by_cases h0 : k = 0
  · subst h0
    rw [if_pos rfl] at h
    obtain ⟨g, g0, h1, h2, h3, h4, h5⟩ := h
    refine (I.fin g).mono ?_
    rintro e w' ⟨v, rfl, ho, hst, hg⟩
    exact ⟨v, G, F, w.heap.size, s, rfl, ho, ⟨hst, g0, h1, h2, h3, h4, fun b hb => Nat.lt_of_lt_of_le (h5 b hb) hg.size⟩, told_grown hg h2 (fun b hb => h5 b (hf.1 b hb)) (fun b hb => .inl hb) (fun b e hb => by have h1 := (own_ltT ho e).1; have h2 := h5 b hb; omega)⟩
  · rw [if_neg h0] at h
    have h7 : ¬ k = 7 := by omega
    obtain ⟨h1, T, B, L, R, st, h⟩ := h
    have e : fEE k = 219 := by unfold fEE; rw [if_neg h0, if_neg h7]
    rw [e]
    refine (h.fin (by omega) (by omega) h1 (by omega)).mono ?_
    rintro e w' ⟨v, F', R', st', rfl, ho, hT, hT2⟩
    refine ⟨v, G, F', w.heap.size, ⟨[], s.a + s.q.length, aheadF s.ah (finE k s), s.sc⟩, rfl, ho, ?_, hT2⟩
    unfold EV
    rw [if_neg h0]
    exact ⟨by show 0 ≤ s.a + (s.q.length : Int); omega, T, B, L, R', st', hT⟩
end
end Go.Proofs.YtapnefjiecabpaaGreatDoor
namespace Go.Proofs.YtapnefjiecabpaaGreatDoor
set_option linter.unusedVariables false
set_option linter.unusedSimpArgs false
set_option linter.unnecessarySimpa false
open Go.RowKit
/-- block b holds ints -/
def IntBl (w : World) (b : Nat) : Prop := ∃ cs fr, w.heap[b]? = some (.cells cs 3 fr)
/-- a row of tokens of one's own, from B on; their units lie from B on, or in blocks of ints -/
def OwnTkU (B : Nat) (w : World) (v : Value) (ts : List Tk) : Prop := ∃ xs, w.ownsRow B 51 4 v ts.length xs ∧ Tks (fun b => v.ownBlock ≠ some b ∧ (B ≤ b ∨ IntBl w b)) w xs ts
theorem OwnTkB.toU {B : Nat} {w : World} {v : Value} {ts : List Tk} (h : OwnTkB B w v ts) : OwnTkU B w v ts := by
  obtain ⟨xs, ho, hx⟩ := h
  exact ⟨xs, ho, hx.step (Nat.le_refl _) fun b _ hb => ⟨⟨hb.1, .inl hb.2⟩, rfl⟩⟩
theorem OwnTkU.own {B : Nat} {w : World} {v : Value} {ts : List Tk} (h : OwnTkU B w v ts) : OwnTk B w v ts := by
  obtain ⟨xs, ho, hx⟩ := h
  exact ⟨xs, ho, hx.step (Nat.le_refl _) fun b _ hb => ⟨hb.1, rfl⟩⟩
theorem OwnTkU.form {B : Nat} {w : World} {v : Value} {ts : List Tk} (h : OwnTkU B w v ts) : ∃ A c, v = .slice A ts.length c ∧ TkAt w w.heap.size A ts.length c ts := h.own.form
theorem Toks.tksT {w : World} {B : Nat} : ∀ {xs : List Value} {ts : List Tok}, Toks w B xs ts → Tks (fun b => IntBl w b) w xs (ts.map tkOf)
  | [], [], _ => trivial
  | a :: b :: s :: e :: xs, t :: ts, ⟨h1, h2, ⟨A, c, h3, h4, h5, h6⟩, h7, h8⟩ => by
    refine ⟨h1, h2, ⟨A, c, h3, h4, h5, ?_⟩, h7, h8.tksT⟩
    rcases h6 with h | ⟨b, off, cs, fr, g1, g2, g3, g4⟩
    · exact .inl h
    · exact .inr ⟨b, off, g1, (Array.getElem?_eq_some_iff.1 g3).1, ⟨cs, fr, g3⟩, fun j hj => by rw [cell_of_row _ _ _ _ _ _ g3]; exact g4 j hj⟩
theorem ret_u {base n : Nat} {w : World} {v : Value} {xs : List Value} {kn : List Tok} (ho : w.ownsRow base 51 4 v n xs) (ht : Toks w w.heap.size xs kn) (hn : kn.length = n) : OwnTkU base w v (kn.map tkOf) := by
  subst hn
  refine ⟨xs, by rw [List.length_map]; exact ho, ht.tksT.step (Nat.le_refl _) fun b _ hb => ⟨⟨fun e => ?_, .inr hb⟩, rfl⟩⟩
  obtain ⟨cs, fr, hc⟩ := hb
  rcases ho.2 with ⟨h1, _⟩ | ⟨g, cap, cur, h1, _, h3, _⟩
  · rw [h1] at e; cases e
  · rw [h1] at e; injection e with e; subst e
    have e2 : w.heap[g]? = some (.cells cur 51 (0, 0)) := h3
    rw [hc] at e2
    injection e2 with e2
    injection e2 with _ e2
    exact absurd e2 (by decide)
/-- a table's decoder at block p -/
structure TD (k : Nat) (G F : Nat → Prop) (w : World) (p R B L : Nat) (st : Int) (s : DSt) : Prop where
  gp : G p
  ge : ∀ b, G b → b = p
  fp : F p
  lt : ∀ b, F b → b < w.heap.size
  bp : B ≤ p
  tr : Stab L B w (fun W => TrieOK W B R (cdR k))
  fl : ∀ b, L ≤ b → b < B → F b
  is : MAt w p R s.q s.a st
  s0 : 0 ≤ st
  s1 : st + 7 * s.q.length ≤ 200 * (s.a + s.q.length)
  op : s.q = [] ∨ opens (cdR k) s.q = true
section
variable {k : Nat} {G F : Nat → Prop} {w w' : World} {p R B L : Nat} {st : Int} {s : DSt}
theorem TD.stay (h : TD k G F w p R B L st s) (hs : w.heap.size ≤ w'.heap.size) (hk : ∀ b, F b → w'.heap[b]? = w.heap[b]?) : TD k G F w' p R B L st s :=
  ⟨h.gp, h.ge, h.fp, fun b hb => Nat.lt_of_lt_of_le (h.lt b hb) hs, h.bp, h.tr.step hs fun b h1 h2 => hk b (h.fl b h1 h2), h.fl, h.is.of_block (hk p h.fp), h.s0, h.s1, h.op⟩
theorem TD.put (h : TD k G F w p R B L st s) (h1 : 1 ≤ k) (h6 : k ≤ 6) (u : Int) (h0 : 0 ≤ s.a) (h9 : s.a ≤ 1000000) :
    Calls Tryz.prog 229 #[.pointer (some ⟨p, 0, none⟩), .int .i64 u] w fun e w' => ∃ v st', e = .returned v ∧ OwnTkB w.heap.size w' v (putD k s u).1 ∧ TD k G F w' p R B L st' (putD k s u).2 ∧ Told G G F F w w' v w.heap.size (s.q = [] ∧ s.a = 0) := by
  have hg := (cdR_p h1 h6).good
  have hq7 := opens_lt hg h.op
  obtain ⟨t1, r1, k1, hd⟩ : ∃ t r n, drain (cdR k) s.a (s.q ++ [u]) = (t, r, n) := ⟨_, _, _, rfl⟩
  obtain ⟨hk6, hr2, hop, ht2⟩ := drain_lk7 hg hd (by omega)
  have hs0 := h.s0
  have hs1 := h.s1
  have e : putD k s u = (t1, ⟨r1, s.a + s.q.length + 1 - r1.length, s.sc⟩) := by unfold putD; rw [if_neg (by omega), if_neg (by omega), hd]
  rw [e]
  refine (mput_any w p R s.q s.a st u h.is (by omega) B (cdR k) h.tr.self h.bp h0 (by omega) hs0 (by omega) t1 r1 k1 hd).mono ?_
  rintro e w' ⟨v, rfl, ho, hm, hgr⟩
  have hlp := h.lt p h.fp
  exact ⟨v, st + k1, rfl, ho, ⟨h.gp, h.ge, h.fp, fun b hb => Nat.lt_of_lt_of_le (h.lt b hb) hgr.size, h.bp, h.tr.step hgr.size fun b g1 g2 => hgr.block b (by have := h.bp; omega) (fun e => by injection e with e; have := h.bp; omega), h.fl, hm, by omega, by show st + k1 + 7 * (r1.length : Int) ≤ 200 * (s.a + s.q.length + 1 - r1.length + r1.length); omega, hop⟩,
    told_grown hgr h.gp (fun b hb => by rw [h.ge b hb]; exact hlp) (fun b hb => .inl hb) (fun b e hb => by have h1 := (own_ltT ho e).1; have h2 := h.lt b hb; omega)⟩
theorem TD.fin (h : TD k G F w p R B L st s) (h1 : 1 ≤ k) (h6 : k ≤ 6) (h0 : 0 ≤ s.a) (h9 : s.a ≤ 1000000) :
    Calls Tryz.prog 226 #[.pointer (some ⟨p, 0, none⟩)] w fun e w' => ∃ v st', e = .returned v ∧ OwnTkB w.heap.size w' v (finD k s) ∧ TD k G F w' p R B L st' ⟨[], s.a + s.q.length, s.sc⟩ ∧ Told G G F F w w' v w.heap.size (s.q = [] ∧ s.a = 0) := by
  have hg := (cdR_p h1 h6).good
  have hq7 := opens_lt hg h.op
  have hs0 := h.s0
  have hs1 := h.s1
  have hlk := hg.looksE_le s.q 7 (by omega)
  have e : finD k s = rewA (cdR k) s.a s.q := by unfold finD; rw [if_neg (by omega), if_neg (by omega)]
  rw [e]
  refine (mend_any w p R s.q s.a st h.is B (cdR k) h.tr.self h.bp h0 (by omega) hs0 (by omega) _ rfl).mono ?_
  rintro e w' ⟨v, rfl, ho, hm, hgr⟩
  have hlp := h.lt p h.fp
  exact ⟨v, st + looksE (cdR k) s.q, rfl, ho, ⟨h.gp, h.ge, h.fp, fun b hb => Nat.lt_of_lt_of_le (h.lt b hb) hgr.size, h.bp, h.tr.step hgr.size fun b g1 g2 => hgr.block b (by have := h.bp; omega) (fun e => by injection e with e; have := h.bp; omega), h.fl, hm, by omega, by show st + (looksE (cdR k) s.q : Int) + 7 * (([] : List Int).length : Int) ≤ 200 * (s.a + s.q.length + (([] : List Int).length : Int)); simp only [List.length_nil]; omega, .inl rfl⟩,
    told_grown hgr h.gp (fun b hb => by rw [h.ge b hb]; exact hlp) (fun b hb => .inl hb) (fun b e hb => by have h1 := (own_ltT ho e).1; have h2 := h.lt b hb; omega)⟩
end
/-- UTF-8's reader at block p -/
structure UD (G F : Nat → Prop) (w : World) (p : Nat) (s : DSt) : Prop where
  gp : G p
  ge : ∀ b, G b → b = p
  fp : F p
  lt : ∀ b, F b → b < w.heap.size
  hd : HD s.q = s.q
  by_ : ∀ z ∈ s.q, 0 ≤ z ∧ z ≤ 255
  a0 : 0 ≤ s.a
  is : RdrAtT 90 w p s.q s.a
/-- codec k's decoder at block p (k: 0 to 6): it writes G, looks at F -/
def DV (k : Nat) (G F : Nat → Prop) (w : World) (p : Nat) (s : DSt) : Prop :=
  if k = 0 then UD G F w p s
  else 0 ≤ s.a ∧ ∃ R B L st, TD k G F w p R B L st s
section
variable {k : Nat} {G F : Nat → Prop} {w w' : World} {p : Nat} {s : DSt}
theorem DV.foot (h : DV k G F w p s) : (∀ b, G b → F b) ∧ (∀ b, F b → b < w.heap.size) ∧ 0 ≤ s.a := by
  unfold DV at h
  by_cases h0 : k = 0
  · rw [if_pos h0] at h
    exact ⟨fun b hb => by rw [h.ge b hb]; exact h.fp, h.lt, h.a0⟩
  · rw [if_neg h0] at h
    obtain ⟨h1, R, B, L, st, h⟩ := h
    exact ⟨fun b hb => by rw [h.ge b hb]; exact h.fp, h.lt, h1⟩
theorem DV.stay (h : DV k G F w p s) (hs : w.heap.size ≤ w'.heap.size) (hk : ∀ b, F b → w'.heap[b]? = w.heap[b]?) : DV k G F w' p s := by
  unfold DV at h ⊢
  by_cases h0 : k = 0
  · rw [if_pos h0] at h ⊢
    obtain ⟨g1, g2, g3, g4, g5, g6, g7, x0, x1, x2, x3, g8, g9⟩ := h
    exact ⟨g1, g2, g3, fun b hb => Nat.lt_of_lt_of_le (g4 b hb) hs, g5, g6, g7, x0, x1, x2, x3, (hk p g3).trans g8, g9⟩
  · rw [if_neg h0] at h ⊢
    obtain ⟨h1, R, B, L, st, h⟩ := h
    exact ⟨h1, R, B, L, st, h.stay hs hk⟩
theorem DV.put (h : DV k G F w p s) (hk : k ≤ 6) (u : Int) (hu : k = 0 → 0 ≤ u ∧ u ≤ 255) (h9 : s.a ≤ 90000) :
    Calls Tryz.prog (fPD k) #[.pointer (some ⟨p, 0, none⟩), .int .i64 u] w fun e w' => ∃ v G' F' B, e = .returned v ∧ OwnTkU B w' v (putD k s u).1 ∧ DV k G' F' w' p (putD k s u).2 ∧ Told G G' F F' w w' v B (s.q = [] ∧ s.a = 0) := by
  have hf := h.foot
  unfold DV at h
  by_cases h0 : k = 0
  · subst h0
    rw [if_pos rfl] at h
    have hb := hu rfl
    have hl := (HD_len s.q).1
    rw [h.hd] at hl
    refine (rput_any p s.q s.a u w h.is hl h.a0 (by omega) hb h.by_ _ _ _ rfl rfl rfl).mono ?_
    rintro e w' ⟨v, xs, rfl, ho, ht, hr, hg⟩
    have hl2 := HD_len (s.q ++ [u])
    rw [List.length_append, List.length_singleton] at hl2
    refine ⟨v, G, F, w.heap.size, rfl, ret_u ho ht rfl, ⟨h.gp, h.ge, h.fp, fun b hb => Nat.lt_of_lt_of_le (h.lt b hb) hg.size, HD_HD _, fun z hz => ?_, by show 0 ≤ s.a + s.q.length + 1 - ((HD (s.q ++ [u])).length : Int); have := h.a0; omega, hr⟩, told_grown hg h.gp (fun b hb => by rw [h.ge b hb]; exact h.lt p h.fp) (fun b hb => .inl hb) (fun b e hb => by have h1 := (ho.lt b e).1; have h2 := h.lt b hb; omega)⟩
    have hz2 := HD_mem z hz
    rcases List.mem_append.1 hz2 with h1 | h1
    · exact h.by_ z h1
    · rw [List.mem_singleton] at h1; rw [h1]; exact hb
  · rw [if_neg h0] at h
    have h7 : ¬ k = 7 := by omega
    obtain ⟨h1, R, B, L, st, h⟩ := h
    have e : fPD k = 229 := by unfold fPD; rw [if_neg h0, if_neg h7]
    rw [e]
    have hq7 := opens_lt (cdR_p (show 1 ≤ k by omega) (show k ≤ 6 by omega)).good h.op
    refine (h.put (by omega) (by omega) u h1 (by omega)).mono ?_
    rintro e w' ⟨v, st', rfl, ho, hT, hT2⟩
    refine ⟨v, G, F, w.heap.size, rfl, ho.toU, ?_, hT2⟩
    unfold DV
    rw [if_neg h0]
    refine ⟨?_, R, B, L, st', hT⟩
    obtain ⟨d, hd⟩ : ∃ d, drain (cdR k) s.a (s.q ++ [u]) = d := ⟨_, rfl⟩
    obtain ⟨t1, r1, k1⟩ := d
    have h8 := (drain_lk7 (cdR_p (show 1 ≤ k by omega) (show k ≤ 6 by omega)).good hd (by omega)).2.1
    unfold putD
    rw [if_neg h0, if_neg h7, hd]
    show 0 ≤ s.a + s.q.length + 1 - (r1.length : Int)
    omega
theorem DV.fin (h : DV k G F w p s) (hk : k ≤ 6) (h9 : s.a ≤ 90000) :
    Calls Tryz.prog (fED k) #[.pointer (some ⟨p, 0, none⟩)] w fun e w' => ∃ v G' F' B s', e = .returned v ∧ OwnTkU B w' v (finD k s) ∧ DV k G' F' w' p s' ∧ s'.q = [] ∧ Told G G' F F' w w' v B (s.q = [] ∧ s.a = 0) := by
  have hf := h.foot
  unfold DV at h
  by_cases h0 : k = 0
  · subst h0
    rw [if_pos rfl] at h
    have hl := (HD_len s.q).1
    rw [h.hd] at hl
    refine (rend_any p s.q s.a w h.is h.a0 (by omega) _ _ rfl rfl).mono ?_
    rintro e w' ⟨v, xs, rfl, ho, ht, hr, hg⟩
    exact ⟨v, G, F, w.heap.size, ⟨[], s.a + s.q.length, s.sc⟩, rfl, ret_u ho ht rfl, ⟨h.gp, h.ge, h.fp, fun b hb => Nat.lt_of_lt_of_le (h.lt b hb) hg.size, rfl, fun z hz => (by cases hz), by show 0 ≤ s.a + (s.q.length : Int); have := h.a0; omega, hr⟩, rfl, told_grown hg h.gp (fun b hb => by rw [h.ge b hb]; exact h.lt p h.fp) (fun b hb => .inl hb) (fun b e hb => by have h1 := (ho.lt b e).1; have h2 := h.lt b hb; omega)⟩
  · rw [if_neg h0] at h
    have h7 : ¬ k = 7 := by omega
    obtain ⟨h1, R, B, L, st, h⟩ := h
    have e : fED k = 226 := by unfold fED; rw [if_neg h0, if_neg h7]
    rw [e]
    refine (h.fin (by omega) (by omega) h1 (by omega)).mono ?_
    rintro e w' ⟨v, st', rfl, ho, hT, hT2⟩
    refine ⟨v, G, F, w.heap.size, ⟨[], s.a + s.q.length, s.sc⟩, rfl, ho.toU, ?_, rfl, hT2⟩
    unfold DV
    rw [if_neg h0]
    exact ⟨by show 0 ≤ s.a + (s.q.length : Int); omega, R, B, L, st', hT⟩
end
end Go.Proofs.YtapnefjiecabpaaGreatDoor
namespace Go.Proofs.YtapnefjiecabpaaGreatDoor
set_option linter.unusedVariables false
set_option linter.unusedSimpArgs false
set_option linter.unnecessarySimpa false
open Go.RowKit
set_option maxRecDepth 100000 in
set_option maxHeartbeats 1600000 in
/-- bytes as units -/
theorem cunits_any (n : Nat) (A : Option Addr) (c : Nat) (zs : List Int) (B : Nat) (w : World) (hn : n = zs.length) (hr : Rd w B A (zs.map (Value.int .u8))) (hB : B ≤ w.heap.size) (hl : n ≤ 1000) (hw : ∀ z ∈ zs, 0 ≤ z ∧ z ≤ 255) :
    Calls Tryz.prog 214 #[.slice A n c] w fun e w' => ∃ v, e = .returned v ∧ IR w' w.heap.size v zs ∧ Below w.heap.size w w' := by
  have HR := Lib.hid (hr.below (Below.refl B w) hB)
  have HQL := Lib.hid hn
  have HW := Lib.hid hw
  clear hr hn hw
  go_enter Tryz.func214, Tryz.ntmps214
  go_wp2
  go_loopw [3, 8] (fun v i wr => ∃ K : Nat, K ≤ n ∧ i = .int .i64 K ∧ Hid (IR wr w.heap.size v (zs.take K)) ∧ Hid (Below w.heap.size w wr)) (fun _ i _ => n - (intOf i).toNat)
  case atStart => exact ⟨0, by omega, rfl, Lib.hid (IR.nil _ _), Lib.hid (Below.refl _ _)⟩
  case round =>
    obtain ⟨K, hK, rfl, HO, HB⟩ := hrel
    have hbs := HB.out.size
    by_cases hKl : K = n
    · have HF := Lib.hid (show zs.take K = zs by rw [hKl, HQL.out, List.take_length])
      have hKl' : ¬ K < n := by omega
      clear hKl
      go_wp2
      go_ret
      exact ⟨_, rfl, by have := HO.out; rw [HF.out] at this; exact this, HB.out⟩
    have hKl' : K < n := by omega
    have hKL : K < zs.length := by rw [← HQL.out]; exact hKl'
    have hal : (zs.take K).length ≤ 1000 := by simp; omega
    obtain ⟨b, off, rfl, hbl, hcell⟩ := rd_ints (HR.out.below HB.out (Nat.le_refl _)) (by omega)
    have hx := hcell K hKL
    have hz0 := getD_range HW.out K hKL
    have htk : zs.take (K + 1) = zs.take K ++ [zs.getD K 0] := by rw [List.take_succ_eq_append_getElem hKL]; simp [List.getD_eq_getElem?_getD, hKL]
    obtain ⟨z, hze⟩ : ∃ x, x = zs.getD K 0 := ⟨_, rfl⟩
    rw [← hze] at hx hz0 htk
    have HTK := Lib.hid htk
    obtain ⟨acc, hacc⟩ : ∃ x, x = zs.take K := ⟨_, rfl⟩
    rw [← hacc] at HO hal HTK
    have k3 : (0 : Int) ≤ K := by omega
    have k4 : (K : Int) < n := by omega
    have hw64 : wrap64 z = z := by rw [show wrap64 z = z by unfold wrap64; omega]
    have hwz : IntKind.i64.wrap z = z := by rw [IntKind.wrap_i64]; omega
    obtain ⟨A3, c3, rfl, -⟩ := HO.out.form
    have hwr : w.heap.size ≤ wr.heap.size := hbs
    clear hze hacc htk hKl hcell
    go_wp2_with (at_builtin; refine wpList_appI1 rfl _ _ rfl w.heap.size (.slice A3 acc.length c3) acc z rfl HO.out _ rfl (by simp) (by omega) hwr ?_)
    intro v4 w4 hO4 hG4
    have HB4 : Hid (Below w.heap.size w w4) := Lib.hid (IR.keepsB HB.out hG4.out HO.out (Nat.le_refl _) hwr)
    have HO5 : Hid (IR w4 w.heap.size v4 (zs.take (K + 1))) := by rw [HTK.out]; exact hO4
    clear hO4 hG4
    go_wp2_with fail
    go_roundw
    case rel => exact ⟨K + 1, by omega, by go_num, HO5, HB4⟩
    case measure => simp [intOf]; omega
/-- the machine: how many units were put -/
def WSt (w : World) (p : Nat) (n : Int) : Prop := Held w p #[.int .i64 n] 119
theorem wtok_own {w : World} {n e : Int} {v : Value} {zs : List Int} {B : Nat} (hB : B ≤ w.heap.size) (hz : Us (fun b => b < w.heap.size ∧ B ≤ b) w v zs) :
    OwnTkB B (w.alloc (.cells #[.int .i64 n, .int .i64 1, v, .int .i64 e] 51)) (.slice (some ⟨w.heap.size, 0, none⟩) 1 1) [⟨n, 1, zs, e⟩] := by
  refine ⟨[.int .i64 n, .int .i64 1, v, .int .i64 e], World.ownsRow_lit (size := 4) w #[.int .i64 n, .int .i64 1, v, .int .i64 e] 1 hB (by simp [maxLen]) rfl, rfl, rfl, ?_, rfl, trivial⟩
  refine hz.step (by simp) fun b hl hx => ⟨⟨fun e => ?_, hx.2⟩, Below.heap_alloc w _ b hl⟩
  have : b = w.heap.size := by injection e with e; exact e.symm
  omega
theorem us_none {X : Nat → Prop} {w : World} : Us X w (.slice none 0 0) [] := ⟨none, 0, rfl, Nat.le_refl _, by simp [maxLen], .inl rfl⟩
theorem wset {w : World} {p : Nat} {n m : Int} (h : WSt w p n) : WSt (w.setCell ⟨p, 0, none⟩ (.int .i64 m)) p m := by
  obtain ⟨hlt, hk⟩ := Array.getElem?_eq_some_iff.1 h
  unfold WSt Held World.setCell
  simp only [Array.getElem?_modify, if_true]
  rw [Array.getElem?_eq_getElem hlt, hk]
  rfl
theorem WSt.alloc2 {w : World} {p : Nat} {n : Int} (h : WSt w p n) (a b : Obj) : WSt ((w.alloc a).alloc b) p n := Held.alloc (Held.alloc h a) b
theorem wgrown {w W : World} {p : Nat} (h : w.grownBy W (some p)) (a b : Obj) : w.grownBy ((W.alloc a).alloc b) (some p) := grown_seq (grown_seq h (World.grownBy_alloc W a (some p))) (World.grownBy_alloc _ b (some p))
set_option maxRecDepth 100000 in
set_option maxHeartbeats 3200000 in
theorem wput_no (w : World) (p : Nat) (n u : Int) (h : WSt w p n) (h0 : 0 ≤ n) (h9 : n ≤ 100000) (hs : scB u = false) :
    Calls Tryz.prog 213 #[.pointer (some ⟨p, 0, none⟩), .int .i64 u] w fun e w' => ∃ v, e = .returned v ∧ OwnTkB w.heap.size w' v [⟨n, 1, [], 3⟩] ∧ WSt w' p (n + 1) ∧ w.grownBy w' (some p) := by
  have hlt := h.lt
  have c0 := h.cell 0
  have f0 := h.frozen 0
  have hwn : IntKind.i64.wrap (n + 1) = n + 1 := by rw [IntKind.wrap_i64]; omega
  have hw64 : wrap64 (n + 1) = n + 1 := by unfold wrap64; omega
  have HS := Lib.hid (show ∀ W, Calls Tryz.prog 99 #[.int .i64 u] W fun e w' => e = .returned (.bool false) ∧ W = w' from fun W => by rw [← hs]; exact scalarU u W)
  have HH := Lib.hid h
  clear h hs
  go_enter Tryz.func213, Tryz.ntmps213
  go_wp2_with (go_at_call 99; refine (HS.out _).mono ?_; rintro e w' ⟨rfl, rfl⟩)
  go_ret
  obtain ⟨W1, hW1⟩ : ∃ W, w.setCell ⟨p, 0, none⟩ (.int .i64 (n + 1)) = W := ⟨_, rfl⟩
  rw [hW1]
  have hs1 : W1.heap.size = w.heap.size := by rw [← hW1]; simp [World.setCell]
  have hg1 : w.grownBy W1 (some p) := by rw [← hW1]; exact grownBy_setCellK w ⟨p, 0, none⟩ _
  have hh1 : WSt W1 p (n + 1) := by rw [← hW1]; exact wset HH.out
  refine ⟨_, rfl, ?_, hh1.alloc2 _ _, wgrown hg1 _ _⟩
  have e1 : (W1.alloc (.cells #[.int .i64 n, .int .i64 1, .slice none 0 0, .int .i64 3] 51)).heap.size = w.heap.size + 1 := by simp [hs1]
  have := wtok_own (n := n) (e := 3) (v := .slice none 0 0) (zs := []) (B := w.heap.size) (w := W1.alloc (.cells #[.int .i64 n, .int .i64 1, .slice none 0 0, .int .i64 3] 51)) (by omega) us_none
  rw [e1] at this
  exact this
theorem tcell {w : World} {T : Nat} {n e : Int} {o : Value} (h : Held w T #[.int .i64 n, .int .i64 1, o, .int .i64 e] 51) (v : Value) (j : Nat) : (w.setCell ⟨T, 2, none⟩ v).cell? ⟨T, j, none⟩ = (#[.int .i64 n, .int .i64 1, v, .int .i64 e] : Array Value)[j]? := by
  have h2 : Held (w.setCell ⟨T, 2, none⟩ v) T #[.int .i64 n, .int .i64 1, v, .int .i64 e] 51 := by
    obtain ⟨hlt, hk⟩ := Array.getElem?_eq_some_iff.1 h
    unfold Held World.setCell
    simp only [Array.getElem?_modify, if_true]
    rw [Array.getElem?_eq_getElem hlt, hk]
    rfl
  exact h2.cell j
set_option maxRecDepth 100000 in
set_option maxHeartbeats 3200000 in
theorem wput_yes (w : World) (p : Nat) (n u : Int) (h : WSt w p n) (h0 : 0 ≤ n) (h9 : n ≤ 100000) (hs : scB u = true) :
    Calls Tryz.prog 213 #[.pointer (some ⟨p, 0, none⟩), .int .i64 u] w fun e w' => ∃ v, e = .returned v ∧ OwnTkB w.heap.size w' v [⟨n, 1, encL u, 0⟩] ∧ WSt w' p (n + 1) ∧ w.grownBy w' (some p) := by
  have hlt := h.lt
  have c0 := h.cell 0
  have f0 := h.frozen 0
  have hwn : IntKind.i64.wrap (n + 1) = n + 1 := by rw [IntKind.wrap_i64]; omega
  have hw64 : wrap64 (n + 1) = n + 1 := by unfold wrap64; omega
  have HS := Lib.hid (show ∀ W, Calls Tryz.prog 99 #[.int .i64 u] W fun e w' => e = .returned (.bool true) ∧ W = w' from fun W => by rw [← hs]; exact scalarU u W)
  have HH := Lib.hid h
  have HSC := Lib.hid hs
  obtain ⟨W2, hW2⟩ : ∃ W, (w.setCell ⟨p, 0, none⟩ (.int .i64 (n + 1))).alloc (.cells #[.int .i64 n, .int .i64 1, .slice none 0 0, .int .i64 0] 51) = W := ⟨_, rfl⟩
  have hs2 : W2.heap.size = w.heap.size + 1 := by rw [← hW2]; simp [World.setCell]
  have hh2 : Held W2 w.heap.size #[.int .i64 n, .int .i64 1, .slice none 0 0, .int .i64 0] 51 := by
    rw [← hW2]
    have := Held.new (w.setCell ⟨p, 0, none⟩ (.int .i64 (n + 1))) #[.int .i64 n, .int .i64 1, .slice none 0 0, .int .i64 0] 51
    rw [show (w.setCell ⟨p, 0, none⟩ (.int .i64 (n + 1))).heap.size = w.heap.size by simp [World.setCell]] at this
    exact this
  have hp2 : WSt W2 p (n + 1) := by rw [← hW2]; exact Held.alloc (wset h) _
  have hg2 : w.grownBy W2 (some p) := by rw [← hW2]; exact grown_seq (grownBy_setCellK w ⟨p, 0, none⟩ _) (World.grownBy_alloc _ _ (some p))
  have hr3 := rd_new_ints W2 .i64 [u] 3 #[.int .i64 u] rfl
  have hb3 : Below W2.heap.size W2 (W2.alloc (.cells #[.int .i64 u] 3)) := below_allocC _ _
  rw [hs2] at hr3
  have C1 := Lib.hid (bytes_any 1 (some ⟨w.heap.size + 1, 0, none⟩) 1 [u] (W2.alloc (.cells #[.int .i64 u] 3)) rfl hr3 (by simp) (by simp))
  have HW2 := Lib.hid hW2
  have HS2 := Lib.hid hs2
  have HH2 := Lib.hid hh2
  have HP2 := Lib.hid hp2
  have HG2 := Lib.hid hg2
  have HB3 := Lib.hid hb3
  have HBF := Lib.hid (show bytesF [u] = encL u by simp [bytesF, fixS, hs])
  have HEB := Lib.hid (encL_bytes u hs)
  have HEL := Lib.hid (show (encL u).length ≤ 4 by unfold encL; (repeat' split) <;> simp)
  clear h hs hW2 hs2 hh2 hp2 hg2 hr3 hb3
  go_enter Tryz.func213, Tryz.ntmps213
  go_wp2_with (go_at_call 99; refine (HS.out _).mono ?_; rintro e w' ⟨rfl, rfl⟩)
  rw [HW2.out]
  refine C1.out.mono ?_
  rintro e w4 ⟨v4, rfl, ho4, hb4⟩
  rw [HBF.out] at ho4
  obtain ⟨A4, c4, rfl, h41, h42⟩ := own_form ho4
  obtain ⟨zs, hzs⟩ : ∃ zs, encL u = zs := ⟨_, rfl⟩
  have HZS := Lib.hid hzs
  rw [hzs] at ho4 HEB HEL h41 ⊢
  have C2 := Lib.hid (cunits_any zs.length A4 c4 zs w4.heap.size w4 rfl (Rd.own ho4) (Nat.le_refl _) (by have := HEL.out; omega) HEB.out)
  obtain ⟨m, hm⟩ : ∃ m, zs.length = m := ⟨_, rfl⟩
  rw [hm] at C2 ⊢
  have HB4 := Lib.hid (HB3.out.trans (hb4.mono HB3.out.size))
  clear ho4 h41 hb4 C1
  go_wp2_with fail
  refine C2.out.mono ?_
  rintro e w5 ⟨v5, rfl, ho5, hb5⟩
  obtain ⟨A5, c5, rfl, -⟩ := ho5.form
  rw [hm] at ho5 ⊢
  have hbx := (HH2.out.below (HB4.out.trans (hb5.mono HB4.out.size)) (by rw [HS2.out]; omega) : Held w5 w.heap.size _ _)
  have hpx := (Held.below HP2.out (HB4.out.trans (hb5.mono HB4.out.size)) (by rw [HS2.out]; omega) : Held w5 p _ _)
  have hsz : w.heap.size + 1 ≤ w4.heap.size ∧ w4.heap.size ≤ w5.heap.size := ⟨by have := HB4.out.size; rw [HS2.out] at this; exact this, hb5.size⟩
  have b2 := hbx.cell 2
  have g2 := hbx.frozen 2
  have z0 := tcell hbx (.slice A5 m c5) 0
  have z1 := tcell hbx (.slice A5 m c5) 1
  have z2 := tcell hbx (.slice A5 m c5) 2
  have z3 := tcell hbx (.slice A5 m c5) 3
  have HBX := Lib.hid hbx
  have HPX := Lib.hid hpx
  have HSZ := Lib.hid hsz
  have HO5 := Lib.hid ho5
  have HG5 := Lib.hid (grown_seq HG2.out (grown_below (HB4.out.trans (hb5.mono HB4.out.size))))
  have HM := Lib.hid hm
  clear hbx hpx hsz ho5 hb5 C2
  go_wp2_with fail
  go_ret
  obtain ⟨W6, hW6⟩ : ∃ W, w5.setCell ⟨w.heap.size, 2, none⟩ (.slice A5 m c5) = W := ⟨_, rfl⟩
  rw [hW6]
  have hs6 : W6.heap.size = w5.heap.size := by rw [← hW6]; simp [World.setCell]
  have hg6 : w5.grownBy W6 (some w.heap.size) := by rw [← hW6]; exact grownBy_setCellK w5 ⟨w.heap.size, 2, none⟩ _
  have hsz := HSZ.out
  have hp6 : WSt W6 p (n + 1) := Held.kept HPX.out hg6 (fun e => by injection e with e; omega)
  have hu := (IR.usX (X := fun b => w4.heap.size ≤ b) HM.out HO5.out (fun b hb => hb)).step (w' := W6) (Y := fun b => b < W6.heap.size ∧ w.heap.size ≤ b) (by omega) fun b hl hx => ⟨⟨by omega, by omega⟩, hg6.block b hl (fun e => by injection e with e; omega)⟩
  have ho := wtok_own (n := n) (e := 0) (B := w.heap.size) (by omega) hu
  rw [hs6] at ho
  rw [HZS.out]
  refine ⟨_, rfl, ho, Held.alloc hp6 _, ?_⟩
  have h1 := HG5.out
  exact ⟨hg6.os.trans h1.os, hg6.tape.trans h1.tape, hg6.output.trans h1.output, by have := h1.size; simp; omega, fun k hk hr => (Below.heap_alloc W6 _ k (by omega)).trans ((hg6.block k (by have := h1.size; omega) (fun e => by injection e with e; omega)).trans (h1.block k hk hr))⟩
set_option maxRecDepth 100000 in
theorem wend_any (w : World) (p : Nat) (n : Int) (h : WSt w p n) : Calls Tryz.prog 211 #[.pointer (some ⟨p, 0, none⟩)] w fun e w' => e = .returned (.slice none 0 0) ∧ w = w' := by
  clear h
  go_enter Tryz.func211, Tryz.ntmps211
  go_wp2
  go_ret
  exact ⟨rfl, rfl⟩
set_option maxRecDepth 100000 in
theorem wheld_any (w : World) (p : Nat) (n : Int) (h : WSt w p n) : Calls Tryz.prog 212 #[.pointer (some ⟨p, 0, none⟩)] w fun e w' => e = .returned (.int .i64 0) ∧ w = w' := by
  clear h
  go_enter Tryz.func212, Tryz.ntmps212
  go_wp2
  go_ret
  exact ⟨rfl, rfl⟩
def theW : WApi where
  St := WSt
  lt := fun h => Held.lt h
  stay := fun h hk => hk.trans h
  put := fun {w p n} u h h0 h9 => by
    show Calls _ _ _ _ _
    cases hs : scB u with
    | true =>
      have e : utE n [u] = [⟨n, 1, encL u, 0⟩] := by simp [utE, hs]
      rw [e]; exact wput_yes w p n u h h0 h9 hs
    | false =>
      have e : utE n [u] = [⟨n, 1, [], 3⟩] := by simp [utE, hs]
      rw [e]; exact wput_no w p n u h h0 h9 hs
  fin := fun {w p n} h => (wend_any w p n h).mono fun e w' ⟨h1, h2⟩ => ⟨_, h1, OwnTkB.nil _ _, h2 ▸ h, h2 ▸ grownR w _⟩
  held := fun {w p n} h => (wheld_any w p n h).mono fun e w' ⟨h1, h2⟩ => ⟨h1, h2 ▸ Below.refl _ w⟩
section
variable {S L : Nat} {w w' : World} {V : Value}
end
end Go.Proofs.YtapnefjiecabpaaGreatDoor
namespace Go.Proofs.YtapnefjiecabpaaGreatDoor
set_option linter.unusedVariables false
set_option linter.unusedSimpArgs false
theorem putD_q {k : Nat} (h6 : k ≤ 6) (s : DSt) (u : Int) : (putD k s u).2.q.length ≤ 7 := by
  unfold putD
  by_cases h0 : k = 0
  · rw [if_pos h0]; have := (HD_len (s.q ++ [u])).1; show (HD (s.q ++ [u])).length ≤ 7; omega
  · rw [if_neg h0, if_neg (by omega)]
    have hg := (cdR_p (show 1 ≤ k by omega) h6).good
    exact opens_lt hg (hg.drained (s.q ++ [u]) s.a).open_
/-- behind all tokens: the end is written, unless something is wrong -/
def finS (k2 : Nat) (pol : Int) (t : ESt × List Int × Flt) : List Int × Flt := if t.2.2.err ≠ 0 then (t.2.1, t.2.2) else toksS pol t.2.1 t.2.2 (finE k2 t.1)
theorem endS_of {k1 k2 : Nat} {pol : Int} (s : SSt) (hl : s.fl = false) : ((endS k1 k2 pol s).o, (endS k1 k2 pol s).f) = finS k2 pol (takesS k2 pol s.e s.o s.f (finD k1 s.d)) := by
  unfold endS finS
  by_cases h : s.f.err ≠ 0
  · rw [if_pos (.inr h), takesS_stop h, if_pos h]
  · rw [if_neg (by rw [hl]; simp; simpa using h)]
    dsimp only
    split
    · rfl
    · rfl
theorem all_bytes {k1 k2 : Nat} (h1 : k1 ≤ 6) (h2 : k2 ≤ 6) {pol room : Int} : ∀ (us : List Int) (s : SSt), s.fl = false → FltOK s.f → s.e.q.length ≤ 7 → s.d.q.length ≤ 7 → (s.o.length : Int) + 4608 * us.length < room →
    ((endS k1 k2 pol (bytesS k1 k2 pol room s us).1).o, (endS k1 k2 pol (bytesS k1 k2 pol room s us).1).f) = finS k2 pol (takesS k2 pol s.e s.o s.f (runM (putD k1) (finD k1) s.d us))
  | [], s, hl, hf, hq, hd, hr => endS_of s hl
  | u :: us, s, hl, hf, hq, hd, hr => by
    by_cases h : s.f.err ≠ 0
    · rw [bytesS, if_neg (by simp; intro _; exact h), endS_of s hl, takesS_stop h, takesS_stop h]
    · have h8 := putD_len h1 s.d u hd
      obtain ⟨b1, b2, b3, b4⟩ := takesS_b h2 (pol := pol) (putD k1 s.d u).1 s.e s.o s.f (putD_small h1 s.d u) hq hf
      simp only [List.length_cons] at hr
      rw [bytesS, if_pos ⟨by omega, by simpa using h⟩, all_bytes h1 h2 us (byteS k1 k2 pol s u) hl b4 b1 (putD_q h1 s.d u) (by show (((takesS k2 pol s.e s.o s.f (putD k1 s.d u).1).2.1.length : Int)) + _ < _; omega)]
      simp only [runM]
      rw [takesS_app]
      rfl
theorem all_plain {k1 k2 : Nat} (h1 : k1 ≤ 6) (h2 : k2 ≤ 6) {pol : Int} (us : List Int) (hn : us.length ≤ 1000) {x : List Int} {f : Flt} (h : allS k1 k2 pol us = (x, f)) :
    (endS k1 k2 pol (bytesS k1 k2 pol 9223372036854775807 S0 us).1).o = x ∧ (endS k1 k2 pol (bytesS k1 k2 pol 9223372036854775807 S0 us).1).f = f := by
  have e := all_bytes h1 h2 (pol := pol) (room := 9223372036854775807) us S0 rfl ⟨fun _ => rfl, fun _ => rfl⟩ (by simp [S0, E0]) (by simp [S0, D0]) (by simp [S0]; omega)
  have e2 : allS k1 k2 pol us = finS k2 pol (takesS k2 pol S0.e S0.o S0.f (runM (putD k1) (finD k1) S0.d us)) := by
    show _ = finS k2 pol (takesS k2 pol E0 [] F0 (runM (putD k1) (finD k1) D0 us))
    rw [runD_eq (by omega)]
    rfl
  rw [← e2, h] at e
  injection e with a b
  exact ⟨a, b⟩
end Go.Proofs.YtapnefjiecabpaaGreatDoor
