/- Texts of this seat, one behind the other: CdVt, CdZ, MchM, StrM, CanM, StrN, StrL, CdWr, MchK, MchE, MchD, CdU8, StrK, ScX. -/
import Derived.Test.YtncpokioagpclaaGreatDoorZ34
import Derived.Test.YtncpokioagpclaaGreatDoorZ35
import Derived.Test.YtncpokioagpclaaGreatDoorZ11
import Derived.Test.YtncpokioagpclaaGreatDoorZ36
import Derived.Test.YtncpokioagpclaaGreatDoorZ4
import Derived.Test.YtncpokioagpclaaGreatDoorZ31
import Derived.Test.YtncpokioagpclaaGreatDoorZ3
import Derived.Test.YtncpokioagpclaaGreatDoorZ6
import Derived.Test.YtncpokioagpclaaGreatDoorZ9
import Derived.Test.YtncpokioagpclaaGreatDoorZ5
namespace Go.Proofs.YtncpokioagpclaaGreatDoor
set_option linter.unusedVariables false
set_option linter.unusedSimpArgs false
set_option linter.unnecessarySimpa false
open Go.RowKit
/-- a table's machine that reads -/
def DT (k S L : Nat) (w : World) (V : Value) : Prop := ∃ p R B, V = .iface 162 (.agg #[.pointer (some ⟨p, 0, none⟩)]) ∧ Stab S B w (fun W => TrieOK W B R (cdR k)) ∧ S ≤ B ∧ B ≤ p ∧ p < L ∧ L ≤ w.heap.size ∧ MAt w p R [] 0 0
/-- a table's machine that writes -/
def ET (k S L : Nat) (w : World) (V : Value) : Prop := ∃ p T B R, V = .iface 121 (.pointer (some ⟨p, 0, none⟩)) ∧ S ≤ B ∧ p < L ∧ L ≤ w.heap.size ∧ EAtF S (fun _ => False) w B p (cdR k) T R [] 0 0 []
section
variable {k S L : Nat} {w w' : World} {V : Value}
end
end Go.Proofs.YtncpokioagpclaaGreatDoor
namespace Go.Proofs.YtncpokioagpclaaGreatDoor
set_option linter.unusedVariables false
set_option linter.unusedSimpArgs false
set_option linter.unnecessarySimpa false
open Go.RowKit
theorem rput_any (p : Nat) (q : List Int) (at_ u : Int) (w : World) (hp : RdrAtT 89 w p q at_) (hq : q.length ≤ 3) (h0 : 0 ≤ at_) (h1 : at_ ≤ 2251799813685248) (hc : 0 ≤ u ∧ u ≤ 255) (hb : ∀ z ∈ q, 0 ≤ z ∧ z ≤ 255)
    (kn : List Tok) (n : Nat) (hd : List Int) (hk : KN at_ (q ++ [u]) = kn) (hn : kn.length = n) (hh : HD (q ++ [u]) = hd) :
    Calls Tryz.prog 193 #[.pointer (some ⟨p, 0, none⟩), .int .i64 u] w (RetPutT 89 w p kn n hd (at_ + q.length + 1 - hd.length)) := by
  have H := Lib.hid (put_rdr p q at_ u w hp hq h0 h1 hc hb kn n hd hk hn hh (by decide))
  obtain ⟨c0, c1⟩ := hc
  have hw : IntKind.u8.wrap u = u := by rw [IntKind.wrap_u8]; omega
  clear hp hb hk hn hh
  go_enter Tryz.func193, Tryz.ntmps193
  go_wp2_with fail
  refine H.out.mono ?_
  rintro e w1 ⟨v, xs, rfl, ho, ht, hr, hg⟩
  have HO := Lib.hid ho
  have HT := Lib.hid ht
  have HR := Lib.hid hr
  have HG := Lib.hid hg
  clear ho ht hr hg H
  go_wp2_with fail
  go_ret
  exact ⟨v, xs, rfl, HO.out, HT.out, HR.out, HG.out⟩
theorem rend_any (p : Nat) (q : List Int) (at_ : Int) (w : World) (hp : RdrAtT 89 w p q at_) (h0 : 0 ≤ at_) (h1 : at_ ≤ 2251799813685248) (kn : List Tok) (n : Nat) (hk : endK q at_ = kn) (hn : kn.length = n) :
    Calls Tryz.prog 191 #[.pointer (some ⟨p, 0, none⟩)] w (RetPutT 89 w p kn n [] (at_ + q.length)) := end_rdr p q at_ w hp h0 h1 kn n hk hn
theorem kn_small {p : Int} {zs : List Int} : ∀ t ∈ (KN p zs).map tkOf, t.out.length ≤ 8 := fun t ht => by
  obtain ⟨x, hx, rfl⟩ := List.mem_map.1 ht
  have := (knownF_out _ _ _ x hx).1
  show x.out.length ≤ 8
  omega
theorem end_small {q : List Int} {p : Int} : ∀ t ∈ (endK q p).map tkOf, t.out.length ≤ 8 := fun t ht => by
  obtain ⟨x, hx, rfl⟩ := List.mem_map.1 ht
  unfold endK at hx
  split at hx
  · cases hx
  · rw [List.mem_singleton] at hx; subst hx; simp [tkOf]
theorem HD_mem {zs : List Int} : ∀ z ∈ HD zs, z ∈ zs := heldF_mem _ _
end Go.Proofs.YtncpokioagpclaaGreatDoor
namespace Go.Proofs.YtncpokioagpclaaGreatDoor
set_option linter.unusedVariables false
set_option linter.unusedSimpArgs false
/-- what waits; where it begins; the script -/
structure DSt where
  q : List Int
  a : Int
  sc : Int
/-- .., and what stands ahead -/
structure ESt where
  q : List Int
  a : Int
  ah : List Int
  sc : Int
def D0 : DSt := ⟨[], 0, 0⟩
def E0 : ESt := ⟨[], 0, [], 0⟩
def putD (k : Nat) (s : DSt) (u : Int) : List Tk × DSt :=
  if k = 0 then ((KN s.a (s.q ++ [u])).map tkOf, ⟨HD (s.q ++ [u]), s.a + s.q.length + 1 - (HD (s.q ++ [u])).length, s.sc⟩)
  else if k = 7 then ((meanT s.sc (drain inR s.a (s.q ++ [u])).1).1, ⟨(drain inR s.a (s.q ++ [u])).2.1, s.a + s.q.length + 1 - (drain inR s.a (s.q ++ [u])).2.1.length, (meanT s.sc (drain inR s.a (s.q ++ [u])).1).2⟩)
  else ((drain (cdR k) s.a (s.q ++ [u])).1, ⟨(drain (cdR k) s.a (s.q ++ [u])).2.1, s.a + s.q.length + 1 - (drain (cdR k) s.a (s.q ++ [u])).2.1.length, s.sc⟩)
def finD (k : Nat) (s : DSt) : List Tk := if k = 0 then (endK s.q s.a).map tkOf else if k = 7 then (meanT s.sc (rewA inR s.a s.q)).1 else rewA (cdR k) s.a s.q
def eOneR (rs : List (List Int × List Int)) (q : List Int) (a : Int) (ah : List Int) (u : Int) : List Tk × List Int × Int × List Int :=
  (encF rs ah (drain (turnR rs) a (q ++ [u])).1, (drain (turnR rs) a (q ++ [u])).2.1, a + q.length + 1 - (drain (turnR rs) a (q ++ [u])).2.1.length, aheadF ah (encF rs ah (drain (turnR rs) a (q ++ [u])).1))
def putE (k : Nat) (s : ESt) (u : Int) : List Tk × ESt :=
  if k = 0 then (utE s.a [u], ⟨[], s.a + 1, [], s.sc⟩)
  else if k = 7 then ((ePut s.q s.a s.ah s.sc u).1, ⟨(ePut s.q s.a s.ah s.sc u).2.1, (ePut s.q s.a s.ah s.sc u).2.2.1, (ePut s.q s.a s.ah s.sc u).2.2.2.1, (ePut s.q s.a s.ah s.sc u).2.2.2.2⟩)
  else ((eOneR (cdR k) s.q s.a s.ah u).1, ⟨(eOneR (cdR k) s.q s.a s.ah u).2.1, (eOneR (cdR k) s.q s.a s.ah u).2.2.1, (eOneR (cdR k) s.q s.a s.ah u).2.2.2, s.sc⟩)
def finE (k : Nat) (s : ESt) : List Tk := if k = 0 then [] else if k = 7 then encF inR s.ah (rewA (turnR inR) s.a s.q) else encF (cdR k) s.ah (rewA (turnR (cdR k)) s.a s.q)
end Go.Proofs.YtncpokioagpclaaGreatDoor
namespace Go.Proofs.YtncpokioagpclaaGreatDoor
set_option linter.unusedVariables false
set_option linter.unusedSimpArgs false
/-- what is wrong: on which side, where, what -/
structure Flt where
  side : Int
  at_ : Int
  err : Int
def F0 : Flt := ⟨0, 0, 0⟩
/-- what is owed, and what is wrong, behind tokens that are written -/
def toksS (pol : Int) : List Int → Flt → List Tk → List Int × Flt
  | o, f, [] => (o, f)
  | o, f, t :: ts => if f.err ≠ 0 then (o, f) else if t.err = 0 then toksS pol (o ++ t.out.map (· % 256)) f ts else if pol = 0 then toksS pol o ⟨2, t.pos, t.err⟩ ts else if pol = 1 then toksS pol (o ++ [63]) f ts else toksS pol o f ts
theorem toksS_stop {pol : Int} {o : List Int} {f : Flt} (h : f.err ≠ 0) : ∀ ts : List Tk, toksS pol o f ts = (o, f)
  | [] => rfl
  | t :: ts => by rw [toksS, if_pos h]
theorem toksS_app (pol : Int) : ∀ (a b : List Tk) (o : List Int) (f : Flt), toksS pol o f (a ++ b) = toksS pol (toksS pol o f a).1 (toksS pol o f a).2 b
  | [], b, o, f => rfl
  | t :: a, b, o, f => by
    simp only [List.cons_append, toksS]
    by_cases h : f.err ≠ 0
    · rw [if_pos h, if_pos h, toksS_stop h]
    · rw [if_neg h, if_neg h]
      split
      · exact toksS_app pol a b _ _
      · split
        · exact toksS_app pol a b _ _
        · split
          · exact toksS_app pol a b _ _
          · exact toksS_app pol a b _ _
/-- behind scalars that are written, one by one -/
def writeS (k : Nat) (pol : Int) : ESt → List Int → Flt → List Int → ESt × List Int × Flt
  | e, o, f, [] => (e, o, f)
  | e, o, f, u :: us => if f.err ≠ 0 then writeS k pol e o f us else writeS k pol (putE k e u).2 (toksS pol o f (putE k e u).1).1 (toksS pol o f (putE k e u).1).2 us
theorem writeS_stop {k : Nat} {pol : Int} {e : ESt} {o : List Int} {f : Flt} (h : f.err ≠ 0) : ∀ us : List Int, writeS k pol e o f us = (e, o, f)
  | [] => rfl
  | u :: us => by rw [writeS, if_pos h]; exact writeS_stop h us
theorem writeS_snoc (k : Nat) (pol : Int) : ∀ (us : List Int) (e : ESt) (o : List Int) (f : Flt) (u : Int), writeS k pol e o f (us ++ [u]) = writeS k pol (writeS k pol e o f us).1 (writeS k pol e o f us).2.1 (writeS k pol e o f us).2.2 [u]
  | [], e, o, f, u => rfl
  | x :: us, e, o, f, u => by
    simp only [List.cons_append, writeS]
    split
    · exact writeS_snoc k pol us e o f u
    · exact writeS_snoc k pol us _ _ _ u
/-- what is written of a token that is read -/
def outS (pol : Int) (t : Tk) : List Int := if t.err ≠ 0 then (if pol = 1 then [65533] else []) else t.out
/-- behind a token that is read -/
def takeS (k : Nat) (pol : Int) (e : ESt) (o : List Int) (f : Flt) (t : Tk) : ESt × List Int × Flt :=
  let (e1, o1, f1) := writeS k pol e o f (outS pol t)
  if t.err ≠ 0 ∧ pol = 0 ∧ f1.err = 0 then
    let (o2, f2) := toksS pol o1 f1 (finE k e1)
    if f2.err = 0 then (e1, o2, ⟨1, t.pos, t.err⟩) else (e1, o2, f2)
  else (e1, o1, f1)
/-- behind tokens that are read -/
def takesS (k : Nat) (pol : Int) : ESt → List Int → Flt → List Tk → ESt × List Int × Flt
  | e, o, f, [] => (e, o, f)
  | e, o, f, t :: ts => if f.err ≠ 0 then (e, o, f) else takesS k pol (takeS k pol e o f t).1 (takeS k pol e o f t).2.1 (takeS k pol e o f t).2.2 ts
theorem takesS_stop {k : Nat} {pol : Int} {e : ESt} {o : List Int} {f : Flt} (h : f.err ≠ 0) (ts : List Tk) : takesS k pol e o f ts = (e, o, f) := by
  cases ts with
  | nil => rfl
  | cons t ts => rw [takesS, if_pos h]
theorem takesS_app (k : Nat) (pol : Int) : ∀ (a b : List Tk) (e : ESt) (o : List Int) (f : Flt), takesS k pol e o f (a ++ b) = takesS k pol (takesS k pol e o f a).1 (takesS k pol e o f a).2.1 (takesS k pol e o f a).2.2 b
  | [], b, e, o, f => rfl
  | t :: a, b, e, o, f => by
    simp only [List.cons_append, takesS]
    by_cases h : f.err ≠ 0
    · rw [if_pos h, if_pos h, takesS_stop h]
    · rw [if_neg h, if_neg h]
      exact takesS_app k pol a b _ _ _
end Go.Proofs.YtncpokioagpclaaGreatDoor
namespace Go.Proofs.YtncpokioagpclaaGreatDoor
set_option linter.unusedVariables false
set_option linter.unusedSimpArgs false
theorem writeS_app (k : Nat) (pol : Int) : ∀ (a b : List Int) (e : ESt) (o : List Int) (f : Flt), writeS k pol e o f (a ++ b) = writeS k pol (writeS k pol e o f a).1 (writeS k pol e o f a).2.1 (writeS k pol e o f a).2.2 b
  | [], b, e, o, f => rfl
  | x :: a, b, e, o, f => by
    simp only [List.cons_append, writeS]
    split
    · exact writeS_app k pol a b e o f
    · exact writeS_app k pol a b _ _ _
/-- rules of one unit each: each unit is a token -/
theorem one_shut {ts : List (List Int × List Int)} (hg : Good ts) (h1 : ∀ r ∈ ts, r.1.length = 1) (u : Int) : opens ts [u] = false := by
  obtain ⟨k, n, o, hl, hls⟩ := hg.long [u]
  unfold opens
  rw [hl]
  show o = false
  cases ho : o with
  | false => rfl
  | true =>
    obtain ⟨r, hr, h2, _⟩ := hls.op.1 ho
    have := h1 r hr
    simp at h2
    omega
end Go.Proofs.YtncpokioagpclaaGreatDoor
namespace Go.Proofs.YtncpokioagpclaaGreatDoor
set_option linter.unusedVariables false
set_option linter.unusedSimpArgs false
/-- both machines, what is owed, what is wrong; flushed, closed -/
structure SSt where
  d : DSt
  e : ESt
  o : List Int
  f : Flt
  fl : Bool
  cl : Bool
def S0 : SSt := ⟨D0, E0, [], F0, false, false⟩
/-- behind a byte -/
def byteS (k1 k2 : Nat) (pol : Int) (s : SSt) (u : Int) : SSt :=
  { s with d := (putD k1 s.d u).2, e := (takesS k2 pol s.e s.o s.f (putD k1 s.d u).1).1, o := (takesS k2 pol s.e s.o s.f (putD k1 s.d u).1).2.1, f := (takesS k2 pol s.e s.o s.f (putD k1 s.d u).1).2.2 }
/-- behind bytes, as long as there is room: how many were taken -/
def bytesS (k1 k2 : Nat) (pol : Int) (room : Int) : SSt → List Int → SSt × Int
  | s, [] => (s, 0)
  | s, u :: us => if (s.o.length : Int) < room ∧ s.f.err = 0 then ((bytesS k1 k2 pol room (byteS k1 k2 pol s u) us).1, (bytesS k1 k2 pol room (byteS k1 k2 pol s u) us).2 + 1) else (s, 0)
/-- what is paid: bytes, what is told, what is then -/
def payS (room : Int) (s : SSt) : List Int × Int × SSt :=
  (s.o.take room.toNat, if s.o.drop room.toNat ≠ [] then 4 else s.f.err, { s with o := s.o.drop room.toNat, cl := s.cl || (decide (s.o.drop room.toNat = []) && decide (s.f.err ≠ 0)) })
/-- Feed: bytes, how many were taken, what is told, what is then -/
def feedS (k1 k2 : Nat) (pol room : Int) (s : SSt) (us : List Int) : List Int × Int × Int × SSt :=
  if s.cl = true ∨ s.fl = true then ([], 0, 5, s) else if room < 16 then ([], 0, 9, s)
  else ((payS room (bytesS k1 k2 pol room s us).1).1, (bytesS k1 k2 pol room s us).2, (payS room (bytesS k1 k2 pol room s us).1).2.1, (payS room (bytesS k1 k2 pol room s us).1).2.2)
/-- behind the end -/
def endS (k1 k2 : Nat) (pol : Int) (s : SSt) : SSt :=
  if s.fl = true ∨ s.f.err ≠ 0 then { s with fl := true }
  else
    let t := takesS k2 pol s.e s.o s.f (finD k1 s.d)
    if t.2.2.err ≠ 0 then { s with e := t.1, o := t.2.1, f := t.2.2, fl := true }
    else { s with e := t.1, o := (toksS pol t.2.1 t.2.2 (finE k2 t.1)).1, f := (toksS pol t.2.1 t.2.2 (finE k2 t.1)).2, fl := true }
/-- Flush -/
def flushS (k1 k2 : Nat) (pol room : Int) (s : SSt) : List Int × Int × SSt :=
  if s.cl = true then ([], 5, s) else if room < 16 then ([], 9, s)
  else ((payS room (endS k1 k2 pol s)).1, (payS room (endS k1 k2 pol s)).2.1, { (payS room (endS k1 k2 pol s)).2.2 with cl := (payS room (endS k1 k2 pol s)).2.2.cl || decide ((payS room (endS k1 k2 pol s)).2.1 = 0) })
theorem one_drain {rs : List (List Int × List Int)} (hg : Good rs) (h1 : ∀ r ∈ rs, r.1.length = 1) (u a : Int) : (drain rs a [u]).1 = rewA rs a [u] ∧ (drain rs a [u]).2.1 = [] := by
  have hD := hg.drained [u] a
  obtain ⟨t, r, n, hd⟩ : ∃ t r n, drain rs a [u] = (t, r, n) := ⟨_, _, _, rfl⟩
  rw [hd] at hD ⊢
  obtain ⟨⟨pre, htl⟩, hall, hop, hc, -⟩ := hD
  simp only at htl hall hop hc ⊢
  have hr : r = [] := by
    cases r with
    | nil => rfl
    | cons y ys =>
      have e : pre = [] ∧ y = u ∧ ys = [] := by
        cases pre with
        | nil => simpa [eq_comm] using htl
        | cons p ps => simp at htl
      obtain ⟨-, rfl, rfl⟩ := e
      rcases hop with h | h
      · cases h
      · rw [one_shut hg h1] at h; cases h
  subst hr
  have e2 := hall []
  simp [rewA_nil] at e2
  exact ⟨e2.symm, rfl⟩
end Go.Proofs.YtncpokioagpclaaGreatDoor
namespace Go.Proofs.YtncpokioagpclaaGreatDoor
set_option linter.unusedVariables false
set_option linter.unusedSimpArgs false
/-- what is wrong is told by a side and an error at once -/
def FltOK (f : Flt) : Prop := f.side = 0 ↔ f.err = 0
theorem toksS_ok {pol : Int} : ∀ (ts : List Tk) (o : List Int) (f : Flt), FltOK f → FltOK (toksS pol o f ts).2
  | [], o, f, h => h
  | t :: ts, o, f, h => by
    unfold toksS
    split
    · exact h
    · split
      · exact toksS_ok ts _ _ h
      · rename_i h1 h2
        split
        · exact toksS_ok ts _ _ ⟨fun e => absurd (show (2 : Int) = 0 from e) (by decide), fun e => absurd e h2⟩
        · split
          · exact toksS_ok ts _ _ h
          · exact toksS_ok ts _ _ h
theorem toksS_len {pol : Int} : ∀ (ts : List Tk) (o : List Int) (f : Flt), (∀ t ∈ ts, t.out.length ≤ 8) → (toksS pol o f ts).1.length ≤ o.length + 8 * ts.length
  | [], o, f, h => by simp [toksS]
  | t :: ts, o, f, h => by
    have h0 := h t List.mem_cons_self
    have ih := fun o f => toksS_len (pol := pol) ts o f fun x hx => h x (List.mem_cons_of_mem _ hx)
    unfold toksS
    split
    · simp
    · split
      · have := ih (o ++ t.out.map (· % 256)) f; simp only [List.length_append, List.length_map, List.length_cons] at this ⊢; omega
      · split
        · have := ih o ⟨2, t.pos, t.err⟩; simp only [List.length_cons] at this ⊢; omega
        · split
          · have := ih (o ++ [63]) f; simp only [List.length_append, List.length_cons, List.length_nil] at this ⊢; omega
          · have := ih o f; simp only [List.length_cons] at this ⊢; omega
theorem drain_small {rs : List (List Int × List Int)} (hg : Good rs) (us : List Int) (a : Int) : ∀ t ∈ (drain rs a us).1, t.out.length ≤ 8 := by
  have h1 := (hg.drained us a).all []
  exact fun t ht => (hg.rew_tk (us ++ []) a t (by rw [h1]; exact List.mem_append.2 (.inl ht))).len
theorem putD_small {k : Nat} (h6 : k ≤ 6) (s : DSt) (u : Int) : ∀ t ∈ (putD k s u).1, t.out.length ≤ 8 := by
  unfold putD
  by_cases h0 : k = 0
  · rw [if_pos h0]; exact kn_small
  · rw [if_neg h0, if_neg (by omega)]; exact drain_small (cdR_p (by omega) h6).good _ _
theorem putD_len {k : Nat} (h6 : k ≤ 6) (s : DSt) (u : Int) (hq : s.q.length ≤ 7) : (putD k s u).1.length ≤ 8 := by
  unfold putD
  by_cases h0 : k = 0
  · rw [if_pos h0]
    have := KN_len s.a (s.q ++ [u])
    simp only [List.length_map, List.length_append, List.length_singleton] at this ⊢
    omega
  · rw [if_neg h0, if_neg (by omega)]
    have := ((cdR_p (show 1 ≤ k by omega) h6).good.drained (s.q ++ [u]) s.a).count
    simp only [List.length_append, List.length_singleton] at this ⊢
    omega
theorem putD_a {k : Nat} (h6 : k ≤ 6) (s : DSt) (u : Int) : (putD k s u).2.a + ((putD k s u).2.q.length : Int) = s.a + s.q.length + 1 := by
  unfold putD
  by_cases h0 : k = 0
  · rw [if_pos h0]; simp only; omega
  · rw [if_neg h0, if_neg (by omega)]; simp only; omega
theorem finD_small {k : Nat} (h6 : k ≤ 6) (s : DSt) : ∀ t ∈ finD k s, t.out.length ≤ 8 := by
  unfold finD
  by_cases h0 : k = 0
  · rw [if_pos h0]; exact end_small
  · rw [if_neg h0, if_neg (by omega)]; exact rewA_out (cdR_p (by omega) h6).good _ _
theorem finD_len {k : Nat} (h6 : k ≤ 6) (s : DSt) (hq : s.q.length ≤ 7) : (finD k s).length ≤ 8 := by
  unfold finD
  by_cases h0 : k = 0
  · rw [if_pos h0, List.length_map]; unfold endK; split <;> simp
  · rw [if_neg h0, if_neg (by omega)]; have := (cdR_p (show 1 ≤ k by omega) h6).good.rew_len s.q s.a; omega
theorem putE_small {k : Nat} (h6 : k ≤ 6) (s : ESt) (u : Int) : ∀ t ∈ (putE k s u).1, t.out.length ≤ 8 := by
  unfold putE
  by_cases h0 : k = 0
  · rw [if_pos h0]; exact fun t ht => by have := utE_small s.a [u] t ht; omega
  · rw [if_neg h0, if_neg (by omega)]; exact encF_out _ _ _ (drain_small (cdR_p (by omega) h6).goodT _ _)
theorem putE_len {k : Nat} (h6 : k ≤ 6) (s : ESt) (u : Int) (hq : s.q.length ≤ 7) : (putE k s u).1.length ≤ 8 := by
  unfold putE
  by_cases h0 : k = 0
  · rw [if_pos h0]; simp only; rw [utE_len]; simp
  · rw [if_neg h0, if_neg (by omega)]
    have := ((cdR_p (show 1 ≤ k by omega) h6).goodT.drained (s.q ++ [u]) s.a).count
    simp only [eOneR, encF_len, List.length_append, List.length_singleton] at this ⊢
    omega
theorem putE_a {k : Nat} (h6 : k ≤ 6) (s : ESt) (u : Int) : (putE k s u).2.a + ((putE k s u).2.q.length : Int) ≤ s.a + s.q.length + 1 := by
  unfold putE
  by_cases h0 : k = 0
  · rw [if_pos h0]; simp only [List.length_nil]; omega
  · rw [if_neg h0, if_neg (by omega)]; simp only [eOneR]; omega
theorem finE_small {k : Nat} (h6 : k ≤ 6) (s : ESt) : ∀ t ∈ finE k s, t.out.length ≤ 8 := by
  unfold finE
  by_cases h0 : k = 0
  · rw [if_pos h0]; intro t ht; cases ht
  · rw [if_neg h0, if_neg (by omega)]; exact encF_out _ _ _ (rewA_out (cdR_p (by omega) h6).goodT _ _)
theorem finE_len {k : Nat} (h6 : k ≤ 6) (s : ESt) (hq : s.q.length ≤ 7) : (finE k s).length ≤ 8 := by
  unfold finE
  by_cases h0 : k = 0
  · rw [if_pos h0]; simp
  · rw [if_neg h0, if_neg (by omega), encF_len]; have := (cdR_p (show 1 ≤ k by omega) h6).goodT.rew_len s.q s.a; omega
/-- behind scalars that are written: how far the encoder is, how much is owed -/
theorem outS_len {pol : Int} {t : Tk} (h : t.out.length ≤ 8) : (outS pol t).length ≤ 8 := by
  unfold outS; split
  · split <;> simp
  · exact h
theorem putE_q {k : Nat} (h6 : k ≤ 6) (s : ESt) (u : Int) : (putE k s u).2.q.length ≤ 7 := by
  unfold putE
  by_cases h0 : k = 0
  · rw [if_pos h0]; simp
  · rw [if_neg h0, if_neg (by omega)]
    have hg := (cdR_p (show 1 ≤ k by omega) h6).goodT
    exact opens_lt hg (hg.drained (s.q ++ [u]) s.a).open_
theorem writeS_b {k : Nat} (h6 : k ≤ 6) {pol : Int} : ∀ (us : List Int) (e : ESt) (o : List Int) (f : Flt), e.q.length ≤ 7 → FltOK f → (writeS k pol e o f us).1.q.length ≤ 7 ∧ (writeS k pol e o f us).1.a + ((writeS k pol e o f us).1.q.length : Int) ≤ e.a + e.q.length + us.length ∧ (writeS k pol e o f us).2.1.length ≤ o.length + 64 * us.length ∧ FltOK (writeS k pol e o f us).2.2
  | [], e, o, f, h, hf => by simp only [writeS, List.length_nil]; exact ⟨h, by omega, by omega, hf⟩
  | u :: us, e, o, f, h, hf => by
    by_cases h0 : f.err ≠ 0
    · rw [writeS_stop h0]; simp only [List.length_cons]; exact ⟨h, by omega, by omega, hf⟩
    · rw [writeS, if_neg h0]
      obtain ⟨g1, g2, g3, g4⟩ := writeS_b h6 (pol := pol) us (putE k e u).2 (toksS pol o f (putE k e u).1).1 (toksS pol o f (putE k e u).1).2 (putE_q h6 e u) (toksS_ok _ _ _ hf)
      have h1 := putE_a h6 e u
      have h2 := toksS_len (pol := pol) (putE k e u).1 o f (putE_small h6 e u)
      have h3 := putE_len h6 e u h
      simp only [List.length_cons]
      exact ⟨g1, by omega, by omega, g4⟩
theorem takeS_b {k : Nat} (h6 : k ≤ 6) {pol : Int} (e : ESt) (o : List Int) (f : Flt) (t : Tk) (ht : t.out.length ≤ 8) (h : e.q.length ≤ 7) (hf : FltOK f) : (takeS k pol e o f t).1.q.length ≤ 7 ∧ (takeS k pol e o f t).1.a + ((takeS k pol e o f t).1.q.length : Int) ≤ e.a + e.q.length + 8 ∧ (takeS k pol e o f t).2.1.length ≤ o.length + 576 ∧ FltOK (takeS k pol e o f t).2.2 := by
  obtain ⟨g1, g2, g3, g4⟩ := writeS_b h6 (pol := pol) (outS pol t) e o f h hf
  have h8 := outS_len (pol := pol) ht
  obtain ⟨e1, o1, f1, hw⟩ : ∃ e1 o1 f1, writeS k pol e o f (outS pol t) = (e1, o1, f1) := ⟨_, _, _, rfl⟩
  rw [hw] at g1 g2 g3 g4
  simp only at g1 g2 g3 g4
  unfold takeS
  rw [hw]
  dsimp only
  split
  · rename_i hc
    have h2 := toksS_len (pol := pol) (finE k e1) o1 f1 (finE_small h6 e1)
    have h3 := finE_len h6 e1 g1
    have h4 := toksS_ok (pol := pol) (finE k e1) o1 f1 g4
    split
    · exact ⟨g1, by show e1.a + (e1.q.length : Int) ≤ _; omega, by show (toksS pol o1 f1 (finE k e1)).1.length ≤ _; omega, ⟨fun e => absurd (show (1 : Int) = 0 from e) (by decide), fun e => absurd e hc.1⟩⟩
    · exact ⟨g1, by show e1.a + (e1.q.length : Int) ≤ _; omega, by show (toksS pol o1 f1 (finE k e1)).1.length ≤ _; omega, h4⟩
  · exact ⟨g1, by show e1.a + (e1.q.length : Int) ≤ _; omega, by show o1.length ≤ _; omega, g4⟩
theorem takesS_b {k : Nat} (h6 : k ≤ 6) {pol : Int} : ∀ (ts : List Tk) (e : ESt) (o : List Int) (f : Flt), (∀ t ∈ ts, t.out.length ≤ 8) → e.q.length ≤ 7 → FltOK f → (takesS k pol e o f ts).1.q.length ≤ 7 ∧ (takesS k pol e o f ts).1.a + ((takesS k pol e o f ts).1.q.length : Int) ≤ e.a + e.q.length + 8 * ts.length ∧ (takesS k pol e o f ts).2.1.length ≤ o.length + 576 * ts.length ∧ FltOK (takesS k pol e o f ts).2.2
  | [], e, o, f, _, h, hf => by simp only [takesS, List.length_nil]; exact ⟨h, by omega, by omega, hf⟩
  | t :: ts, e, o, f, ht, h, hf => by
    by_cases h0 : f.err ≠ 0
    · rw [takesS_stop h0]; simp only [List.length_cons]; exact ⟨h, by omega, by omega, hf⟩
    · rw [takesS, if_neg h0]
      obtain ⟨b1, b2, b3, b4⟩ := takeS_b h6 (pol := pol) e o f t (ht t List.mem_cons_self) h hf
      obtain ⟨g1, g2, g3, g4⟩ := takesS_b h6 (pol := pol) ts (takeS k pol e o f t).1 (takeS k pol e o f t).2.1 (takeS k pol e o f t).2.2 (fun x hx => ht x (List.mem_cons_of_mem _ hx)) b1 b4
      simp only [List.length_cons]
      exact ⟨g1, by omega, by omega, g4⟩
/-- behind a fault nothing more -/
theorem writeS_end {k : Nat} {pol : Int} {e e1 : ESt} {o o1 : List Int} {f f1 : Flt} {us : List Int} {K : Nat} (h : writeS k pol e o f (us.take K) = (e1, o1, f1)) (hf : f1.err ≠ 0) : writeS k pol e o f us = (e1, o1, f1) := by
  rw [← List.take_append_drop K us, writeS_app, h]
  exact writeS_stop hf _
theorem takesS_end {k : Nat} {pol : Int} {e e1 : ESt} {o o1 : List Int} {f f1 : Flt} {ts : List Tk} {K : Nat} (h : takesS k pol e o f (ts.take K) = (e1, o1, f1)) (hf : f1.err ≠ 0) : takesS k pol e o f ts = (e1, o1, f1) := by
  rw [← List.take_append_drop K ts, takesS_app, h]
  exact takesS_stop hf _
end Go.Proofs.YtncpokioagpclaaGreatDoor
namespace Go.Proofs.YtncpokioagpclaaGreatDoor
set_option linter.unusedVariables false
set_option linter.unusedSimpArgs false
set_option linter.unnecessarySimpa false
open Go.RowKit
/-- UTF-8's machine that writes: at block p; n were put -/
structure WApi where
  St : World → Nat → Int → Prop
  lt : ∀ {w : World} {p : Nat} {n : Int}, St w p n → p < w.heap.size
  stay : ∀ {w w' : World} {p : Nat} {n : Int}, St w p n → w'.heap[p]? = w.heap[p]? → St w' p n
  put : ∀ {w : World} {p : Nat} {n : Int} (u : Int), St w p n → 0 ≤ n → n ≤ 100000 → Calls Tryz.prog 215 #[.pointer (some ⟨p, 0, none⟩), .int .i64 u] w fun e w' => ∃ v, e = .returned v ∧ OwnTkB w.heap.size w' v (utE n [u]) ∧ St w' p (n + 1) ∧ w.grownBy w' (some p)
  fin : ∀ {w : World} {p : Nat} {n : Int}, St w p n → Calls Tryz.prog 213 #[.pointer (some ⟨p, 0, none⟩)] w fun e w' => ∃ v, e = .returned v ∧ OwnTkB w.heap.size w' v [] ∧ St w' p n ∧ w.grownBy w' (some p)
  held : ∀ {w : World} {p : Nat} {n : Int}, St w p n → Calls Tryz.prog 214 #[.pointer (some ⟨p, 0, none⟩)] w fun e w' => e = .returned (.int .i64 0) ∧ Below w.heap.size w w'
end Go.Proofs.YtncpokioagpclaaGreatDoor
namespace Go.Proofs.YtncpokioagpclaaGreatDoor
set_option linter.unusedVariables false
set_option linter.unusedSimpArgs false
set_option linter.unnecessarySimpa false
open Go.RowKit
/-- function f is entered -/
def Enters (f : FuncId) : Prop := ∀ (args : Array Value) (W : World), (callFunc f args).run Tryz.prog W = .ok (.enter f args) W
/-- V's methods are these functions, of r -/
def Kind (V : Value) (fP fE fH : FuncId) (r : Value) : Prop := ∃ T x, V = .iface T x ∧ (∀ (n : Nat) (W : World), (method (n + 1) T x "Put").run Tryz.prog W = .ok (fP, r) W) ∧ (∀ (n : Nat) (W : World), (method (n + 1) T x "End").run Tryz.prog W = .ok (fE, r) W) ∧ (∀ (n : Nat) (W : World), (method (n + 1) T x "Held").run Tryz.prog W = .ok (fH, r) W) ∧ Enters fP ∧ Enters fE ∧ Enters fH
def vE (k p : Nat) : Value := if k = 0 then .iface 116 (.pointer (some ⟨p, 0, none⟩)) else if k = 7 then .iface 119 (.pointer (some ⟨p, 0, none⟩)) else .iface 121 (.pointer (some ⟨p, 0, none⟩))
def fPE (k : Nat) : FuncId := if k = 0 then 215 else if k = 7 then 219 else 225
def fEE (k : Nat) : FuncId := if k = 0 then 213 else if k = 7 then 217 else 221
def fHE (k : Nat) : FuncId := if k = 0 then 214 else if k = 7 then 218 else 222
def vD (k p : Nat) : Value := if k = 0 then .iface 84 (.pointer (some ⟨p, 0, none⟩)) else if k = 7 then .iface 90 (.pointer (some ⟨p, 0, none⟩)) else .iface 162 (.agg #[.pointer (some ⟨p, 0, none⟩)])
def fPD (k : Nat) : FuncId := if k = 0 then 193 else if k = 7 then 201 else 231
def fED (k : Nat) : FuncId := if k = 0 then 191 else if k = 7 then 199 else 228
def fHD (k : Nat) : FuncId := if k = 0 then 192 else if k = 7 then 200 else 229
theorem kindE (k p : Nat) : Kind (vE k p) (fPE k) (fEE k) (fHE k) (.pointer (some ⟨p, 0, none⟩)) := by
  unfold vE fPE fEE fHE
  by_cases h0 : k = 0
  · simp only [if_pos h0]
    exact ⟨_, _, rfl, fun n W => by kernel_rfl, fun n W => by kernel_rfl, fun n W => by kernel_rfl, fun a W => by kernel_rfl, fun a W => by kernel_rfl, fun a W => by kernel_rfl⟩
  · simp only [if_neg h0]
    by_cases h7 : k = 7
    · simp only [if_pos h7]
      exact ⟨_, _, rfl, fun n W => by kernel_rfl, fun n W => by kernel_rfl, fun n W => by kernel_rfl, fun a W => by kernel_rfl, fun a W => by kernel_rfl, fun a W => by kernel_rfl⟩
    · simp only [if_neg h7]
      exact ⟨_, _, rfl, fun n W => by kernel_rfl, fun n W => by kernel_rfl, fun n W => by kernel_rfl, fun a W => by kernel_rfl, fun a W => by kernel_rfl, fun a W => by kernel_rfl⟩
theorem kindD (k p : Nat) : Kind (vD k p) (fPD k) (fED k) (fHD k) (.pointer (some ⟨p, 0, none⟩)) := by
  unfold vD fPD fED fHD
  by_cases h0 : k = 0
  · simp only [if_pos h0]
    exact ⟨_, _, rfl, fun n W => by kernel_rfl, fun n W => by kernel_rfl, fun n W => by kernel_rfl, fun a W => by kernel_rfl, fun a W => by kernel_rfl, fun a W => by kernel_rfl⟩
  · simp only [if_neg h0]
    by_cases h7 : k = 7
    · simp only [if_pos h7]
      exact ⟨_, _, rfl, fun n W => by kernel_rfl, fun n W => by kernel_rfl, fun n W => by kernel_rfl, fun a W => by kernel_rfl, fun a W => by kernel_rfl, fun a W => by kernel_rfl⟩
    · simp only [if_neg h7]
      exact ⟨_, _, rfl, fun n W => by kernel_rfl, fun n W => by kernel_rfl, fun n W => by kernel_rfl, fun a W => by kernel_rfl, fun a W => by kernel_rfl, fun a W => by kernel_rfl⟩
end Go.Proofs.YtncpokioagpclaaGreatDoor
namespace Go.Proofs.YtncpokioagpclaaGreatDoor
set_option linter.unusedVariables false
set_option linter.unusedSimpArgs false
set_option linter.unnecessarySimpa false
open Go.RowKit
/-- a table's encoder at block p -/
structure TE (k : Nat) (G F : Nat → Prop) (w : World) (p T B L : Nat) (R : List Value) (st : Int) (s : ESt) : Prop where
  gp : G p
  ge : ∀ b, G b → b = p
  fp : F p
  lt : ∀ b, F b → b < w.heap.size
  lp : L ≤ p
  en : EAtF L (fun b => F b ∧ b ≠ p) w B p (cdR k) T R s.q s.a st s.ah
  fl : ∀ b, L ≤ b → b ≤ p → F b
  s0 : 0 ≤ st
  s1 : st + 7 * s.q.length ≤ 200 * (s.a + s.q.length)
  op : s.q = [] ∨ opens (turnR (cdR k)) s.q = true
section
variable {k : Nat} {G F : Nat → Prop} {w w' : World} {p T B L : Nat} {R : List Value} {st : Int} {s : ESt}
theorem TE.stay (h : TE k G F w p T B L R st s) (hs : w.heap.size ≤ w'.heap.size) (hk : ∀ b, F b → w'.heap[b]? = w.heap[b]?) : TE k G F w' p T B L R st s :=
  ⟨h.gp, h.ge, h.fp, fun b hb => Nat.lt_of_lt_of_le (h.lt b hb) hs, h.lp, h.en.stay hs (fun b h1 h2 => hk b (h.fl b h1 h2)) (fun b _ hx => hk b hx.1), h.fl, h.s0, h.s1, h.op⟩
theorem TE.back {R' : List Value} {st' : Int} {s' : ESt} {v : Value} (h : TE k G F w p T B L R st s) (hg : w.grownBy w' (some p)) (hn : EAtF L (fun b => ((F b ∧ b ≠ p) ∨ w.heap.size ≤ b) ∧ v.ownBlock ≠ some b) w' B p (cdR k) T R' s'.q s'.a st' s'.ah) (hv : ∀ b, v.ownBlock = some b → w.heap.size ≤ b) (h0 : 0 ≤ st') (h1 : st' + 7 * s'.q.length ≤ 200 * (s'.a + s'.q.length)) (ho : s'.q = [] ∨ opens (turnR (cdR k)) s'.q = true) :
    TE k G (fun b => F b ∨ (w.heap.size ≤ b ∧ b < w'.heap.size ∧ v.ownBlock ≠ some b)) w' p T B L R' st' s' ∧ (∀ b, v.ownBlock = some b → ¬ (F b ∨ (w.heap.size ≤ b ∧ b < w'.heap.size ∧ v.ownBlock ≠ some b))) := by
  have hml := h.lt p h.fp
  have hs := hg.size
  refine ⟨⟨h.gp, h.ge, .inl h.fp, ?_, h.lp, hn.with (Nat.le_refl _) (fun _ _ _ => rfl) rfl (fun b hl hx => ⟨?_, rfl⟩) (fun b hb => hb.2) hn.is, fun b h1 h2 => .inl (h.fl b h1 h2), h0, h1, ho⟩, ?_⟩
  · rintro b (hb | hb)
    · have := h.lt b hb; omega
    · exact hb.2.1
  · obtain ⟨hx1 | hx1, hx2⟩ := hx
    · exact ⟨.inl hx1.1, hx1.2⟩
    · exact ⟨.inr ⟨hx1, hl, hx2⟩, by omega⟩
  · rintro b e (hb | hb)
    · have := h.lt b hb; have := hv b e; omega
    · exact hb.2.2 e
theorem TE.front (h : TE k G F w p T B L R st s) : EAtF L (fun b => (F b ∧ b ≠ p) ∨ w.heap.size ≤ b) w B p (cdR k) T R s.q s.a st s.ah :=
  h.en.weak (fun b hb => .inl hb) (fun b hb => by have hml := h.lt p h.fp; rcases hb with h1 | h1; exact h1.2; omega)
theorem drain_lk7 {rs : List Rl} (hg : Good rs) {q rest : List Int} {u a : Int} {ts : List Tk} {n : Nat} (hd : drain rs a (q ++ [u]) = (ts, rest, n)) (hq : q.length ≤ 7) : n ≤ 72 ∧ rest.length ≤ q.length + 1 ∧ (rest = [] ∨ opens rs rest = true) ∧ ts.length ≤ 8 := by
  have hD := hg.drained (q ++ [u]) a
  rw [hd] at hD
  obtain ⟨_, _, ho, hc, hl⟩ := hD
  simp only [List.length_append, List.length_singleton] at hc hl ho
  have := hl 8 (by omega)
  exact ⟨by omega, by omega, ho, by omega⟩
/-- what a machine's call leaves -/
theorem told_grown {G F F' : Nat → Prop} {w w' : World} {v : Value} {p : Nat} {fr : Prop} (hg : w.grownBy w' (some p)) (hp : G p) (hG : ∀ b, G b → b < w.heap.size) (hF : ∀ b, F' b → F b ∨ w.heap.size ≤ b) (hn : ∀ b, v.ownBlock = some b → ¬ F' b) : Told G G F F' w w' v w.heap.size fr :=
  ⟨Nat.le_refl _, hg.size, hG, hF, fun b hb => .inl hb, .inl fun b hb => hb, hn, Mid.by hg hp⟩
theorem TE.put (h : TE k G F w p T B L R st s) (h1 : 1 ≤ k) (h6 : k ≤ 6) (u : Int) (h0 : 0 ≤ s.a) (h9 : s.a ≤ 1000000) :
    Calls Tryz.prog 225 #[.pointer (some ⟨p, 0, none⟩), .int .i64 u] w fun e w' => ∃ v F' R' st', e = .returned v ∧ OwnTkB w.heap.size w' v (putE k s u).1 ∧ TE k G F' w' p T B L R' st' (putE k s u).2 ∧ Told G G F F' w w' v w.heap.size (s.q = [] ∧ s.a = 0) := by
  have hgT := (cdR_p h1 h6).goodT
  have hq7 := opens_lt hgT h.op
  obtain ⟨t1, r1, k1, hd⟩ : ∃ t r n, drain (turnR (cdR k)) s.a (s.q ++ [u]) = (t, r, n) := ⟨_, _, _, rfl⟩
  obtain ⟨hk6, hr2, hop, ht2⟩ := drain_lk7 hgT hd (by omega)
  have hs0 := h.s0
  have hs1 := h.s1
  have e : putE k s u = (encF (cdR k) s.ah t1, ⟨r1, s.a + s.q.length + 1 - r1.length, aheadF s.ah (encF (cdR k) s.ah t1), s.sc⟩) := by
    unfold putE eOneR; rw [if_neg (by omega), if_neg (by omega), hd]
  rw [e]
  refine (eput_anyF L _ w B p (cdR k) T R s.q s.a st u s.ah h.front (by omega) (fun b hb => .inr hb) h0 (by omega) hs0 (by omega) t1 r1 k1 hd).mono ?_
  rintro e w' ⟨v, rfl, ho, ⟨R', hn⟩, hg⟩
  have hvb : ∀ b, v.ownBlock = some b → w.heap.size ≤ b := fun b e => (own_ltT ho e).1
  obtain ⟨g1, g2⟩ := h.back (s' := ⟨r1, s.a + s.q.length + 1 - r1.length, aheadF s.ah (encF (cdR k) s.ah t1), s.sc⟩) hg hn hvb (by omega) (by show st + k1 + 7 * (r1.length : Int) ≤ 200 * (s.a + s.q.length + 1 - r1.length + r1.length); omega) hop
  exact ⟨v, _, R', st + k1, rfl, ho, g1, told_grown hg h.gp (fun b hb => by rw [h.ge b hb]; exact h.lt p h.fp) (fun b hb => by rcases hb with hb | hb; exact .inl hb; exact .inr hb.1) g2⟩
theorem TE.fin (h : TE k G F w p T B L R st s) (h1 : 1 ≤ k) (h6 : k ≤ 6) (h0 : 0 ≤ s.a) (h9 : s.a ≤ 1000000) :
    Calls Tryz.prog 221 #[.pointer (some ⟨p, 0, none⟩)] w fun e w' => ∃ v F' R' st', e = .returned v ∧ OwnTkB w.heap.size w' v (finE k s) ∧ TE k G F' w' p T B L R' st' ⟨[], s.a + s.q.length, aheadF s.ah (finE k s), s.sc⟩ ∧ Told G G F F' w w' v w.heap.size (s.q = [] ∧ s.a = 0) := by
  have hgT := (cdR_p h1 h6).goodT
  have hq7 := opens_lt hgT h.op
  have hs0 := h.s0
  have hs1 := h.s1
  have hlk := hgT.looksE_le s.q 7 (by omega)
  have e : finE k s = encF (cdR k) s.ah (rewA (turnR (cdR k)) s.a s.q) := by unfold finE; rw [if_neg (by omega), if_neg (by omega)]
  rw [e]
  refine (eend_anyF L _ w B p (cdR k) T R s.q s.a st s.ah h.front (fun b hb => .inr hb) h0 (by omega) hs0 (by omega) _ rfl).mono ?_
  rintro e w' ⟨v, rfl, ho, ⟨R', hn⟩, hg⟩
  have hvb : ∀ b, v.ownBlock = some b → w.heap.size ≤ b := fun b e => (own_ltT ho e).1
  obtain ⟨g1, g2⟩ := h.back (s' := ⟨[], s.a + s.q.length, aheadF s.ah (encF (cdR k) s.ah (rewA (turnR (cdR k)) s.a s.q)), s.sc⟩) hg hn hvb (by omega) (by show st + (looksE (turnR (cdR k)) s.q : Int) + 7 * (([] : List Int).length : Int) ≤ 200 * (s.a + s.q.length + (([] : List Int).length : Int)); simp only [List.length_nil]; omega) (.inl rfl)
  exact ⟨v, _, R', st + looksE (turnR (cdR k)) s.q, rfl, ho, g1, told_grown hg h.gp (fun b hb => by rw [h.ge b hb]; exact h.lt p h.fp) (fun b hb => by rcases hb with hb | hb; exact .inl hb; exact .inr hb.1) g2⟩
end
/-- codec k's encoder at block p (k: 0 to 6): it writes G, looks at F -/
def EV (I : WApi) (k : Nat) (G F : Nat → Prop) (w : World) (p : Nat) (s : ESt) : Prop :=
  if k = 0 then I.St w p s.a ∧ s.q = [] ∧ 0 ≤ s.a ∧ G p ∧ (∀ b, G b → b = p) ∧ F p ∧ ∀ b, F b → b < w.heap.size
  else 0 ≤ s.a ∧ ∃ T B L R st, TE k G F w p T B L R st s
section
variable {I : WApi} {k : Nat} {G F : Nat → Prop} {w w' : World} {p : Nat} {s : ESt}
theorem EV.foot (h : EV I k G F w p s) : (∀ b, G b → F b) ∧ (∀ b, F b → b < w.heap.size) ∧ 0 ≤ s.a := by
  unfold EV at h
  by_cases h0 : k = 0
  · rw [if_pos h0] at h
    obtain ⟨_, _, h1, h2, h3, h4, h5⟩ := h
    exact ⟨fun b hb => by rw [h3 b hb]; exact h4, h5, h1⟩
  · rw [if_neg h0] at h
    obtain ⟨h1, T, B, L, R, st, h⟩ := h
    exact ⟨fun b hb => by rw [h.ge b hb]; exact h.fp, h.lt, h1⟩
theorem EV.stay (h : EV I k G F w p s) (hs : w.heap.size ≤ w'.heap.size) (hk : ∀ b, F b → w'.heap[b]? = w.heap[b]?) : EV I k G F w' p s := by
  unfold EV at h ⊢
  by_cases h0 : k = 0
  · rw [if_pos h0] at h ⊢
    obtain ⟨g, g0, h1, h2, h3, h4, h5⟩ := h
    exact ⟨I.stay g (hk p h4), g0, h1, h2, h3, h4, fun b hb => Nat.lt_of_lt_of_le (h5 b hb) hs⟩
  · rw [if_neg h0] at h ⊢
    obtain ⟨h1, T, B, L, R, st, h⟩ := h
    exact ⟨h1, T, B, L, R, st, h.stay hs hk⟩
theorem EV.put (h : EV I k G F w p s) (hk : k ≤ 6) (u : Int) (h9 : s.a ≤ 90000) :
    Calls Tryz.prog (fPE k) #[.pointer (some ⟨p, 0, none⟩), .int .i64 u] w fun e w' => ∃ v G' F' B, e = .returned v ∧ OwnTkB B w' v (putE k s u).1 ∧ EV I k G' F' w' p (putE k s u).2 ∧ Told G G' F F' w w' v B (s.q = [] ∧ s.a = 0) := by
  have hf := h.foot
  unfold EV at h
  by_cases h0 : k = 0
  · subst h0
    rw [if_pos rfl] at h
    obtain ⟨g, g0, h1, h2, h3, h4, h5⟩ := h
    refine (I.put u g h1 (by omega)).mono ?_
    rintro e w' ⟨v, rfl, ho, hst, hg⟩
    exact ⟨v, G, F, w.heap.size, rfl, ho, ⟨hst, rfl, by show 0 ≤ s.a + 1; omega, h2, h3, h4, fun b hb => Nat.lt_of_lt_of_le (h5 b hb) hg.size⟩, told_grown hg h2 (fun b hb => h5 b (hf.1 b hb)) (fun b hb => .inl hb) (fun b e hb => by have h1 := (own_ltT ho e).1; have h2 := h5 b hb; omega)⟩
  · rw [if_neg h0] at h
    have h7 : ¬ k = 7 := by omega
    obtain ⟨h1, T, B, L, R, st, h⟩ := h
    have e : fPE k = 225 := by unfold fPE; rw [if_neg h0, if_neg h7]
    rw [e]
    have hq7 := opens_lt (cdR_p (show 1 ≤ k by omega) (show k ≤ 6 by omega)).goodT h.op
    refine (h.put (by omega) (by omega) u h1 (by omega)).mono ?_
    rintro e w' ⟨v, F', R', st', rfl, ho, hT, hT2⟩
    refine ⟨v, G, F', w.heap.size, rfl, ho, ?_, hT2⟩
    unfold EV
    rw [if_neg h0]
    refine ⟨?_, T, B, L, R', st', hT⟩
    obtain ⟨d, hd⟩ : ∃ d, drain (turnR (cdR k)) s.a (s.q ++ [u]) = d := ⟨_, rfl⟩
    obtain ⟨t1, r1, k1⟩ := d
    have h8 := (drain_lk7 (cdR_p (show 1 ≤ k by omega) (show k ≤ 6 by omega)).goodT hd (by omega)).2.1
    unfold putE eOneR
    rw [if_neg h0, if_neg h7, hd]
    show 0 ≤ s.a + s.q.length + 1 - (r1.length : Int)
    omega
theorem EV.fin (h : EV I k G F w p s) (hk : k ≤ 6) (h9 : s.a ≤ 90000) :
    Calls Tryz.prog (fEE k) #[.pointer (some ⟨p, 0, none⟩)] w fun e w' => ∃ v G' F' B s', e = .returned v ∧ OwnTkB B w' v (finE k s) ∧ EV I k G' F' w' p s' ∧ Told G G' F F' w w' v B (s.q = [] ∧ s.a = 0) := by
  have hf := h.foot
  unfold EV at h
  by_cases h0 : k = 0
  · subst h0
    rw [if_pos rfl] at h
    obtain ⟨g, g0, h1, h2, h3, h4, h5⟩ := h
    refine (I.fin g).mono ?_
    rintro e w' ⟨v, rfl, ho, hst, hg⟩
    exact ⟨v, G, F, w.heap.size, s, rfl, ho, ⟨hst, g0, h1, h2, h3, h4, fun b hb => Nat.lt_of_lt_of_le (h5 b hb) hg.size⟩, told_grown hg h2 (fun b hb => h5 b (hf.1 b hb)) (fun b hb => .inl hb) (fun b e hb => by have h1 := (own_ltT ho e).1; have h2 := h5 b hb; omega)⟩
  · rw [if_neg h0] at h
    have h7 : ¬ k = 7 := by omega
    obtain ⟨h1, T, B, L, R, st, h⟩ := h
    have e : fEE k = 221 := by unfold fEE; rw [if_neg h0, if_neg h7]
    rw [e]
    refine (h.fin (by omega) (by omega) h1 (by omega)).mono ?_
    rintro e w' ⟨v, F', R', st', rfl, ho, hT, hT2⟩
    refine ⟨v, G, F', w.heap.size, ⟨[], s.a + s.q.length, aheadF s.ah (finE k s), s.sc⟩, rfl, ho, ?_, hT2⟩
    unfold EV
    rw [if_neg h0]
    exact ⟨by show 0 ≤ s.a + (s.q.length : Int); omega, T, B, L, R', st', hT⟩
end
end Go.Proofs.YtncpokioagpclaaGreatDoor
namespace Go.Proofs.YtncpokioagpclaaGreatDoor
set_option linter.unusedVariables false
set_option linter.unusedSimpArgs false
set_option linter.unnecessarySimpa false
open Go.RowKit
/-- block b holds ints -/
def IntBl (w : World) (b : Nat) : Prop := ∃ cs fr, w.heap[b]? = some (.cells cs 3 fr)
/-- a row of tokens of one's own, from B on; their units lie from B on, or in blocks of ints -/
def OwnTkU (B : Nat) (w : World) (v : Value) (ts : List Tk) : Prop := ∃ xs, w.ownsRow B 51 4 v ts.length xs ∧ Tks (fun b => v.ownBlock ≠ some b ∧ (B ≤ b ∨ IntBl w b)) w xs ts
theorem OwnTkB.toU {B : Nat} {w : World} {v : Value} {ts : List Tk} (h : OwnTkB B w v ts) : OwnTkU B w v ts := by
  obtain ⟨xs, ho, hx⟩ := h
  exact ⟨xs, ho, hx.step (Nat.le_refl _) fun b _ hb => ⟨⟨hb.1, .inl hb.2⟩, rfl⟩⟩
theorem OwnTkU.own {B : Nat} {w : World} {v : Value} {ts : List Tk} (h : OwnTkU B w v ts) : OwnTk B w v ts := by
  obtain ⟨xs, ho, hx⟩ := h
  exact ⟨xs, ho, hx.step (Nat.le_refl _) fun b _ hb => ⟨hb.1, rfl⟩⟩
theorem OwnTkU.form {B : Nat} {w : World} {v : Value} {ts : List Tk} (h : OwnTkU B w v ts) : ∃ A c, v = .slice A ts.length c ∧ TkAt w w.heap.size A ts.length c ts := h.own.form
theorem Toks.tksT {w : World} {B : Nat} : ∀ {xs : List Value} {ts : List Tok}, Toks w B xs ts → Tks (fun b => IntBl w b) w xs (ts.map tkOf)
  | [], [], _ => trivial
  | a :: b :: s :: e :: xs, t :: ts, ⟨h1, h2, ⟨A, c, h3, h4, h5, h6⟩, h7, h8⟩ => by
    refine ⟨h1, h2, ⟨A, c, h3, h4, h5, ?_⟩, h7, h8.tksT⟩
    rcases h6 with h | ⟨b, off, cs, fr, g1, g2, g3, g4⟩
    · exact .inl h
    · exact .inr ⟨b, off, g1, (Array.getElem?_eq_some_iff.1 g3).1, ⟨cs, fr, g3⟩, fun j hj => by rw [cell_of_row _ _ _ _ _ _ g3]; exact g4 j hj⟩
theorem ret_u {base n : Nat} {w : World} {v : Value} {xs : List Value} {kn : List Tok} (ho : w.ownsRow base 51 4 v n xs) (ht : Toks w w.heap.size xs kn) (hn : kn.length = n) : OwnTkU base w v (kn.map tkOf) := by
  subst hn
  refine ⟨xs, by rw [List.length_map]; exact ho, ht.tksT.step (Nat.le_refl _) fun b _ hb => ⟨⟨fun e => ?_, .inr hb⟩, rfl⟩⟩
  obtain ⟨cs, fr, hc⟩ := hb
  rcases ho.2 with ⟨h1, _⟩ | ⟨g, cap, cur, h1, _, h3, _⟩
  · rw [h1] at e; cases e
  · rw [h1] at e; injection e with e; subst e
    have e2 : w.heap[g]? = some (.cells cur 51 (0, 0)) := h3
    rw [hc] at e2
    injection e2 with e2
    injection e2 with _ e2
    exact absurd e2 (by decide)
/-- a table's decoder at block p -/
structure TD (k : Nat) (G F : Nat → Prop) (w : World) (p R B L : Nat) (st : Int) (s : DSt) : Prop where
  gp : G p
  ge : ∀ b, G b → b = p
  fp : F p
  lt : ∀ b, F b → b < w.heap.size
  bp : B ≤ p
  tr : Stab L B w (fun W => TrieOK W B R (cdR k))
  fl : ∀ b, L ≤ b → b < B → F b
  is : MAt w p R s.q s.a st
  s0 : 0 ≤ st
  s1 : st + 7 * s.q.length ≤ 200 * (s.a + s.q.length)
  op : s.q = [] ∨ opens (cdR k) s.q = true
section
variable {k : Nat} {G F : Nat → Prop} {w w' : World} {p R B L : Nat} {st : Int} {s : DSt}
theorem TD.stay (h : TD k G F w p R B L st s) (hs : w.heap.size ≤ w'.heap.size) (hk : ∀ b, F b → w'.heap[b]? = w.heap[b]?) : TD k G F w' p R B L st s :=
  ⟨h.gp, h.ge, h.fp, fun b hb => Nat.lt_of_lt_of_le (h.lt b hb) hs, h.bp, h.tr.step hs fun b h1 h2 => hk b (h.fl b h1 h2), h.fl, h.is.of_block (hk p h.fp), h.s0, h.s1, h.op⟩
theorem TD.put (h : TD k G F w p R B L st s) (h1 : 1 ≤ k) (h6 : k ≤ 6) (u : Int) (h0 : 0 ≤ s.a) (h9 : s.a ≤ 1000000) :
    Calls Tryz.prog 231 #[.pointer (some ⟨p, 0, none⟩), .int .i64 u] w fun e w' => ∃ v st', e = .returned v ∧ OwnTkB w.heap.size w' v (putD k s u).1 ∧ TD k G F w' p R B L st' (putD k s u).2 ∧ Told G G F F w w' v w.heap.size (s.q = [] ∧ s.a = 0) := by
  have hg := (cdR_p h1 h6).good
  have hq7 := opens_lt hg h.op
  obtain ⟨t1, r1, k1, hd⟩ : ∃ t r n, drain (cdR k) s.a (s.q ++ [u]) = (t, r, n) := ⟨_, _, _, rfl⟩
  obtain ⟨hk6, hr2, hop, ht2⟩ := drain_lk7 hg hd (by omega)
  have hs0 := h.s0
  have hs1 := h.s1
  have e : putD k s u = (t1, ⟨r1, s.a + s.q.length + 1 - r1.length, s.sc⟩) := by unfold putD; rw [if_neg (by omega), if_neg (by omega), hd]
  rw [e]
  refine (mput_any w p R s.q s.a st u h.is (by omega) B (cdR k) h.tr.self h.bp h0 (by omega) hs0 (by omega) t1 r1 k1 hd).mono ?_
  rintro e w' ⟨v, rfl, ho, hm, hgr⟩
  have hlp := h.lt p h.fp
  exact ⟨v, st + k1, rfl, ho, ⟨h.gp, h.ge, h.fp, fun b hb => Nat.lt_of_lt_of_le (h.lt b hb) hgr.size, h.bp, h.tr.step hgr.size fun b g1 g2 => hgr.block b (by have := h.bp; omega) (fun e => by injection e with e; have := h.bp; omega), h.fl, hm, by omega, by show st + k1 + 7 * (r1.length : Int) ≤ 200 * (s.a + s.q.length + 1 - r1.length + r1.length); omega, hop⟩,
    told_grown hgr h.gp (fun b hb => by rw [h.ge b hb]; exact hlp) (fun b hb => .inl hb) (fun b e hb => by have h1 := (own_ltT ho e).1; have h2 := h.lt b hb; omega)⟩
theorem TD.fin (h : TD k G F w p R B L st s) (h1 : 1 ≤ k) (h6 : k ≤ 6) (h0 : 0 ≤ s.a) (h9 : s.a ≤ 1000000) :
    Calls Tryz.prog 228 #[.pointer (some ⟨p, 0, none⟩)] w fun e w' => ∃ v st', e = .returned v ∧ OwnTkB w.heap.size w' v (finD k s) ∧ TD k G F w' p R B L st' ⟨[], s.a + s.q.length, s.sc⟩ ∧ Told G G F F w w' v w.heap.size (s.q = [] ∧ s.a = 0) := by
  have hg := (cdR_p h1 h6).good
  have hq7 := opens_lt hg h.op
  have hs0 := h.s0
  have hs1 := h.s1
  have hlk := hg.looksE_le s.q 7 (by omega)
  have e : finD k s = rewA (cdR k) s.a s.q := by unfold finD; rw [if_neg (by omega), if_neg (by omega)]
  rw [e]
  refine (mend_any w p R s.q s.a st h.is B (cdR k) h.tr.self h.bp h0 (by omega) hs0 (by omega) _ rfl).mono ?_
  rintro e w' ⟨v, rfl, ho, hm, hgr⟩
  have hlp := h.lt p h.fp
  exact ⟨v, st + looksE (cdR k) s.q, rfl, ho, ⟨h.gp, h.ge, h.fp, fun b hb => Nat.lt_of_lt_of_le (h.lt b hb) hgr.size, h.bp, h.tr.step hgr.size fun b g1 g2 => hgr.block b (by have := h.bp; omega) (fun e => by injection e with e; have := h.bp; omega), h.fl, hm, by omega, by show st + (looksE (cdR k) s.q : Int) + 7 * (([] : List Int).length : Int) ≤ 200 * (s.a + s.q.length + (([] : List Int).length : Int)); simp only [List.length_nil]; omega, .inl rfl⟩,
    told_grown hgr h.gp (fun b hb => by rw [h.ge b hb]; exact hlp) (fun b hb => .inl hb) (fun b e hb => by have h1 := (own_ltT ho e).1; have h2 := h.lt b hb; omega)⟩
end
/-- UTF-8's reader at block p -/
structure UD (G F : Nat → Prop) (w : World) (p : Nat) (s : DSt) : Prop where
  gp : G p
  ge : ∀ b, G b → b = p
  fp : F p
  lt : ∀ b, F b → b < w.heap.size
  hd : HD s.q = s.q
  by_ : ∀ z ∈ s.q, 0 ≤ z ∧ z ≤ 255
  a0 : 0 ≤ s.a
  is : RdrAtT 89 w p s.q s.a
/-- codec k's decoder at block p (k: 0 to 6): it writes G, looks at F -/
def DV (k : Nat) (G F : Nat → Prop) (w : World) (p : Nat) (s : DSt) : Prop :=
  if k = 0 then UD G F w p s
  else 0 ≤ s.a ∧ ∃ R B L st, TD k G F w p R B L st s
section
variable {k : Nat} {G F : Nat → Prop} {w w' : World} {p : Nat} {s : DSt}
theorem DV.foot (h : DV k G F w p s) : (∀ b, G b → F b) ∧ (∀ b, F b → b < w.heap.size) ∧ 0 ≤ s.a := by
  unfold DV at h
  by_cases h0 : k = 0
  · rw [if_pos h0] at h
    exact ⟨fun b hb => by rw [h.ge b hb]; exact h.fp, h.lt, h.a0⟩
  · rw [if_neg h0] at h
    obtain ⟨h1, R, B, L, st, h⟩ := h
    exact ⟨fun b hb => by rw [h.ge b hb]; exact h.fp, h.lt, h1⟩
theorem DV.stay (h : DV k G F w p s) (hs : w.heap.size ≤ w'.heap.size) (hk : ∀ b, F b → w'.heap[b]? = w.heap[b]?) : DV k G F w' p s := by
  unfold DV at h ⊢
  by_cases h0 : k = 0
  · rw [if_pos h0] at h ⊢
    obtain ⟨g1, g2, g3, g4, g5, g6, g7, x0, x1, x2, x3, g8, g9⟩ := h
    exact ⟨g1, g2, g3, fun b hb => Nat.lt_of_lt_of_le (g4 b hb) hs, g5, g6, g7, x0, x1, x2, x3, (hk p g3).trans g8, g9⟩
  · rw [if_neg h0] at h ⊢
    obtain ⟨h1, R, B, L, st, h⟩ := h
    exact ⟨h1, R, B, L, st, h.stay hs hk⟩
theorem DV.put (h : DV k G F w p s) (hk : k ≤ 6) (u : Int) (hu : k = 0 → 0 ≤ u ∧ u ≤ 255) (h9 : s.a ≤ 90000) :
    Calls Tryz.prog (fPD k) #[.pointer (some ⟨p, 0, none⟩), .int .i64 u] w fun e w' => ∃ v G' F' B, e = .returned v ∧ OwnTkU B w' v (putD k s u).1 ∧ DV k G' F' w' p (putD k s u).2 ∧ Told G G' F F' w w' v B (s.q = [] ∧ s.a = 0) := by
  have hf := h.foot
  unfold DV at h
  by_cases h0 : k = 0
  · subst h0
    rw [if_pos rfl] at h
    have hb := hu rfl
    have hl := (HD_len s.q).1
    rw [h.hd] at hl
    refine (rput_any p s.q s.a u w h.is hl h.a0 (by omega) hb h.by_ _ _ _ rfl rfl rfl).mono ?_
    rintro e w' ⟨v, xs, rfl, ho, ht, hr, hg⟩
    have hl2 := HD_len (s.q ++ [u])
    rw [List.length_append, List.length_singleton] at hl2
    refine ⟨v, G, F, w.heap.size, rfl, ret_u ho ht rfl, ⟨h.gp, h.ge, h.fp, fun b hb => Nat.lt_of_lt_of_le (h.lt b hb) hg.size, HD_HD _, fun z hz => ?_, by show 0 ≤ s.a + s.q.length + 1 - ((HD (s.q ++ [u])).length : Int); have := h.a0; omega, hr⟩, told_grown hg h.gp (fun b hb => by rw [h.ge b hb]; exact h.lt p h.fp) (fun b hb => .inl hb) (fun b e hb => by have h1 := (ho.lt b e).1; have h2 := h.lt b hb; omega)⟩
    have hz2 := HD_mem z hz
    rcases List.mem_append.1 hz2 with h1 | h1
    · exact h.by_ z h1
    · rw [List.mem_singleton] at h1; rw [h1]; exact hb
  · rw [if_neg h0] at h
    have h7 : ¬ k = 7 := by omega
    obtain ⟨h1, R, B, L, st, h⟩ := h
    have e : fPD k = 231 := by unfold fPD; rw [if_neg h0, if_neg h7]
    rw [e]
    have hq7 := opens_lt (cdR_p (show 1 ≤ k by omega) (show k ≤ 6 by omega)).good h.op
    refine (h.put (by omega) (by omega) u h1 (by omega)).mono ?_
    rintro e w' ⟨v, st', rfl, ho, hT, hT2⟩
    refine ⟨v, G, F, w.heap.size, rfl, ho.toU, ?_, hT2⟩
    unfold DV
    rw [if_neg h0]
    refine ⟨?_, R, B, L, st', hT⟩
    obtain ⟨d, hd⟩ : ∃ d, drain (cdR k) s.a (s.q ++ [u]) = d := ⟨_, rfl⟩
    obtain ⟨t1, r1, k1⟩ := d
    have h8 := (drain_lk7 (cdR_p (show 1 ≤ k by omega) (show k ≤ 6 by omega)).good hd (by omega)).2.1
    unfold putD
    rw [if_neg h0, if_neg h7, hd]
    show 0 ≤ s.a + s.q.length + 1 - (r1.length : Int)
    omega
theorem DV.fin (h : DV k G F w p s) (hk : k ≤ 6) (h9 : s.a ≤ 90000) :
    Calls Tryz.prog (fED k) #[.pointer (some ⟨p, 0, none⟩)] w fun e w' => ∃ v G' F' B s', e = .returned v ∧ OwnTkU B w' v (finD k s) ∧ DV k G' F' w' p s' ∧ s'.q = [] ∧ Told G G' F F' w w' v B (s.q = [] ∧ s.a = 0) := by
  have hf := h.foot
  unfold DV at h
  by_cases h0 : k = 0
  · subst h0
    rw [if_pos rfl] at h
    have hl := (HD_len s.q).1
    rw [h.hd] at hl
    refine (rend_any p s.q s.a w h.is h.a0 (by omega) _ _ rfl rfl).mono ?_
    rintro e w' ⟨v, xs, rfl, ho, ht, hr, hg⟩
    exact ⟨v, G, F, w.heap.size, ⟨[], s.a + s.q.length, s.sc⟩, rfl, ret_u ho ht rfl, ⟨h.gp, h.ge, h.fp, fun b hb => Nat.lt_of_lt_of_le (h.lt b hb) hg.size, rfl, fun z hz => (by cases hz), by show 0 ≤ s.a + (s.q.length : Int); have := h.a0; omega, hr⟩, rfl, told_grown hg h.gp (fun b hb => by rw [h.ge b hb]; exact h.lt p h.fp) (fun b hb => .inl hb) (fun b e hb => by have h1 := (ho.lt b e).1; have h2 := h.lt b hb; omega)⟩
  · rw [if_neg h0] at h
    have h7 : ¬ k = 7 := by omega
    obtain ⟨h1, R, B, L, st, h⟩ := h
    have e : fED k = 228 := by unfold fED; rw [if_neg h0, if_neg h7]
    rw [e]
    refine (h.fin (by omega) (by omega) h1 (by omega)).mono ?_
    rintro e w' ⟨v, st', rfl, ho, hT, hT2⟩
    refine ⟨v, G, F, w.heap.size, ⟨[], s.a + s.q.length, s.sc⟩, rfl, ho.toU, ?_, rfl, hT2⟩
    unfold DV
    rw [if_neg h0]
    exact ⟨by show 0 ≤ s.a + (s.q.length : Int); omega, R, B, L, st', hT⟩
end
end Go.Proofs.YtncpokioagpclaaGreatDoor
namespace Go.Proofs.YtncpokioagpclaaGreatDoor
set_option linter.unusedVariables false
set_option linter.unusedSimpArgs false
set_option linter.unnecessarySimpa false
open Go.RowKit
set_option maxRecDepth 100000 in
set_option maxHeartbeats 1600000 in
/-- bytes as units -/
theorem cunits_any (n : Nat) (A : Option Addr) (c : Nat) (zs : List Int) (B : Nat) (w : World) (hn : n = zs.length) (hr : Rd w B A (zs.map (Value.int .u8))) (hB : B ≤ w.heap.size) (hl : n ≤ 1000) (hw : ∀ z ∈ zs, 0 ≤ z ∧ z ≤ 255) :
    Calls Tryz.prog 216 #[.slice A n c] w fun e w' => ∃ v, e = .returned v ∧ IR w' w.heap.size v zs ∧ Below w.heap.size w w' := by
  have HR := Lib.hid (hr.below (Below.refl B w) hB)
  have HQL := Lib.hid hn
  have HW := Lib.hid hw
  clear hr hn hw
  go_enter Tryz.func216, Tryz.ntmps216
  go_wp2
  go_loopw [3, 8] (fun v i wr => ∃ K : Nat, K ≤ n ∧ i = .int .i64 K ∧ Hid (IR wr w.heap.size v (zs.take K)) ∧ Hid (Below w.heap.size w wr)) (fun _ i _ => n - (intOf i).toNat)
  case atStart => exact ⟨0, by omega, rfl, Lib.hid (IR.nil _ _), Lib.hid (Below.refl _ _)⟩
  case round =>
    obtain ⟨K, hK, rfl, HO, HB⟩ := hrel
    have hbs := HB.out.size
    by_cases hKl : K = n
    · have HF := Lib.hid (show zs.take K = zs by rw [hKl, HQL.out, List.take_length])
      have hKl' : ¬ K < n := by omega
      clear hKl
      go_wp2
      go_ret
      exact ⟨_, rfl, by have := HO.out; rw [HF.out] at this; exact this, HB.out⟩
    have hKl' : K < n := by omega
    have hKL : K < zs.length := by rw [← HQL.out]; exact hKl'
    have hal : (zs.take K).length ≤ 1000 := by simp; omega
    obtain ⟨b, off, rfl, hbl, hcell⟩ := rd_ints (HR.out.below HB.out (Nat.le_refl _)) (by omega)
    have hx := hcell K hKL
    have hz0 := getD_range HW.out K hKL
    have htk : zs.take (K + 1) = zs.take K ++ [zs.getD K 0] := by rw [List.take_succ_eq_append_getElem hKL]; simp [List.getD_eq_getElem?_getD, hKL]
    obtain ⟨z, hze⟩ : ∃ x, x = zs.getD K 0 := ⟨_, rfl⟩
    rw [← hze] at hx hz0 htk
    have HTK := Lib.hid htk
    obtain ⟨acc, hacc⟩ : ∃ x, x = zs.take K := ⟨_, rfl⟩
    rw [← hacc] at HO hal HTK
    have k3 : (0 : Int) ≤ K := by omega
    have k4 : (K : Int) < n := by omega
    have hw64 : wrap64 z = z := by rw [show wrap64 z = z by unfold wrap64; omega]
    have hwz : IntKind.i64.wrap z = z := by rw [IntKind.wrap_i64]; omega
    obtain ⟨A3, c3, rfl, -⟩ := HO.out.form
    have hwr : w.heap.size ≤ wr.heap.size := hbs
    clear hze hacc htk hKl hcell
    go_wp2_with (at_builtin; refine wpList_appI1 rfl _ _ rfl w.heap.size (.slice A3 acc.length c3) acc z rfl HO.out _ rfl (by simp) (by omega) hwr ?_)
    intro v4 w4 hO4 hG4
    have HB4 : Hid (Below w.heap.size w w4) := Lib.hid (IR.keepsB HB.out hG4.out HO.out (Nat.le_refl _) hwr)
    have HO5 : Hid (IR w4 w.heap.size v4 (zs.take (K + 1))) := by rw [HTK.out]; exact hO4
    clear hO4 hG4
    go_wp2_with fail
    go_roundw
    case rel => exact ⟨K + 1, by omega, by go_num, HO5, HB4⟩
    case measure => simp [intOf]; omega
/-- the machine: how many units were put -/
def WSt (w : World) (p : Nat) (n : Int) : Prop := Held w p #[.int .i64 n] 118
theorem wtok_own {w : World} {n e : Int} {v : Value} {zs : List Int} {B : Nat} (hB : B ≤ w.heap.size) (hz : Us (fun b => b < w.heap.size ∧ B ≤ b) w v zs) :
    OwnTkB B (w.alloc (.cells #[.int .i64 n, .int .i64 1, v, .int .i64 e] 51)) (.slice (some ⟨w.heap.size, 0, none⟩) 1 1) [⟨n, 1, zs, e⟩] := by
  refine ⟨[.int .i64 n, .int .i64 1, v, .int .i64 e], World.ownsRow_lit (size := 4) w #[.int .i64 n, .int .i64 1, v, .int .i64 e] 1 hB (by simp [maxLen]) rfl, rfl, rfl, ?_, rfl, trivial⟩
  refine hz.step (by simp) fun b hl hx => ⟨⟨fun e => ?_, hx.2⟩, Below.heap_alloc w _ b hl⟩
  have : b = w.heap.size := by injection e with e; exact e.symm
  omega
theorem us_none {X : Nat → Prop} {w : World} : Us X w (.slice none 0 0) [] := ⟨none, 0, rfl, Nat.le_refl _, by simp [maxLen], .inl rfl⟩
theorem wset {w : World} {p : Nat} {n m : Int} (h : WSt w p n) : WSt (w.setCell ⟨p, 0, none⟩ (.int .i64 m)) p m := by
  obtain ⟨hlt, hk⟩ := Array.getElem?_eq_some_iff.1 h
  unfold WSt Held World.setCell
  simp only [Array.getElem?_modify, if_true]
  rw [Array.getElem?_eq_getElem hlt, hk]
  rfl
theorem WSt.alloc2 {w : World} {p : Nat} {n : Int} (h : WSt w p n) (a b : Obj) : WSt ((w.alloc a).alloc b) p n := Held.alloc (Held.alloc h a) b
theorem wgrown {w W : World} {p : Nat} (h : w.grownBy W (some p)) (a b : Obj) : w.grownBy ((W.alloc a).alloc b) (some p) := grown_seq (grown_seq h (World.grownBy_alloc W a (some p))) (World.grownBy_alloc _ b (some p))
set_option maxRecDepth 100000 in
set_option maxHeartbeats 3200000 in
theorem wput_no (w : World) (p : Nat) (n u : Int) (h : WSt w p n) (h0 : 0 ≤ n) (h9 : n ≤ 100000) (hs : scB u = false) :
    Calls Tryz.prog 215 #[.pointer (some ⟨p, 0, none⟩), .int .i64 u] w fun e w' => ∃ v, e = .returned v ∧ OwnTkB w.heap.size w' v [⟨n, 1, [], 3⟩] ∧ WSt w' p (n + 1) ∧ w.grownBy w' (some p) := by
  have hlt := h.lt
  have c0 := h.cell 0
  have f0 := h.frozen 0
  have hwn : IntKind.i64.wrap (n + 1) = n + 1 := by rw [IntKind.wrap_i64]; omega
  have hw64 : wrap64 (n + 1) = n + 1 := by unfold wrap64; omega
  have HS := Lib.hid (show ∀ W, Calls Tryz.prog 99 #[.int .i64 u] W fun e w' => e = .returned (.bool false) ∧ W = w' from fun W => by rw [← hs]; exact scalarU u W)
  have HH := Lib.hid h
  clear h hs
  go_enter Tryz.func215, Tryz.ntmps215
  go_wp2_with (go_at_call 99; refine (HS.out _).mono ?_; rintro e w' ⟨rfl, rfl⟩)
  go_ret
  obtain ⟨W1, hW1⟩ : ∃ W, w.setCell ⟨p, 0, none⟩ (.int .i64 (n + 1)) = W := ⟨_, rfl⟩
  rw [hW1]
  have hs1 : W1.heap.size = w.heap.size := by rw [← hW1]; simp [World.setCell]
  have hg1 : w.grownBy W1 (some p) := by rw [← hW1]; exact grownBy_setCellK w ⟨p, 0, none⟩ _
  have hh1 : WSt W1 p (n + 1) := by rw [← hW1]; exact wset HH.out
  refine ⟨_, rfl, ?_, hh1.alloc2 _ _, wgrown hg1 _ _⟩
  have e1 : (W1.alloc (.cells #[.int .i64 n, .int .i64 1, .slice none 0 0, .int .i64 3] 51)).heap.size = w.heap.size + 1 := by simp [hs1]
  have := wtok_own (n := n) (e := 3) (v := .slice none 0 0) (zs := []) (B := w.heap.size) (w := W1.alloc (.cells #[.int .i64 n, .int .i64 1, .slice none 0 0, .int .i64 3] 51)) (by omega) us_none
  rw [e1] at this
  exact this
theorem tcell {w : World} {T : Nat} {n e : Int} {o : Value} (h : Held w T #[.int .i64 n, .int .i64 1, o, .int .i64 e] 51) (v : Value) (j : Nat) : (w.setCell ⟨T, 2, none⟩ v).cell? ⟨T, j, none⟩ = (#[.int .i64 n, .int .i64 1, v, .int .i64 e] : Array Value)[j]? := by
  have h2 : Held (w.setCell ⟨T, 2, none⟩ v) T #[.int .i64 n, .int .i64 1, v, .int .i64 e] 51 := by
    obtain ⟨hlt, hk⟩ := Array.getElem?_eq_some_iff.1 h
    unfold Held World.setCell
    simp only [Array.getElem?_modify, if_true]
    rw [Array.getElem?_eq_getElem hlt, hk]
    rfl
  exact h2.cell j
set_option maxRecDepth 100000 in
set_option maxHeartbeats 3200000 in
theorem wput_yes (w : World) (p : Nat) (n u : Int) (h : WSt w p n) (h0 : 0 ≤ n) (h9 : n ≤ 100000) (hs : scB u = true) :
    Calls Tryz.prog 215 #[.pointer (some ⟨p, 0, none⟩), .int .i64 u] w fun e w' => ∃ v, e = .returned v ∧ OwnTkB w.heap.size w' v [⟨n, 1, encL u, 0⟩] ∧ WSt w' p (n + 1) ∧ w.grownBy w' (some p) := by
  have hlt := h.lt
  have c0 := h.cell 0
  have f0 := h.frozen 0
  have hwn : IntKind.i64.wrap (n + 1) = n + 1 := by rw [IntKind.wrap_i64]; omega
  have hw64 : wrap64 (n + 1) = n + 1 := by unfold wrap64; omega
  have HS := Lib.hid (show ∀ W, Calls Tryz.prog 99 #[.int .i64 u] W fun e w' => e = .returned (.bool true) ∧ W = w' from fun W => by rw [← hs]; exact scalarU u W)
  have HH := Lib.hid h
  have HSC := Lib.hid hs
  obtain ⟨W2, hW2⟩ : ∃ W, (w.setCell ⟨p, 0, none⟩ (.int .i64 (n + 1))).alloc (.cells #[.int .i64 n, .int .i64 1, .slice none 0 0, .int .i64 0] 51) = W := ⟨_, rfl⟩
  have hs2 : W2.heap.size = w.heap.size + 1 := by rw [← hW2]; simp [World.setCell]
  have hh2 : Held W2 w.heap.size #[.int .i64 n, .int .i64 1, .slice none 0 0, .int .i64 0] 51 := by
    rw [← hW2]
    have := Held.new (w.setCell ⟨p, 0, none⟩ (.int .i64 (n + 1))) #[.int .i64 n, .int .i64 1, .slice none 0 0, .int .i64 0] 51
    rw [show (w.setCell ⟨p, 0, none⟩ (.int .i64 (n + 1))).heap.size = w.heap.size by simp [World.setCell]] at this
    exact this
  have hp2 : WSt W2 p (n + 1) := by rw [← hW2]; exact Held.alloc (wset h) _
  have hg2 : w.grownBy W2 (some p) := by rw [← hW2]; exact grown_seq (grownBy_setCellK w ⟨p, 0, none⟩ _) (World.grownBy_alloc _ _ (some p))
  have hr3 := rd_new_ints W2 .i64 [u] 3 #[.int .i64 u] rfl
  have hb3 : Below W2.heap.size W2 (W2.alloc (.cells #[.int .i64 u] 3)) := below_allocC _ _
  rw [hs2] at hr3
  have C1 := Lib.hid (bytes_any 1 (some ⟨w.heap.size + 1, 0, none⟩) 1 [u] (W2.alloc (.cells #[.int .i64 u] 3)) rfl hr3 (by simp) (by simp))
  have HW2 := Lib.hid hW2
  have HS2 := Lib.hid hs2
  have HH2 := Lib.hid hh2
  have HP2 := Lib.hid hp2
  have HG2 := Lib.hid hg2
  have HB3 := Lib.hid hb3
  have HBF := Lib.hid (show bytesF [u] = encL u by simp [bytesF, fixS, hs])
  have HEB := Lib.hid (encL_bytes u hs)
  have HEL := Lib.hid (show (encL u).length ≤ 4 by unfold encL; (repeat' split) <;> simp)
  clear h hs hW2 hs2 hh2 hp2 hg2 hr3 hb3
  go_enter Tryz.func215, Tryz.ntmps215
  go_wp2_with (go_at_call 99; refine (HS.out _).mono ?_; rintro e w' ⟨rfl, rfl⟩)
  rw [HW2.out]
  refine C1.out.mono ?_
  rintro e w4 ⟨v4, rfl, ho4, hb4⟩
  rw [HBF.out] at ho4
  obtain ⟨A4, c4, rfl, h41, h42⟩ := own_form ho4
  obtain ⟨zs, hzs⟩ : ∃ zs, encL u = zs := ⟨_, rfl⟩
  have HZS := Lib.hid hzs
  rw [hzs] at ho4 HEB HEL h41 ⊢
  have C2 := Lib.hid (cunits_any zs.length A4 c4 zs w4.heap.size w4 rfl (Rd.own ho4) (Nat.le_refl _) (by have := HEL.out; omega) HEB.out)
  obtain ⟨m, hm⟩ : ∃ m, zs.length = m := ⟨_, rfl⟩
  rw [hm] at C2 ⊢
  have HB4 := Lib.hid (HB3.out.trans (hb4.mono HB3.out.size))
  clear ho4 h41 hb4 C1
  go_wp2_with fail
  refine C2.out.mono ?_
  rintro e w5 ⟨v5, rfl, ho5, hb5⟩
  obtain ⟨A5, c5, rfl, -⟩ := ho5.form
  rw [hm] at ho5 ⊢
  have hbx := (HH2.out.below (HB4.out.trans (hb5.mono HB4.out.size)) (by rw [HS2.out]; omega) : Held w5 w.heap.size _ _)
  have hpx := (Held.below HP2.out (HB4.out.trans (hb5.mono HB4.out.size)) (by rw [HS2.out]; omega) : Held w5 p _ _)
  have hsz : w.heap.size + 1 ≤ w4.heap.size ∧ w4.heap.size ≤ w5.heap.size := ⟨by have := HB4.out.size; rw [HS2.out] at this; exact this, hb5.size⟩
  have b2 := hbx.cell 2
  have g2 := hbx.frozen 2
  have z0 := tcell hbx (.slice A5 m c5) 0
  have z1 := tcell hbx (.slice A5 m c5) 1
  have z2 := tcell hbx (.slice A5 m c5) 2
  have z3 := tcell hbx (.slice A5 m c5) 3
  have HBX := Lib.hid hbx
  have HPX := Lib.hid hpx
  have HSZ := Lib.hid hsz
  have HO5 := Lib.hid ho5
  have HG5 := Lib.hid (grown_seq HG2.out (grown_below (HB4.out.trans (hb5.mono HB4.out.size))))
  have HM := Lib.hid hm
  clear hbx hpx hsz ho5 hb5 C2
  go_wp2_with fail
  go_ret
  obtain ⟨W6, hW6⟩ : ∃ W, w5.setCell ⟨w.heap.size, 2, none⟩ (.slice A5 m c5) = W := ⟨_, rfl⟩
  rw [hW6]
  have hs6 : W6.heap.size = w5.heap.size := by rw [← hW6]; simp [World.setCell]
  have hg6 : w5.grownBy W6 (some w.heap.size) := by rw [← hW6]; exact grownBy_setCellK w5 ⟨w.heap.size, 2, none⟩ _
  have hsz := HSZ.out
  have hp6 : WSt W6 p (n + 1) := Held.kept HPX.out hg6 (fun e => by injection e with e; omega)
  have hu := (IR.usX (X := fun b => w4.heap.size ≤ b) HM.out HO5.out (fun b hb => hb)).step (w' := W6) (Y := fun b => b < W6.heap.size ∧ w.heap.size ≤ b) (by omega) fun b hl hx => ⟨⟨by omega, by omega⟩, hg6.block b hl (fun e => by injection e with e; omega)⟩
  have ho := wtok_own (n := n) (e := 0) (B := w.heap.size) (by omega) hu
  rw [hs6] at ho
  rw [HZS.out]
  refine ⟨_, rfl, ho, Held.alloc hp6 _, ?_⟩
  have h1 := HG5.out
  exact ⟨hg6.os.trans h1.os, hg6.tape.trans h1.tape, hg6.output.trans h1.output, by have := h1.size; simp; omega, fun k hk hr => (Below.heap_alloc W6 _ k (by omega)).trans ((hg6.block k (by have := h1.size; omega) (fun e => by injection e with e; omega)).trans (h1.block k hk hr))⟩
set_option maxRecDepth 100000 in
theorem wend_any (w : World) (p : Nat) (n : Int) (h : WSt w p n) : Calls Tryz.prog 213 #[.pointer (some ⟨p, 0, none⟩)] w fun e w' => e = .returned (.slice none 0 0) ∧ w = w' := by
  clear h
  go_enter Tryz.func213, Tryz.ntmps213
  go_wp2
  go_ret
  exact ⟨rfl, rfl⟩
set_option maxRecDepth 100000 in
theorem wheld_any (w : World) (p : Nat) (n : Int) (h : WSt w p n) : Calls Tryz.prog 214 #[.pointer (some ⟨p, 0, none⟩)] w fun e w' => e = .returned (.int .i64 0) ∧ w = w' := by
  clear h
  go_enter Tryz.func214, Tryz.ntmps214
  go_wp2
  go_ret
  exact ⟨rfl, rfl⟩
def theW : WApi where
  St := WSt
  lt := fun h => Held.lt h
  stay := fun h hk => hk.trans h
  put := fun {w p n} u h h0 h9 => by
    show Calls _ _ _ _ _
    cases hs : scB u with
    | true =>
      have e : utE n [u] = [⟨n, 1, encL u, 0⟩] := by simp [utE, hs]
      rw [e]; exact wput_yes w p n u h h0 h9 hs
    | false =>
      have e : utE n [u] = [⟨n, 1, [], 3⟩] := by simp [utE, hs]
      rw [e]; exact wput_no w p n u h h0 h9 hs
  fin := fun {w p n} h => (wend_any w p n h).mono fun e w' ⟨h1, h2⟩ => ⟨_, h1, OwnTkB.nil _ _, h2 ▸ h, h2 ▸ grownR w _⟩
  held := fun {w p n} h => (wheld_any w p n h).mono fun e w' ⟨h1, h2⟩ => ⟨h1, h2 ▸ Below.refl _ w⟩
section
variable {S L : Nat} {w w' : World} {V : Value}
end
end Go.Proofs.YtncpokioagpclaaGreatDoor
namespace Go.Proofs.YtncpokioagpclaaGreatDoor
set_option linter.unusedVariables false
set_option linter.unusedSimpArgs false
end Go.Proofs.YtncpokioagpclaaGreatDoor
namespace Go.Proofs.YtncpokioagpclaaGreatDoor
set_option linter.unusedVariables false
set_option linter.unusedSimpArgs false
theorem as_one1 : ∀ r ∈ cdR 1, r.1.length = 1 := by
  have h : ((cdR 1).all fun r => decide (r.1.length = 1)) = true := by decide +kernel
  exact fun r hr => of_decide_eq_true (List.all_eq_true.1 h r hr)
theorem put1 (a u : Int) (o : List Int) (e : Int) (h : stepT (cdR 1) [u] = (1, e, o)) : putD 1 ⟨[], a, 0⟩ u = ([⟨a, 1, o, e⟩], ⟨[], a + 1, 0⟩) := by
  obtain ⟨h1, h2⟩ := one_drain (cdR_p (by decide) (by decide)).good as_one1 u a
  unfold putD
  rw [if_neg (by decide), if_neg (by decide)]
  simp only [List.nil_append]
  rw [h1, h2, rewA_cons (by simp) h (by omega)]
  simp [rewA_nil]
theorem ex22_feed : feedS 1 0 0 16 S0 [97, 98] = ([97, 98], 2, 0, ⟨⟨[], 2, 0⟩, ⟨[], 2, [], 0⟩, [], F0, false, false⟩) := by
  have h1 : putD 1 D0 97 = ([⟨0, 1, [97], 0⟩], ⟨[], 1, 0⟩) := put1 0 97 [97] 0 (by decide +kernel)
  have h2 : putD 1 ⟨[], 1, 0⟩ 98 = ([⟨1, 1, [98], 0⟩], ⟨[], 2, 0⟩) := put1 1 98 [98] 0 (by decide +kernel)
  have b1 : byteS 1 0 0 S0 97 = ⟨⟨[], 1, 0⟩, ⟨[], 1, [], 0⟩, [97], F0, false, false⟩ := by
    unfold byteS
    rw [show putD 1 S0.d 97 = _ from h1]; kernel_rfl
  have b2 : byteS 1 0 0 ⟨⟨[], 1, 0⟩, ⟨[], 1, [], 0⟩, [97], F0, false, false⟩ 98 = ⟨⟨[], 2, 0⟩, ⟨[], 2, [], 0⟩, [97, 98], F0, false, false⟩ := by
    unfold byteS
    simp only [h2]; kernel_rfl
  unfold feedS
  rw [if_neg (by decide), if_neg (by decide)]
  simp only [bytesS]
  rw [if_pos (by decide), b1, if_pos (by decide), b2]
  rfl
theorem ex22_flush : flushS 1 0 0 12 ⟨⟨[], 2, 0⟩, ⟨[], 2, [], 0⟩, [], F0, false, false⟩ = ([], 9, ⟨⟨[], 2, 0⟩, ⟨[], 2, [], 0⟩, [], F0, false, false⟩) := by
  unfold flushS
  rw [if_neg (by decide), if_pos (by decide)]
end Go.Proofs.YtncpokioagpclaaGreatDoor
