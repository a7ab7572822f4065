/- Layer 2: one byte more is put, and what is known laid behind the rest: the steps that the laws share. -/
import Derived.Test.YtbigbkplhlmbmaaCarryD
namespace Go.Proofs.Ytbigbkplhlmbmaa
set_option linter.unusedVariables false
open Go.RowKit

theorem take_snocI {zs : List Int} {K : Nat} (h : K < zs.length) : zs.take (K + 1) = zs.take K ++ [zs.getD K 0] := by
  rw [List.take_succ_eq_append_getElem h, List.getD_eq_getElem?_getD, List.getElem?_eq_getElem h]; rfl
theorem cstep {zs : List Int} {K : Nat} (hK : K < zs.length) (hb : ∀ z ∈ zs, 0 ≤ z ∧ z ≤ 255) :
    (0 ≤ zs.getD K 0 ∧ zs.getD K 0 ≤ 255) ∧ (HD (zs.take K)).length ≤ 3 ∧ (HD (zs.take K)).length ≤ K ∧ (∀ z ∈ HD (zs.take K), 0 ≤ z ∧ z ≤ 255) ∧
      KN 0 (zs.take (K + 1)) = KN 0 (zs.take K) ++ KN ((K : Int) - (HD (zs.take K)).length) (HD (zs.take K) ++ [zs.getD K 0]) ∧ HD (zs.take (K + 1)) = HD (HD (zs.take K) ++ [zs.getD K 0]) ∧
      (KN ((K : Int) - (HD (zs.take K)).length) (HD (zs.take K) ++ [zs.getD K 0])).length ≤ 4 ∧ (KN 0 (zs.take K)).length ≤ K := by
  have hl := HD_len (zs.take K)
  rw [List.length_take] at hl
  refine ⟨getD_range hb K hK, hl.1, by omega, fun z hz => hb z (List.mem_of_mem_take (heldF_mem _ _ z hz)), ?_, ?_, ?_, ?_⟩
  · rw [take_snocI hK, KN_app]
    congr 2
    simp only [List.length_take]
    omega
  · rw [take_snocI hK, HD_app]
  · have := KN_len ((K : Int) - (HD (zs.take K)).length) (HD (zs.take K) ++ [zs.getD K 0])
    rw [List.length_append, List.length_singleton] at this
    omega
  · have := KN_len 0 (zs.take K); rw [List.length_take] at this; omega

/-- v holds what is known of the first K bytes; the reader at p has the rest; of what was there at w only p may have been written -/
def CInv (w : World) (p : Nat) (zs : List Int) (K : Nat) (v : Value) (wr : World) : Prop :=
  ∃ xs, wr.ownsRow w.heap.size 41 4 v (KN 0 (zs.take K)).length xs ∧ Toks wr wr.heap.size xs (KN 0 (zs.take K)) ∧ RdrAt wr p (HD (zs.take K)) ((K : Int) - (HD (zs.take K)).length) ∧ w.grownBy wr (some p)

theorem CInv.start {w : World} {p : Nat} {zs : List Int} (hp : RdrAt w p [] 0) : CInv w p zs 0 (.slice none 0 0) w :=
  ⟨[], World.ownsRow_nil _ _ _ _, trivial, by simpa [HD, heldF] using hp, World.grownBy.refl w _⟩
theorem CInv.kept {w wr w4 : World} {p n size : Nat} {T : TypeId} {v : Value} {xs : List Value} (hp : p < w.heap.size) (ho : wr.ownsRow w.heap.size T size v n xs) (hg : wr.grownBy w4 (some p)) : w4.ownsRow w.heap.size T size v n xs :=
  ho.kept hg (by
    cases hv : v.ownBlock with
    | none => exact .inl rfl
    | some k =>
      refine .inr fun e => ?_
      have := (ho.lt k hv).1
      injection e with e
      omega)
theorem RdrAt.at_eq {w : World} {p : Nat} {q : List Int} {a b : Int} (h : RdrAt w p q a) (e : a = b) : RdrAt w p q b := e ▸ h
theorem CInv.next {w wr w4 w5 : World} {p K m : Nat} {zs : List Int} {v v5 : Value} {xs xs4 : List Value} {kn : List Tok} {hd : List Int} (hK : K < zs.length) (hb : ∀ z ∈ zs, 0 ≤ z ∧ z ≤ 255) (hp : p < w.heap.size)
    (hown : wr.ownsRow w.heap.size 41 4 v (KN 0 (zs.take K)).length xs) (htok : Toks wr wr.heap.size xs (KN 0 (zs.take K))) (hrd : RdrAt wr p (HD (zs.take K)) ((K : Int) - (HD (zs.take K)).length)) (hgr : w.grownBy wr (some p))
    (hk : KN ((K : Int) - (HD (zs.take K)).length) (HD (zs.take K) ++ [zs.getD K 0]) = kn) (hm : kn.length = m) (hh : HD (HD (zs.take K) ++ [zs.getD K 0]) = hd)
    (ht4 : Toks w4 w4.heap.size xs4 kn) (hr4 : RdrAt w4 p hd ((K : Int) - (HD (zs.take K)).length + (HD (zs.take K)).length + 1 - hd.length)) (hg4 : wr.grownBy w4 (some p))
    (hown5 : w5.ownsRow w.heap.size 41 4 v5 ((KN 0 (zs.take K)).length + m) (xs ++ xs4)) (hg5 : w4.grownBy w5 v.ownBlock) : CInv w p zs (K + 1) v5 w5 := by
  have hkeep := CInv.kept hp hown hg4
  obtain ⟨_, _, _, _, e1, e2, _, _⟩ := cstep hK hb
  subst hk hm hh
  refine ⟨xs ++ xs4, ?_, ?_, ?_, ?_⟩
  · rw [e1, List.length_append]; exact hown5
  · rw [e1]; exact (((htok.grownP hrd hg4).app ht4).grown (Nat.le_refl _) hg5.size hkeep (by decide) hg5)
  · rw [e2]; exact (hr4.grownV hkeep hp hg5).at_eq (by omega)
  · exact grown_low (grown_seq hgr hg4) hg5 hkeep
theorem KN_take_all (zs : List Int) : zs.take zs.length = zs := List.take_length
theorem Rd.mono {w : World} {B B' : Nat} {A : Option Addr} {xs : List Value} (h : Rd w B A xs) (hB : B ≤ B') : Rd w B' A xs := h.keep hB fun _ _ _ => rfl
theorem RdrAt.other {w w' : World} {p p' : Nat} {q : List Int} {at_ : Int} (h : RdrAt w p q at_) (hg : w.grownBy w' (some p')) (hne : p ≠ p') : RdrAt w' p q at_ := by
  obtain ⟨x0, x1, x2, x3, h1, h2⟩ := h
  exact ⟨x0, x1, x2, x3, (hg.block p (heap_lt h1) (by intro e; injection e with e; exact hne e)).trans h1, h2⟩
end Go.Proofs.Ytbigbkplhlmbmaa
