/- Layer 4: the law's units. -/
import Derived.Test.YtmjcnopkckkaoaaTrieC
import Derived.Test.YtmjcnopkckkaoaaTrieS
import Derived.Test.YtmjcnopkckkaoaaTrieO
import Derived.Test.YtmjcnopkckkaoaaRuleK
namespace Go.Proofs.Ytmjcnopkckkaoaa
set_option linter.unusedVariables false
open Go.RowKit
def somF (zs : List Int) : List Int := zs.map fun z => 97 + z % 6
def somM (zs : List Int) : List Int := somF (zs.take 60)
theorem somF_take {zs : List Int} {K : Nat} {z : Int} (hK : K < zs.length) (hz : zs.getD K 0 = z) : somF (zs.take (K + 1)) = somF (zs.take K) ++ [97 + z % 6] := by
  have : zs[K] = z := by rw [← hz]; simp [List.getD_eq_getElem?_getD, hK]
  rw [List.take_succ_eq_append_getElem hK, this]; simp [somF]
theorem somM_len (zs : List Int) : (somM zs).length ≤ 60 := by simp [somM, somF]; omega
set_option maxHeartbeats 1600000 in
theorem some_any (n : Nat) (A : Option Addr) (c : Nat) (zs : List Int) (B : Nat) (w : World) (hn : n = zs.length) (hr : Rd w B A (zs.map (Value.int .u8))) (hw : ∀ z ∈ zs, 0 ≤ z ∧ z ≤ 255) (hB : B ≤ w.heap.size) (hl : n ≤ 9223372036854775807) (hc : n ≤ c) (us : List Int) (m : Nat) (hu : somM zs = us) (hm : us.length = m) :
    Calls Try.prog 11 #[.slice A n c] w fun e w' => ∃ A' c', e = .returned (.slice A' m c') ∧ Us (fun b => w.heap.size ≤ b) w' (.slice A' m c') us ∧ Below w.heap.size w w' := by
  obtain ⟨i0, hi, hz0, hz1, hz2⟩ := info_parts infoint
  obtain ⟨q, hq, hqn, hq4⟩ : ∃ q : Nat, ((if 60 < n then 60 else n) = q) ∧ q ≤ n ∧ q ≤ 60 := ⟨_, rfl, by split <;> omega, by split <;> omega⟩
  have hmin : (if (60 : Int) < n then (60 : Int) else n) = (q : Int) := by rw [← hq]; split <;> split <;> omega
  have hqc : q ≤ c := by omega
  have hq0 : (0 : Int) ≤ (q : Int) := by omega
  have hU : somF (zs.take q) = us := by
    rw [← hu, somM]
    by_cases h4 : 60 < n
    · rw [if_pos h4] at hq; rw [hq]
    · rw [if_neg h4] at hq; rw [List.take_of_length_le (l := zs) (by omega), List.take_of_length_le (l := zs) (by omega)]
  have hqm : q = m := by rw [← hm, ← hU]; simp [somF]; omega
  have HN := Lib.hid hn
  have HR := Lib.hid hr
  have HW := Lib.hid hw
  have HU := Lib.hid hU
  have HM := Lib.hid hm
  have HQM := Lib.hid hqm
  clear hn hr hw hu hm hq hU hqm
  go_enter Try.func11, Try.ntmps11
  go_wp2
  go_loopw [3, 12] (fun v i wr => ∃ K : Nat, K ≤ q ∧ i = .int .i64 K ∧ Hid (wr.ownsRow w.heap.size 3 1 v K ((somF (zs.take K)).map (Value.int .i64))) ∧ Below w.heap.size w wr) (fun _ i _ => q - (intOf i).toNat)
  case atStart => exact ⟨0, by omega, rfl, World.ownsRow_nil _ _ _ _, Below.refl _ _⟩
  case round =>
    obtain ⟨K, hK, rfl, ho, hb⟩ := hrel
    have hs := hb.size
    by_cases hKq : K = q
    · have hK' : ¬ K < q := by omega
      have hown := ho.out
      rw [hKq, HU.out, HQM.out] at hown
      obtain ⟨A3, c3, ev, _⟩ := us_own hown HM.out.symm
      subst ev
      obtain ⟨_, _, e0, hus⟩ := us_own hown HM.out.symm
      have HO := Lib.hid hus
      clear hown ho hKq
      go_wp2
      go_ret
      exact ⟨A3, c3, rfl, HO.out, hb⟩
    have hK' : K < q := by omega
    have hK1 : K < zs.length := by rw [← HN.out]; omega
    obtain ⟨b, o, rfl, hbB, hcell⟩ := rd_ints HR.out (by omega)
    have k1 := (hb.cell (p := ⟨b, o + K, none⟩) (by show b < _; omega)).trans (hcell K hK1)
    have hwz := getD_range HW.out K hK1
    obtain ⟨z, hz⟩ : ∃ z, zs.getD K 0 = z := ⟨_, rfl⟩
    rw [hz] at k1 hwz
    have hw0 : 0 ≤ z := hwz.1
    have hw1 : z ≤ 255 := hwz.2
    have hsn := somF_take hK1 hz
    have HSN := Lib.hid hsn
    have k3 : (0 : Int) ≤ K := by omega
    have k4 : (K : Int) < q := by omega
    have hown := ho.out
    clear hcell hz hsn hwz
    go_wp2_with (at_builtin; refine wpList_appB _ rfl _ _ 24 rfl w.heap.size 3 i0 (.int .i64 0) 1 8 Try.underlying24 hi hz0 hz1 hz2 rfl (by decide) _ _ _ rfl (hown.alloc _) (wr.heap.size + 1) _ 1 1 [.int .i64 (97 + z % 6)] rfl rfl ?c1 ?c2 ?c3 ?c4 ?c5 ?_)
    case c1 => exact Rd_newR _ _ _ _ rfl
    case c2 => intro u hu; simp at hu; subst hu; rfl
    case c3 => simp only [maxLen]; omega
    case c4 => omega
    case c5 => simp; omega
    intro v' w1 hown1 hg1 hv1
    have hbE : Below w.heap.size w w1 := below_own (hb.trans (((Below.refl _ _).alloc (Nat.le_refl _) _).mono hs)) hg1 (hown.alloc _) (Nat.le_refl _) (by simp; omega)
    have HP : Hid (w1.ownsRow w.heap.size 3 1 v' (K + 1) ((somF (zs.take (K + 1))).map (Value.int .i64))) := by
      rw [HSN.out, List.map_append]; exact hown1
    clear hown1
    go_wp2
    go_roundw
    case rel => exact ⟨K + 1, by omega, by go_num, HP, hbE⟩
    case measure => simp [intOf]; omega
/-- more units never make the longest rule shorter; where no more may come they change nothing -/
theorem Good.more {rs : List (List Int × List Int)} (h : Good rs) {us : List Int} {i : Nat} (hi : i < us.length) {k n a b : Int} {o c : Bool} (h1 : longL rs (us.take i) = (k, n, o)) (h2 : longL rs (us.take (i + 1)) = (a, b, c)) :
    n ≤ b ∧ b ≤ (i : Int) + 1 ∧ (o = false → a = k ∧ b = n ∧ c = false) := by
  obtain ⟨k', n', o', e1, s1⟩ := h.long (us.take i)
  rw [h1] at e1
  obtain ⟨rfl, rfl, rfl⟩ : k = k' ∧ n = n' ∧ o = o' := by simpa using e1
  obtain ⟨a', b', c', e2, s2⟩ := h.long (us.take (i + 1))
  rw [h2] at e2
  obtain ⟨rfl, rfl, rfl⟩ : a = a' ∧ b = b' ∧ c = c' := by simpa using e2
  have l1 : (us.take i).length = i := by simp; omega
  have l2 : (us.take (i + 1)).length = i + 1 := by simp; omega
  have tt : ∀ m, m ≤ i → (us.take (i + 1)).take m = (us.take i).take m := fun m hm => by rw [List.take_take, List.take_take, Nat.min_eq_left (by omega), Nat.min_eq_left hm]
  refine ⟨?_, ?_, ?_⟩
  · rcases s1.res with ⟨_, e⟩ | ⟨m, e, g1, g2, g3, r, hr, g4⟩
    · rcases s2.res with ⟨_, e'⟩ | ⟨m', e', _⟩ <;> omega
    · rw [l1] at g2
      have hl : r.1.length = m := by rw [g4, List.length_take, l1]; omega
      have := s2.max r hr (by rw [l2]; omega) (by rw [hl, tt m g2, g4])
      omega
  · rcases s2.res with ⟨_, e'⟩ | ⟨m', e', _, g2, _⟩
    · omega
    · rw [l2] at g2; omega
  · intro ho
    subst ho
    have hno : ∀ r ∈ rs, ¬ (i < r.1.length ∧ r.1.take i = us.take i) := fun r hr e => by
      have := s1.op.2 ⟨r, hr, by rw [l1]; exact e.1, by rw [l1]; exact e.2⟩
      cases this
    have s3 : LS rs (us.take (i + 1)) k n false := by
      refine ⟨?_, ?_, ?_⟩
      · constructor
        · intro e; cases e
        · rintro ⟨r, hr, g1, g2⟩
          rw [l2] at g1 g2
          refine absurd ⟨by omega, ?_⟩ (hno r hr)
          have := congrArg (List.take i) g2
          rw [List.take_take, Nat.min_eq_left (by omega), tt i (Nat.le_refl _), List.take_take, Nat.min_self] at this
          exact this
      · intro r hr g1 g2
        rw [l2] at g1
        by_cases hri : r.1.length ≤ i
        · exact s1.max r hr (by rw [l1]; exact hri) (by rw [← tt _ hri]; exact g2)
        · refine absurd ⟨by omega, ?_⟩ (hno r hr)
          rw [← g2, List.take_take, Nat.min_eq_left (by omega), tt i (Nat.le_refl _), List.take_take, Nat.min_self]
      · rcases s1.res with e | ⟨m, e, g1, g2, g3, r, hr, g4⟩
        · exact .inl e
        · rw [l1] at g2
          exact .inr ⟨m, e, g1, by rw [l2]; omega, by rw [tt m g2]; exact g3, r, hr, by rw [tt m g2]; exact g4⟩
    obtain ⟨e1, e2, e3⟩ := s2.one s3
    exact ⟨e1, e2, e3⟩
end Go.Proofs.Ytmjcnopkckkaoaa
