/- Layer 3: the law's units. -/
import Derived.Test.YtmjcnopkckkaoaaRuleF
namespace Go.Proofs.Ytmjcnopkckkaoaa
set_option linter.unusedVariables false
open Go.RowKit
theorem unitsR_len (zs : List Int) (f : Int) : 1 ≤ (unitsR zs f).length ∧ (unitsR zs f).length ≤ 4 := by
  unfold unitsR; split
  · simp
  · simp; omega
def unF (f : Int) (zs : List Int) : List Int := zs.map fun u => f + u % 5
theorem unF_take {f : Int} {zs : List Int} {K : Nat} {z : Int} (hK : K < zs.length) (hz : zs.getD K 0 = z) : unF f (zs.take (K + 1)) = unF f (zs.take K) ++ [f + z % 5] := by
  have e1 : zs.getD K 0 = zs[K] := by simp [List.getD_eq_getElem?_getD, hK]
  unfold unF
  rw [List.take_succ_eq_append_getElem hK, List.map_append, ← e1, hz]; rfl
theorem unF_len (f : Int) (zs : List Int) : (unF f zs).length = zs.length := by simp [unF]
theorem us_own_take {base n m c : Nat} {w : World} {A : Option Addr} {ys us : List Int} (h : w.ownsRow base 3 1 (.slice A n c) n (ys.map (Value.int .i64))) (hm : m = us.length) (hmc : m ≤ c) (hu : ys.take m = us) : Us (fun b => base ≤ b) w (.slice A m c) us := by
  subst hm
  obtain ⟨A', c', e, h1, h2⟩ := own_form h
  injection e with e1 _ e3
  subst e1 e3
  refine ⟨A, c, rfl, hmc, h2, ?_⟩
  have hr := (Rd.own h).take us.length
  rw [← List.map_take, hu] at hr
  rcases hr with h3 | ⟨b, o, rfl, h3, h4⟩
  · exact .inl h3
  · exact .inr ⟨b, o, rfl, h3, (h.lt b rfl).1, h4⟩
theorem units_fin {zs : List Int} {f : Int} {n q : Nat} (hn : n = zs.length) (hq : (if 4 < n then 4 else n) = q) : (unF f (zs.take q) ++ [f]).take (unitsR zs f).length = unitsR zs f ∧ ((if (1 : Int) < q then (q : Int) else 1) = ((unitsR zs f).length : Int)) := by
  by_cases h0 : zs.length = 0
  · have : zs = [] := List.eq_nil_of_length_eq_zero h0
    subst this
    have : q = 0 := by rw [← hq, hn]; rfl
    subst this
    exact ⟨rfl, rfl⟩
  · have e : unitsR zs f = unF f (zs.take 4) := by unfold unitsR unF; rw [if_neg h0]
    have e4 : zs.take q = zs.take 4 := by
      by_cases h4 : 4 < n
      · rw [if_pos h4] at hq; rw [hq]
      · rw [if_neg h4] at hq; rw [List.take_of_length_le (by omega), List.take_of_length_le (by omega)]
    have hl : (unF f (zs.take 4)).length = q := by
      rw [unF_len, List.length_take]; split at hq <;> omega
    rw [e, e4, hl]
    refine ⟨?_, ?_⟩
    · rw [List.take_append_of_le_length (by omega), List.take_of_length_le (by omega)]
    · split at hq <;> split <;> omega

set_option maxHeartbeats 1600000 in
theorem units_any (n : Nat) (A : Option Addr) (c : Nat) (zs : List Int) (f : Int) (B : Nat) (w : World) (hn : n = zs.length) (hr : Rd w B A (zs.map (Value.int .u8))) (hw : ∀ z ∈ zs, 0 ≤ z ∧ z ≤ 255) (hB : B ≤ w.heap.size) (hl : n ≤ 9223372036854775807) (hc : n ≤ c) (hf : 0 ≤ f ∧ f ≤ 1000) (us : List Int) (m : Nat) (hu : unitsR zs f = us) (hm : us.length = m) :
    Calls Try.prog 35 #[.slice A n c, .int .i64 f] w fun e w' => ∃ A' c', e = .returned (.slice A' m c') ∧ Us (fun b => w.heap.size ≤ b) w' (.slice A' m c') us ∧ Below w.heap.size w w' := by
  obtain ⟨i0, hi, hz0, hz1, hz2⟩ := info_parts infoint
  obtain ⟨q, hq, hqn, hq4⟩ : ∃ q : Nat, ((if 4 < n then 4 else n) = q) ∧ q ≤ n ∧ q ≤ 4 := ⟨_, rfl, by split <;> omega, by split <;> omega⟩
  have HN := Lib.hid hn
  have HR := Lib.hid hr
  have HW := Lib.hid hw
  have HU := Lib.hid hu
  have HM := Lib.hid hm
  have HQ := Lib.hid hq
  have hmin : (if (4 : Int) < n then (4 : Int) else n) = (q : Int) := by rw [← hq]; split <;> split <;> omega
  have hqc : q ≤ c := by omega
  have hq0 : (0 : Int) ≤ (q : Int) := by omega
  clear hn hr hw hu hm hq
  go_enter Try.func35, Try.ntmps35
  go_wp2
  go_loopw [5, 14] (fun v i wr => ∃ K : Nat, K ≤ q ∧ i = .int .i64 K ∧ Hid (wr.ownsRow w.heap.size 3 1 v K ((unF f (zs.take K)).map (Value.int .i64))) ∧ Below w.heap.size w wr) (fun _ i _ => q - (intOf i).toNat)
  case atStart => exact ⟨0, by omega, rfl, World.ownsRow_nil _ _ _ _, Below.refl _ _⟩
  case round =>
    obtain ⟨K, hK, rfl, ho, hb⟩ := hrel
    have hs := hb.size
    by_cases hKq : K = q
    · have hK' : ¬ K < q := by omega
      obtain ⟨A3, c3, rfl, hc3, hm3⟩ := own_form ho.out
      have hown := ho.out
      have M3 := Lib.hid hm3
      clear hm3
      subst hKq
      obtain ⟨hft, hmx⟩ := units_fin (f := f) HN.out HQ.out
      rw [HU.out, HM.out] at hft hmx
      have HFT := Lib.hid hft
      have hml : m ≤ K + 1 := by rw [show (m : Nat) = (if (1 : Int) < K then (K : Int) else 1).toNat by omega]; split <;> omega
      clear hft
      go_wp2_with (at_builtin; refine wpList_appB _ rfl _ _ 24 rfl w.heap.size 3 i0 (.int .i64 0) 1 8 Try.underlying24 hi hz0 hz1 hz2 rfl (by decide) _ _ _ rfl (hown.alloc _) (wr.heap.size + 1) _ 1 1 [.int .i64 f] rfl rfl ?c1 ?c2 ?c3 ?c4 ?c5 ?_)
      case c1 => exact Rd_newR _ _ _ _ rfl
      case c2 => intro u hu; simp at hu; subst hu; rfl
      case c3 => simp only [maxLen]; omega
      case c4 => omega
      case c5 => simp; omega
      intro v' w1 hown1 hg1 hv1
      obtain ⟨A5, c5, rfl, hc5, hm5⟩ := own_form hown1
      have HO1 := Lib.hid hown1
      have M5 := Lib.hid hm5
      have hbE : Below w.heap.size w w1 := below_own (hb.trans (((Below.refl _ _).alloc (Nat.le_refl _) _).mono hs)) hg1 (hown.alloc _) (Nat.le_refl _) (by simp; omega)
      have hm0 : (0 : Int) ≤ m := by omega
      have hm1 : m ≤ c5 := by omega
      clear hown1 hm5 hv1 hg1
      go_wp2
      go_ret
      exact ⟨_, _, rfl, us_own_take (ys := unF f (zs.take K) ++ [f]) (by rw [List.map_append]; exact HO1.out) HM.out.symm hm1 HFT.out, hbE⟩
    have hK' : K < q := by omega
    have hK1 : K < zs.length := by rw [← HN.out]; omega
    obtain ⟨b, o, rfl, hbB, hcell⟩ := rd_ints HR.out (by omega)
    have k1 := (hb.cell (p := ⟨b, o + K, none⟩) (by show b < _; omega)).trans (hcell K hK1)
    have hwz := getD_range HW.out K hK1
    obtain ⟨z, hz⟩ : ∃ z, zs.getD K 0 = z := ⟨_, rfl⟩
    rw [hz] at k1 hwz
    have hw0 : 0 ≤ z := hwz.1
    have hw1 : z ≤ 255 := hwz.2
    have hsn := unF_take (f := f) hK1 hz
    have HSN := Lib.hid hsn
    have k3 : (0 : Int) ≤ K := by omega
    have k4 : (K : Int) < q := by omega
    have hown := ho.out
    clear hcell hz hsn hwz
    go_wp2_with (at_builtin; refine wpList_appB _ rfl _ _ 24 rfl w.heap.size 3 i0 (.int .i64 0) 1 8 Try.underlying24 hi hz0 hz1 hz2 rfl (by decide) _ _ _ rfl (hown.alloc _) (wr.heap.size + 1) _ 1 1 [.int .i64 (f + z % 5)] rfl rfl ?c1 ?c2 ?c3 ?c4 ?c5 ?_)
    case c1 => exact Rd_newR _ _ _ _ rfl
    case c2 => intro u hu; simp at hu; subst hu; rfl
    case c3 => simp only [maxLen]; omega
    case c4 => omega
    case c5 => simp; omega
    intro v' w1 hown1 hg1 hv1
    have hbE : Below w.heap.size w w1 := below_own (hb.trans (((Below.refl _ _).alloc (Nat.le_refl _) _).mono hs)) hg1 (hown.alloc _) (Nat.le_refl _) (by simp; omega)
    have HP : Hid (w1.ownsRow w.heap.size 3 1 v' (K + 1) ((unF f (zs.take (K + 1))).map (Value.int .i64))) := by
      rw [HSN.out, List.map_append]; exact hown1
    clear hown1
    go_wp2
    go_roundw
    case rel => exact ⟨K + 1, by omega, by go_num, HP, hbE⟩
    case measure => simp [intOf]; omega
end Go.Proofs.Ytmjcnopkckkaoaa
