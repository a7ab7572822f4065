/- RuleMany: the walk. -/
import Derived.Test.YtaljkdljinkemaaRuleL
namespace Go.Proofs.Ytaljkdljinkemaa
set_option linter.unusedVariables false
open Go.RowKit
set_option maxRecDepth 100000 in
set_option maxHeartbeats 3200000 in
theorem ruleMany_any (q : Int) (w : World) (hq : 0 ≤ q ∧ q ≤ 65535) :
    Calls Try.prog 4 #[.int .u16 q] w fun e w' => e = .returned (.bool true) ∧ Below w.heap.size w w' := by
  obtain ⟨i0, hi, hz0, HZ1, hz2⟩ := info_parts inforl
  obtain ⟨n, hn⟩ : ∃ n : Nat, q % 600 = n := ⟨(q % 600).toNat, by omega⟩
  have hn6 : n < 600 := by omega
  have hq0 := hq.1
  have hq1 := hq.2
  go_enter Try.func4, Try.ntmps4
  go_wp2_with fail
  refine (rawake_any _).mono ?_
  rintro e w1 ⟨rfl, hb1⟩
  have hs1 := hb1.size
  go_wp2
  go_loopw [3, 4] (fun v i wr => ∃ (K : Nat) (acc : List Rl), K ≤ n ∧ i = .int .i64 K ∧ Hid (OwnRs w.heap.size wr v acc) ∧ Hid (manyFrom 0 K = acc) ∧ acc.length ≤ K ∧ Below w.heap.size w wr) (fun _ i _ => n - (intOf i).toNat)
  case atStart => exact ⟨0, [], by omega, rfl, OwnRs.nil _ _, rfl, by simp, hb1⟩
  case round =>
    obtain ⟨K, acc, hK, rfl, ho, hm, hl, hb⟩ := hrel
    have hs := hb.size
    have hla : acc.length = K := by rw [← hm.out]; exact manyFrom_len K 0
    obtain ⟨A3, c3, rfl, hat⟩ := ho.out.form
    by_cases hKn : K = n
    · have hK' : ¬ K < n := by omega
      have hck := many_check n 0 [] (by simp) (by omega) (by omega)
      have hlg := many_long n 0 0 (by omega)
      have hmm := hm.out
      rw [hKn] at hmm
      rw [show ((0 : Nat) : Int) = 0 from rfl, hmm] at hck
      rw [hmm] at hlg
      rw [hla] at hat ⊢
      have HAT := Lib.hid hat
      have HLG := Lib.hid hlg
      clear hat hmm hlg hla
      by_cases h5 : 512 < K
      · rw [if_pos (by omega)] at hck
        have HCK := Lib.hid hck
        clear hKn hck
        go_wp2_with fail
        refine (check_any K A3 c3 acc wr.heap.size _ HAT.out (Nat.le_refl _) 512 7 HCK.out).mono ?_
        rintro e w2 ⟨rfl, hb2⟩
        go_wp2
        go_ret
        exact ⟨rfl, hb.trans (hb2.mono hs)⟩
      · rw [if_neg (by omega)] at hck
        have HCK := Lib.hid hck
        obtain ⟨L, hL⟩ : ∃ L, longR acc = L := ⟨_, rfl⟩
        have hLm : L = if 1 < K then 1 else K := by
          rw [← hL]; have h1 := HLG.out; unfold longR; rw [h1, hKn]
          by_cases h0 : n = 0
          · rw [if_pos h0, if_neg (by omega)]; omega
          · rw [if_neg h0, if_pos (by omega)]; split <;> omega
        have hmin : (if (K : Int) < 1 then (K : Int) else 1) = L := by rw [hLm]; split <;> split <;> omega
        have HLL := Lib.hid hL
        clear hKn hck hL hLm
        go_wp2_with fail
        refine (check_any K A3 c3 acc wr.heap.size _ HAT.out (Nat.le_refl _) (-1) 0 HCK.out).mono ?_
        rintro e w2 ⟨rfl, hb2⟩
        have hs2 := hb2.size
        go_wp2_with fail
        refine (longest_any K A3 c3 acc wr.heap.size _ (HAT.out.below hb2 (Nat.le_refl _)) hs2 L HLL.out).mono ?_
        rintro e w3 ⟨rfl, hb3⟩
        go_wp2
        go_ret
        exact ⟨rfl, hb.trans ((hb2.trans (hb3.mono hs2)).mono hs)⟩
    have hK' : K < n := by omega
    have k0 : (0 : Int) ≤ K := by omega
    have HSN : Hid (manyFrom 0 (K + 1) = acc ++ [([(K : Int)], [1])]) := by rw [manyFrom_snoc, hm.out]; simp [Hid]
    obtain ⟨xs, hown, hx⟩ := ho.out
    have HX := Lib.hid hx
    have HN := Lib.hid hn
    clear hx hat hla

    go_wp2_with (at_builtin; refine wpList_appB _ rfl _ _ 24 rfl w.heap.size 28 i0 _ 2 48 Try.underlying24 hi hz0 HZ1 hz2 rfl (by decide) _ _ _ rfl (((hown.alloc _).alloc _).alloc _) (wr.heap.size + 1 + 1 + 1) _ 1 1 [.slice (some ⟨wr.heap.size, 0, none⟩) 1 1, .slice (some ⟨wr.heap.size + 1, 0, none⟩) 1 1] rfl rfl ?c1 ?c2 ?c3 ?c4 ?c5 ?_)
    case c1 => exact Rd_newR _ _ _ _ (by simp)
    case c2 => intro u hu; simp at hu; rcases hu with rfl | rfl <;> rfl
    case c3 => simp only [maxLen]; omega
    case c4 => omega
    case c5 => simp; omega
    intro v' w4 hown4 hg4 hv4
    have hb3 : Below wr.heap.size wr (((wr.alloc (.cells #[.int .i64 K] 3)).alloc (.cells #[.int .i64 1] 3)).alloc (.cells #[.slice (some ⟨wr.heap.size, 0, none⟩) 1 1, .slice (some ⟨wr.heap.size + 1, 0, none⟩) 1 1] 28)) :=
      (((Below.refl _ _).alloc (Nat.le_refl _) _).alloc (by simp) _).alloc (by simp; omega) _
    have hne : ∀ x, (Value.slice A3 acc.length c3).ownBlock = some x → x < wr.heap.size := fun x hx => own_lt hown hx
    have hpush : OwnRs w.heap.size w4 v' (acc ++ [([(K : Int)], [1])]) := by
      refine own_push (r := ([(K : Int)], [1])) (v := .slice A3 acc.length c3) (xs := xs) (by simpa using hown4) ?_ ?_ ?_ hg4 (by simpa using hv4)
      · exact HX.out.step hb3.size fun b hb hx => ⟨hx, hb3.block b hb⟩
      · refine (us_new wr wr.heap.size rfl K).step (by simp) fun b hb he => ⟨?_, ?_⟩
        · intro e; have := hne _ e; have : b = wr.heap.size := he; omega
        · rw [Below.heap_alloc _ _ _ (by simp at hb ⊢; omega), Below.heap_alloc _ _ _ (by simpa using hb)]
      · refine (us_new (wr.alloc (.cells #[.int .i64 K] 3)) (wr.heap.size + 1) (by simp) 1).step (by simp) fun b hb he => ⟨?_, ?_⟩
        · intro e; have := hne _ e; have : b = wr.heap.size + 1 := he; omega
        · rw [Below.heap_alloc _ _ _ (by simpa using hb)]
    have HP := Lib.hid hpush
    have hbE : Below w.heap.size w w4 := below_own (hb.trans (hb3.mono hs)) hg4 (((hown.alloc _).alloc _).alloc _) (Nat.le_refl _) (by simp; omega)
    clear hown4 hpush
    go_wp2
    go_roundw
    case rel => exact ⟨K + 1, _, by omega, by go_num, HP, HSN, by simp; omega, hbE⟩
    case measure => simp [intOf]; omega
end Go.Proofs.Ytaljkdljinkemaa
