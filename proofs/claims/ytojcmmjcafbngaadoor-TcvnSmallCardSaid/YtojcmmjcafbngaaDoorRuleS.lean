/- Layer 3: Singles. -/
import Derived.Test.YtojcmmjcafbngaaDoorFlatP
namespace Go.Proofs.YtojcmmjcafbngaaDoor
set_option linter.unusedVariables false
open Go.RowKit
set_option maxHeartbeats 1600000 in
theorem singles_any (n : Nat) (A : Option Addr) (c : Nat) (ps : List (Int × Int)) (B : Nat) (w : World) (hn : n = ps.length) (hr : Rd w B A ((flatP ps).map (Value.int .i64))) (hB : B ≤ w.heap.size) (hl : n ≤ 1048576) (ts : List Rl) (ht : singR ps = ts) :
    Calls Tryd.prog 18 #[.slice A n c] w fun e w' => ∃ v, e = .returned v ∧ OwnRs w.heap.size w' v ts ∧ Below w.heap.size w w' := by
  obtain ⟨i0, hi, hz0, hz1, hz2⟩ := info_parts inforl
  have HN := Lib.hid hn
  have HR := Lib.hid hr
  have HT := Lib.hid ht
  clear hn hr ht
  go_enter Tryd.func18, Tryd.ntmps18
  go_wp2
  go_loopw [3, 8] (fun v i wr => ∃ (K : Nat), K ≤ n ∧ i = .int .i64 K ∧ Hid (OwnRs w.heap.size wr v (singR (ps.take K))) ∧ Below w.heap.size w wr) (fun _ i _ => n - (intOf i).toNat)
  case atStart => exact ⟨0, by omega, rfl, OwnRs.nil _ _, Below.refl _ _⟩
  case round =>
    obtain ⟨K, hK, rfl, ho, hb⟩ := hrel
    by_cases hKn : K = n
    · have hK' : ¬ K < n := by omega
      have HE : Hid (singR (ps.take K) = ts) := by rw [List.take_of_length_le (by rw [← HN.out]; omega)]; exact HT.out
      clear hKn
      go_wp2
      go_ret
      exact ⟨_, rfl, by rw [← HE.out]; exact ho.out, hb⟩
    have hK' : K < n := by omega
    have hK1 : K < ps.length := by rw [← HN.out]; exact hK'
    obtain ⟨b, o, rfl, hbB, g1, g2⟩ := pair_at HR.out hK1
    have k1 := (hb.cell (p := ⟨b, o + K * 2, none⟩) (by show b < _; omega)).trans g1
    have k2 := (hb.cell (p := ⟨b, o + K * 2 + 1, none⟩) (by show b < _; omega)).trans g2
    have k3 : (0 : Int) ≤ K := by omega
    have k4 : (K : Int) < n := by omega
    obtain ⟨p, hp⟩ : ∃ p, ps[K].1 = p := ⟨_, rfl⟩
    obtain ⟨q, hq⟩ : ∃ q, ps[K].2 = q := ⟨_, rfl⟩
    rw [hp] at k1
    rw [hq] at k2
    have hsn : singR (ps.take (K + 1)) = singR (ps.take K) ++ [([p], [q])] := by
      unfold singR; rw [List.take_succ_eq_append_getElem hK1, List.map_append, List.map_cons, List.map_nil, hp, hq]
    have HSN := Lib.hid hsn
    have hlen : (singR (ps.take K)).length = K := by simp [singR]; omega
    obtain ⟨acc, hacc⟩ : ∃ acc, singR (ps.take K) = acc := ⟨_, rfl⟩
    rw [hacc] at hlen ho HSN
    obtain ⟨A3, c3, rfl, _⟩ := ho.out.form
    obtain ⟨xs, hown, hx⟩ := ho.out
    have hle : acc.length ≤ K := by omega
    have HX := Lib.hid hx
    have HL := Lib.hid hlen
    have hs := hb.size
    clear g1 g2 hp hq hsn hacc hlen hx
    go_wp2_with (at_builtin; refine wpList_appB _ rfl _ _ 32 rfl w.heap.size 34 i0 _ 2 48 Tryd.underlying32 hi hz0 hz1 hz2 rfl (by decide) _ _ _ rfl ((((hown.alloc _).alloc _).alloc _).alloc _) (wr.heap.size + 1 + 1 + 1 + 1) _ 1 1 [.slice (some ⟨wr.heap.size + 1, 0, none⟩) 1 1, .slice (some ⟨wr.heap.size + 1 + 1, 0, none⟩) 1 1] rfl rfl ?c1 ?c2 ?c3 ?c4 ?c5 ?_)
    case c1 => exact Rd_newR _ _ _ _ (by simp)
    case c2 => intro u hu; simp at hu; rcases hu with rfl | rfl <;> rfl
    case c3 => simp only [maxLen]; omega
    case c4 => omega
    case c5 => simp; omega
    intro v' w4 hown4 hg4 hv4
    have hb3 : Below wr.heap.size wr ((((wr.alloc (.cells #[.int .i64 p, .int .i64 q] 37)).alloc (.cells #[.int .i64 p] 3)).alloc (.cells #[.int .i64 q] 3)).alloc (.cells #[.slice (some ⟨wr.heap.size + 1, 0, none⟩) 1 1, .slice (some ⟨wr.heap.size + 1 + 1, 0, none⟩) 1 1] 34)) :=
      ((((Below.refl _ _).alloc (Nat.le_refl _) _).alloc (by simp) _).alloc (by simp; omega) _).alloc (by simp; omega) _
    have hne : ∀ x, (Value.slice A3 acc.length c3).ownBlock = some x → x < wr.heap.size := fun x hx => own_lt hown hx
    have hpush : OwnRs w.heap.size w4 v' (acc ++ [([p], [q])]) := by
      refine own_push (r := ([p], [q])) (v := .slice A3 acc.length c3) (xs := xs) (by simpa using hown4) ?_ ?_ ?_ hg4 (by simpa using hv4)
      · exact HX.out.step hb3.size fun b hb hx => ⟨hx, hb3.block b hb⟩
      · refine (us_new (wr.alloc (.cells #[.int .i64 p, .int .i64 q] 37)) (wr.heap.size + 1) (by simp) p).step (by simp) fun b hb he => ⟨?_, ?_⟩
        · intro e; have := hne _ e; have : b = wr.heap.size + 1 := he; omega
        · rw [Below.heap_alloc _ _ _ (by simp at hb ⊢; omega), Below.heap_alloc _ _ _ (by simpa using hb)]
      · refine (us_new ((wr.alloc (.cells #[.int .i64 p, .int .i64 q] 37)).alloc (.cells #[.int .i64 p] 3)) (wr.heap.size + 1 + 1) (by simp) q).step (by simp) fun b hb he => ⟨?_, ?_⟩
        · intro e; have := hne _ e; have : b = wr.heap.size + 1 + 1 := he; omega
        · rw [Below.heap_alloc _ _ _ (by simpa using hb)]
    have HP : Hid (OwnRs w.heap.size w4 v' (singR (ps.take (K + 1)))) := by rw [HSN.out]; exact hpush
    have hbE : Below w.heap.size w w4 := below_own (hb.trans (hb3.mono hs)) hg4 ((((hown.alloc _).alloc _).alloc _).alloc _) (Nat.le_refl _) (by simp; omega)
    clear hown4 hpush
    go_wp2
    go_roundw
    case rel => exact ⟨K + 1, by omega, by go_num, HP, hbE⟩
    case measure => simp [intOf]; omega
end Go.Proofs.YtojcmmjcafbngaaDoor
