/- Texts of this seat, one behind the other: TmRl. -/
import Derived.Test.YtncpokioagpclaaGreatDoorZ9
import Derived.Test.YtncpokioagpclaaGreatDoorZ13
import Derived.Test.YtncpokioagpclaaGreatDoorZ6
namespace Go.Proofs.YtncpokioagpclaaGreatDoor
set_option linter.unusedVariables false
set_option linter.unusedSimpArgs false
set_option linter.unnecessarySimpa false
open Go.RowKit
theorem sgF_one (c : Int) : sgF c [c] = [([c], [c])] := by simp [sgF, List.range, List.range.loop]
theorem tmR_lowF (c : Nat) (h : c < 128) : tmR.take (c + 1) = tmR.take c ++ sgF (c : Int) [(c : Int)] := by rw [sgF_one]; exact tmR_low c h
theorem tmR_vowF : tmR.take 141 = tmR.take 128 ++ sgF 145 tmV := by decide +kernel
theorem tmR_sgnF : tmR.take 151 = tmR.take 141 ++ sgF 166 tmS := by decide +kernel
def tmCv : Array Value := (tmC.map (Value.int .i64)).toArray
def tmVv : Array Value := (tmV.map (Value.int .i64)).toArray
def tmSv : Array Value := (tmS.map (Value.int .i64)).toArray
set_option maxRecDepth 100000 in
theorem con_ix : ∀ (K : Nat) (h : K < 22) (W : World), (Instr.index 178 (.agg tmCv) (.int .i64 (K : Int))).run Tryz.prog W = .ok (.int .i64 (tmCon K)) W
  | 0, _, _ => rfl
  | 1, _, _ => rfl
  | 2, _, _ => rfl
  | 3, _, _ => rfl
  | 4, _, _ => rfl
  | 5, _, _ => rfl
  | 6, _, _ => rfl
  | 7, _, _ => rfl
  | 8, _, _ => rfl
  | 9, _, _ => rfl
  | 10, _, _ => rfl
  | 11, _, _ => rfl
  | 12, _, _ => rfl
  | 13, _, _ => rfl
  | 14, _, _ => rfl
  | 15, _, _ => rfl
  | 16, _, _ => rfl
  | 17, _, _ => rfl
  | 18, _, _ => rfl
  | 19, _, _ => rfl
  | 20, _, _ => rfl
  | 21, _, _ => rfl
  | n + 22, h, _ => absurd h (by omega)
theorem TabC.block {w : World} (h : TabC w) : ∃ t fr, w.heap[0]? = some (.cells tmCv t fr) := by
  have h' : w.var? Tryz.prog "lontar/tamil.consonants" = some tmCv := h
  have hg : Tryz.prog.globalNamed "lontar/tamil.consonants" = some 0 := by kernel_rfl
  unfold World.var? at h'
  rw [hg] at h'
  simp only [Option.bind_some] at h'
  split at h'
  · rename_i cs t fr he
    injection h' with h'
    subst h'
    exact ⟨t, fr, he⟩
  · cases h'
theorem below_allocR (w : World) (o : Obj) : Below w.heap.size w (w.alloc o) := (Below.refl _ w).alloc (Nat.le_refl _) o
theorem rd_new_row (w : World) (l : List Int) : Rd (w.alloc (.cells (l.map (Value.int .i64)).toArray 3)) (w.heap.size + 1) (some ⟨w.heap.size, 0, none⟩) (l.map (Value.int .i64)) := by
  have := Rd_new w (l.map (Value.int .i64)).toArray 3
  simpa using this
theorem row_apart {base : Nat} {w w' : World} {v : Value} {acc ss : List Rl} {xs : List Value} {N : Nat} (ho : OwnRs base w v acc) (hN : w.heap.size ≤ N) (h : Rls (fun b => N ≤ b) w' xs ss) : Rls (fun b => v.ownBlock ≠ some b) w' xs ss :=
  h.step (Nat.le_refl _) fun b _ hx => ⟨fun e => by
    obtain ⟨ys, h1, _⟩ := ho
    have := own_lt h1 e; omega, rfl⟩
set_option maxRecDepth 100000 in
set_option maxHeartbeats 6400000 in
theorem tmrules_any (w : World) (hT : TabC w) :
    Calls Tryz.prog 55 #[] w fun e w' => ∃ v, e = .returned v ∧ OwnRs w.heap.size w' v tmR ∧ Below w.heap.size w w' := by
  have HT := Lib.hid hT
  clear hT
  go_enter Tryz.func55, Tryz.ntmps55
  go_wp2_with fail
  go_loopw [1, 5] (fun v i wr => ∃ C : Nat, C ≤ 128 ∧ i = .int .i64 C ∧ Hid (OwnRs w.heap.size wr v (tmR.take C)) ∧ Hid (Below w.heap.size w wr)) (fun _ i _ => 128 - (intOf i).toNat)
  case atStart => exact ⟨0, by omega, rfl, OwnRs.nil _ _, Lib.hid (Below.refl _ _)⟩
  case round =>
    obtain ⟨C, hC, rfl, ho, hb⟩ := hrel
    by_cases hCn : C = 128
    · subst hCn
      obtain ⟨w1, rfl⟩ : ∃ w1 : World, w1 = wr := ⟨_, rfl⟩
      rw [show ((128 : Nat) : Int) = 128 from rfl]
      have hs1 := hb.out.size
      -- the vowels
      have HS1 := Lib.hid tmR_vowF
      have HL1 := Lib.hid (show (tmR.take 128).length + (sgF 145 tmV).length ≤ 1048576 by rw [tmR_takeLen _ (by omega), sgF_len]; decide)
      have HM1 := Lib.hid (show 13 = (sgF 145 tmV).length by rw [sgF_len]; rfl)
      have HV1 := Lib.hid (tmR_takeLen 128 (by omega))
      obtain ⟨acc1, hacc1⟩ : ∃ acc, tmR.take 128 = acc := ⟨_, rfl⟩
      rw [hacc1] at HS1 HL1 HV1 ho
      obtain ⟨A1, c1, rfl, -⟩ := ho.out.form
      have hb2 := below_allocR w1 (.cells tmVv 3)
      have ho2 := Lib.hid (ho.out.below hb2 (Nat.le_refl _))
      have hb2' := Lib.hid (hb.out.trans (hb2.mono hs1))
      have hr2 := Lib.hid (rd_new_row w1 tmV)
      have C2 := Lib.hid (tsingle_any (w1.alloc (.cells tmVv 3)) 145 (by decide) (by decide) 13 13 (some ⟨w1.heap.size, 0, none⟩) (w1.heap.size + 1) tmV rfl (by decide) hr2.out (by simp))
      have hs2 : w.heap.size ≤ (w1.alloc (.cells tmVv 3)).heap.size := hb2'.out.size
      clear hb2 ho hb hacc1 hr2
      go_wp2_with (refine wpList_bs rfl 34 13 _ rfl (.slice (some ⟨w1.heap.size, 0, none⟩) 13 13) (w1.alloc (.cells tmVv 3)) (by kernel_rfl) ?_)
      obtain ⟨W2, hW2⟩ : ∃ W2, w1.alloc (.cells tmVv 3) = W2 := ⟨_, rfl⟩
      rw [hW2] at ho2 hb2' C2 hs2 ⊢
      clear hW2
      go_wp2_with fail
      refine C2.out.mono ?_
      rintro e w3 ⟨A3, c3, xs3, rfl, hr3, hl3, hb3⟩
      have HR3 := Lib.hid hr3
      have HX3 := Lib.hid (row_apart ho2.out (Nat.le_refl _) hl3)
      have HO3 := Lib.hid (ho2.out.below hb3 (Nat.le_refl _))
      have HB3 := Lib.hid (hb2'.out.trans (hb3.mono hs2))
      have hs3 := HB3.out.size
      clear hr3 hl3 hb3 ho2 hb2' C2
      go_wp2_with (at_builtin; refine wpList_appRsN rfl _ _ rfl w.heap.size (.slice A1 acc1.length c1) acc1 rfl HO3.out A3 13 c3 xs3 (sgF 145 tmV) rfl HM1.out _ HR3.out HX3.out HL1.out (by omega) ?_)
      intro v4 w4 HN4 HBB
      have hb4 := Lib.hid (HBB.out w.heap.size w (Nat.le_refl _) HB3.out)
      rw [← HS1.out] at HN4
      clear HBB HO3 HB3 HX3 HR3 HL1 HS1
      -- the signs
      have hs4 := hb4.out.size
      have HS5 := Lib.hid tmR_sgnF
      have HL5 := Lib.hid (show (tmR.take 141).length + (sgF 166 tmS).length ≤ 1048576 by rw [tmR_takeLen _ (by omega), sgF_len]; decide)
      have HM5 := Lib.hid (show 10 = (sgF 166 tmS).length by rw [sgF_len]; rfl)
      obtain ⟨acc4, hacc4⟩ : ∃ acc, tmR.take 141 = acc := ⟨_, rfl⟩
      rw [hacc4] at HS5 HL5 HN4
      obtain ⟨A4, c4, rfl, -⟩ := HN4.out.form
      have hb5 := below_allocR w4 (.cells tmSv 3)
      have ho5 := Lib.hid (HN4.out.below hb5 (Nat.le_refl _))
      have hb5' := Lib.hid (hb4.out.trans (hb5.mono hs4))
      have hr5 := Lib.hid (rd_new_row w4 tmS)
      have C5 := Lib.hid (tsingle_any (w4.alloc (.cells tmSv 3)) 166 (by decide) (by decide) 10 10 (some ⟨w4.heap.size, 0, none⟩) (w4.heap.size + 1) tmS rfl (by decide) hr5.out (by simp))
      have hs5 : w.heap.size ≤ (w4.alloc (.cells tmSv 3)).heap.size := hb5'.out.size
      clear hb5 HN4 hb4 hacc4 hr5
      go_wp2_with (refine wpList_bs rfl 34 10 _ rfl (.slice (some ⟨w4.heap.size, 0, none⟩) 10 10) (w4.alloc (.cells tmSv 3)) (by kernel_rfl) ?_)
      obtain ⟨W5, hW5⟩ : ∃ W2, w4.alloc (.cells tmSv 3) = W2 := ⟨_, rfl⟩
      rw [hW5] at ho5 hb5' C5 hs5 ⊢
      clear hW5
      go_wp2_with fail
      refine C5.out.mono ?_
      rintro e w6 ⟨A6, c6, xs6, rfl, hr6, hl6, hb6⟩
      have HR6 := Lib.hid hr6
      have HX6 := Lib.hid (row_apart ho5.out (Nat.le_refl _) hl6)
      have HO6 := Lib.hid (ho5.out.below hb6 (Nat.le_refl _))
      have HB6 := Lib.hid (hb5'.out.trans (hb6.mono hs5))
      have hs6 := HB6.out.size
      clear hr6 hl6 hb6 ho5 hb5' C5
      go_wp2_with (at_builtin; refine wpList_appRsN rfl _ _ rfl w.heap.size (.slice A4 acc4.length c4) acc4 rfl HO6.out A6 10 c6 xs6 (sgF 166 tmS) rfl HM5.out _ HR6.out HX6.out HL5.out (by omega) ?_)
      intro v7 w7 HN7 HBB
      have hb7 := Lib.hid (HBB.out w.heap.size w (Nat.le_refl _) HB6.out)
      rw [← HS5.out] at HN7
      clear HBB HO6 HB6 HX6 HR6 HL5 HS5
      -- the consonants
      obtain ⟨tt, fr, hblk⟩ := (HT.out.below hb7.out).block
      obtain ⟨RC, hRC⟩ : ∃ RC, tmCv = RC := ⟨_, rfl⟩
      have HIX := Lib.hid (fun K h W => con_ix K h W)
      have HSZ := Lib.hid (show (Tryz.prog.info? 178).map (·.size) = some tmCv.size by kernel_rfl)
      rw [hRC] at hblk HIX HSZ
      clear hRC
      go_wp2_with (refine wpList_load_row rfl 178 _ rfl 0 rfl tt RC fr _ hblk Tryz.underlying178 rfl HSZ.out ?_)
      clear hblk
      go_loopw [1, 24] (fun v i wr => ∃ K : Nat, K ≤ 22 ∧ i = .int .i64 K ∧ Hid (OwnRs w.heap.size wr v (tmR.take (151 + 8 * K))) ∧ Hid (Below w.heap.size w wr)) (fun _ i _ => 22 - (intOf i).toNat)
      case atStart => exact ⟨0, by omega, rfl, HN7, hb7⟩
      case round =>
        clear HN7 hb7
        obtain ⟨K, hK, rfl, ho, hb⟩ := hrel
        by_cases hKn : K = 22
        · subst hKn
          rw [tmR_all] at ho
          clear HIX HSZ
          go_wp2_with fail
          go_ret
          exact ⟨_, rfl, ho.out, hb.out⟩
        have hK' : K < 22 := by omega
        have k3 : (0 : Int) ≤ K := by omega
        have k4 : (K : Int) < 22 := by omega
        have hwr := hb.out.size
        have hix := fun W => HIX.out K hK' W
        have HG := Lib.hid (tmR_con K hK')
        have C8 := Lib.hid (syl_any K hK')
        have HGl : (tmG K).length = 8 := rfl
        have HL8 := Lib.hid (show (tmR.take (151 + 8 * K)).length + (tmG K).length ≤ 1048576 by rw [tmR_takeLen _ (by omega), HGl]; omega)
        obtain ⟨s, hs⟩ : ∃ s, tmCon K = s := ⟨_, rfl⟩
        obtain ⟨G, hG⟩ : ∃ G, tmG K = G := ⟨_, rfl⟩
        obtain ⟨acc8, hacc8⟩ : ∃ acc, tmR.take (151 + 8 * K) = acc := ⟨_, rfl⟩
        rw [hs] at hix C8
        rw [hG] at HG C8 HGl HL8
        rw [hacc8] at HG HL8 ho
        have HGL := Lib.hid HGl.symm
        obtain ⟨A8, c8, rfl, -⟩ := ho.out.form
        clear hs hG hacc8 HGl hKn
        go_wp2_with fail
        refine (C8.out wr).mono ?_
        rintro e w9 ⟨A9, xs9, rfl, hr9, hl9, hb9⟩
        have HR9 := Lib.hid hr9
        have HX9 := Lib.hid (row_apart ho.out (Nat.le_refl _) hl9)
        have HO9 := Lib.hid (ho.out.below hb9 (Nat.le_refl _))
        have HB9 := Lib.hid (hb.out.trans (hb9.mono hwr))
        have hs9 := HB9.out.size
        clear hr9 hl9 hb9 ho hb C8
        go_wp2_with (at_builtin; refine wpList_appRsN rfl _ _ rfl w.heap.size (.slice A8 acc8.length c8) acc8 rfl HO9.out A9 8 8 xs9 G rfl HGL.out _ HR9.out HX9.out HL8.out (by omega) ?_)
        intro v7 w7 HN HBB
        have HB7 := Lib.hid (HBB.out w.heap.size w (Nat.le_refl _) HB9.out)
        rw [← HG.out] at HN
        clear HBB HO9 HB9 HX9 HR9 HL8 HG hix
        go_wp2_with fail
        go_roundw
        case rel => exact ⟨K + 1, by omega, by go_num, HN, HB7⟩
        case measure => simp [intOf]; omega
    have hC' : C < 128 := by omega
    have k3 : (0 : Int) ≤ C := by omega
    have k4 : (C : Int) < 128 := by omega
    have hwr := hb.out.size
    have HS := Lib.hid (tmR_lowF C hC')
    have HL := Lib.hid (show (tmR.take C).length + (sgF (C : Int) [(C : Int)]).length ≤ 1048576 by rw [tmR_takeLen _ (by omega), sgF_len]; simp; omega)
    have HM := Lib.hid (show 1 = (sgF (C : Int) [(C : Int)]).length by rw [sgF_len]; rfl)
    obtain ⟨acc, hacc⟩ : ∃ acc, tmR.take C = acc := ⟨_, rfl⟩
    rw [hacc] at HS HL ho
    obtain ⟨A1, c1, rfl, -⟩ := ho.out.form
    have hb2 := below_allocR wr (.cells #[.int .i64 (C : Int)] 3)
    have ho2 := Lib.hid (ho.out.below hb2 (Nat.le_refl _))
    have hb2' := Lib.hid (hb.out.trans (hb2.mono hwr))
    have hr2 := Lib.hid (rd_new_row wr [(C : Int)])
    have C2 := Lib.hid (tsingle_any (wr.alloc (.cells #[.int .i64 (C : Int)] 3)) (C : Int) k3 (by omega) 1 1 (some ⟨wr.heap.size, 0, none⟩) (wr.heap.size + 1) [(C : Int)] rfl (by decide) hr2.out (by simp))
    have hs2 : w.heap.size ≤ (wr.alloc (.cells #[.int .i64 (C : Int)] 3)).heap.size := hb2'.out.size
    clear hb2 ho hb hacc hCn hr2
    go_wp2_with fail
    obtain ⟨W2, hW2⟩ : ∃ W2, wr.alloc (.cells #[.int .i64 (C : Int)] 3) = W2 := ⟨_, rfl⟩
    rw [hW2] at ho2 hb2' C2 hs2 ⊢
    clear hW2
    refine C2.out.mono ?_
    rintro e w3 ⟨A3, c3, xs3, rfl, hr3, hl3, hb3⟩
    have HR3 := Lib.hid hr3
    have HX3 := Lib.hid (row_apart ho2.out (Nat.le_refl _) hl3)
    have HO3 := Lib.hid (ho2.out.below hb3 (Nat.le_refl _))
    have HB3 := Lib.hid (hb2'.out.trans (hb3.mono hs2))
    have hs3 := HB3.out.size
    clear hr3 hl3 hb3 ho2 hb2' C2
    go_wp2_with (at_builtin; refine wpList_appRsN rfl _ _ rfl w.heap.size (.slice A1 acc.length c1) acc rfl HO3.out A3 1 c3 xs3 (sgF (C : Int) [(C : Int)]) rfl HM.out _ HR3.out HX3.out HL.out (by omega) ?_)
    intro v7 w7 HN HBB
    have HB7 := Lib.hid (HBB.out w.heap.size w (Nat.le_refl _) HB3.out)
    rw [← HS.out] at HN
    clear HBB HO3 HB3 HX3 HR3 HL HS
    go_wp2_with fail
    go_roundw
    case rel => exact ⟨C + 1, by omega, by go_num, HN, HB7⟩
    case measure => simp [intOf]; omega
end Go.Proofs.YtncpokioagpclaaGreatDoor
