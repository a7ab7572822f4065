/- Texts of this seat, one behind the other: VnD, CdR, CdPd. -/
import Derived.Test.YtncpokioagpclaaGreatDoorZ17
import Derived.Test.YtncpokioagpclaaGreatDoorZ19
import Derived.Test.YtncpokioagpclaaGreatDoorZ6
import Derived.Test.YtncpokioagpclaaGreatDoorZ9
import Derived.Test.YtncpokioagpclaaGreatDoorZ2
import Derived.Test.YtncpokioagpclaaGreatDoorZ11
import Derived.Test.YtncpokioagpclaaGreatDoorZ13
import Derived.Test.YtncpokioagpclaaGreatDoorZ20
import Derived.Test.YtncpokioagpclaaGreatDoorZ21
import Derived.Test.YtncpokioagpclaaGreatDoorZ22
namespace Go.Proofs.YtncpokioagpclaaGreatDoor
set_option linter.unusedVariables false
set_option linter.unusedSimpArgs false
set_option linter.unnecessarySimpa false
open Go.RowKit Go.Shelf
attribute [local go_sem] run_store_complex

/-- two blocks stay -/
def SameGH (g h : Nat) (a b : World) : Prop := b.heap[g]? = a.heap[g]? ∧ b.heap[h]? = a.heap[h]?
theorem SameGH.refl (g h : Nat) (w : World) : SameGH g h w w := ⟨rfl, rfl⟩
theorem SameGH.trans (g h : Nat) (a b c : World) (x : SameGH g h a b) (y : SameGH g h b c) : SameGH g h a c := ⟨y.1.trans x.1, y.2.trans x.2⟩
theorem SameGH.of {g h B : Nat} {a b : World} (hb : Below B a b) (hg : g < B) (hh : h < B) : SameGH g h a b := ⟨hb.block g hg, hb.block h hh⟩
theorem SameGH.cell1 {g h o : Nat} {a b : World} (x : SameGH g h a b) : b.cell? ⟨g, o, none⟩ = a.cell? ⟨g, o, none⟩ := cell_block x.1 o
theorem SameGH.cell2 {g h o : Nat} {a b : World} (x : SameGH g h a b) : b.cell? ⟨h, o, none⟩ = a.cell? ⟨h, o, none⟩ := cell_block x.2 o
theorem split_none13 (s : Int) (w : World) (hR : RowsV w) (hs : splitF s = none) :
    Calls Tryz.prog 89 #[.int .i64 s] w fun e w' => e = .returned (.tuple #[.agg #[.int .i64 0, .complex .f64 0 0], .bool false]) ∧ Below w.heap.size w w' := by
  have := split_any s w hR
  rw [hs] at this
  exact this
theorem split_some13 (s : Int) (k : Nat) (w : World) (hR : RowsV w) (hs : splitF s = some k) :
    Calls Tryz.prog 89 #[.int .i64 s] w fun e w' => e = .returned (.tuple #[.agg #[.int .i64 (LB k), .complex .f64 (fl (LM k)) (fl (LT k))], .bool true]) ∧ Below w.heap.size w w' := by
  have := split_any s w hR
  rw [hs] at this
  exact this

set_option maxRecDepth 100000 in
set_option maxHeartbeats 6400000 in
theorem vnrules_any (w : World) (hT : TabN w) :
    Calls Tryz.prog 54 #[] w fun e w' => ∃ v, e = .returned v ∧ OwnRs w.heap.size w' v vnR ∧ Below w.heap.size w w' := by
  have HT := Lib.hid hT
  have T1 := Lib.hid (two_any w hT.rows)
  clear hT
  go_enter Tryz.func54, Tryz.ntmps54
  go_wp2_with fail
  refine T1.out.mono ?_
  rintro e w2 ⟨g, c, h, d, rfl, h2, hb2, hc1, hc2, hd1, hd2⟩
  have HT2 := Lib.hid (HT.out.below hb2)
  have H2 := Lib.hid h2
  have hs2 := hb2.size
  have HB2 := Lib.hid hb2
  clear T1 HT h2 hb2
  go_wp2_with fail
  go_loopw [1, 15] (fun v i wr => ∃ K : Nat, K ≤ 148 ∧ i = .int .i64 K ∧ Hid (OwnRs w2.heap.size wr v (vnR.take K)) ∧ Hid (Below w2.heap.size w2 wr)) (fun _ i _ => 148 - (intOf i).toNat)
  case atStart => exact ⟨0, by omega, rfl, OwnRs.nil _ _, Lib.hid (Below.refl _ _)⟩
  case round =>
    obtain ⟨K, hK, rfl, ho, hb⟩ := hrel
    by_cases hKn : K = 148
    · subst hKn
      obtain ⟨wo, rfl⟩ : ∃ wo : World, wo = wr := ⟨_, rfl⟩
      rw [← vnA_zero] at ho
      rw [show ((148 : Nat) : Int) = 148 from rfl]
      go_wp2_with fail
      go_loopw [1, 32] (fun v i wr => ∃ C : Nat, C ≤ 128 ∧ i = .int .i64 C ∧ Hid (OwnRs w2.heap.size wr v (vnR.take (vnA C))) ∧ Hid (Below w2.heap.size w2 wr)) (fun _ i _ => 128 - (intOf i).toNat)
      case atStart => exact ⟨0, by omega, rfl, ho, hb⟩
      case round =>
        clear ho hb
        obtain ⟨C, hC, rfl, ho, hb⟩ := hrel
        by_cases hCn : C = 128
        · subst hCn
          rw [vnA_all, List.take_of_length_le (by rw [vnR_len]; exact Nat.le_refl _)] at ho
          have HO := Lib.hid (ho.out.low hs2)
          clear ho
          go_wp2
          go_ret
          exact ⟨_, rfl, HO.out, HB2.out.trans (hb.out.mono hs2)⟩
        have hC' : C < 128 := by omega
        have k3 : (0 : Int) ≤ C := by omega
        have k4 : (C : Int) < 128 := by omega
        have hwr := hb.out.size
        have HT3 := Lib.hid (HT2.out.below hb.out)
        have hal := vnR_takeLen (vnA C) (vnA_le C hC)
        have hale := vnA_le C hC
        have hyes := vnR_more C hC'
        have hno := vnA_no C
        obtain ⟨acc, hacc⟩ : ∃ acc, vnR.take (vnA C) = acc := ⟨_, rfl⟩
        rw [hacc] at hal hyes ho
        obtain ⟨A3, c3, rfl, -⟩ := ho.out.form
        have HAL := Lib.hid (show acc.length ≤ 1048576 by omega)
        clear hal hale hCn
        cases hsp : splitF (C : Int) with
        | none =>
          have HS := Lib.hid (hyes (by rw [hsp]; rfl))
          have D1 := Lib.hid (split_none13 (C : Int) wr HT3.out.rows hsp)
          clear hyes hno hsp hacc
          go_wp2_with fail
          refine D1.out.mono ?_
          rintro e w4 ⟨rfl, hb4⟩
          have hs4 := hb4.size
          have hb5 : Below w4.heap.size w4 (w4.alloc (.cells #[.int .i64 0, .complex .f64 0 0] 141)) := (Below.refl _ w4).alloc (Nat.le_refl _) _
          have HO5 := Lib.hid ((ho.out.below hb4 (Nat.le_refl _)).below hb5 (Nat.le_refl _))
          have HB5 := Lib.hid ((hb.out.trans (hb4.mono hwr)).trans (hb5.mono (by omega)))
          have hs5 : w2.heap.size ≤ (w4.alloc (.cells #[.int .i64 0, .complex .f64 0 0] 141)).heap.size := HB5.out.size
          clear hb4 hb5 ho hb D1
          go_wp2_with (at_builtin; refine wpList_appRlN rfl _ _ rfl w2.heap.size (.slice A3 acc.length c3) acc (C : Int) (C : Int) rfl HO5.out (w4.heap.size + 1) (by simp) rfl HAL.out hs5 ?_)
          intro v7 w7 HN HBB HTT
          have HB7 := Lib.hid (HBB.out w2.heap.size w2 (Nat.le_refl _) HB5.out)
          have HN2 : Hid (OwnRs w2.heap.size w7 v7 (vnR.take (vnA (C + 1)))) := by rw [HS.out]; exact HN
          clear HN HBB HTT
          go_wp2_with fail
          go_roundw
          case rel => exact ⟨C + 1, by omega, by go_num, HN2, HB7⟩
          case measure => simp [intOf]; omega
        | some k =>
          have HS := Lib.hid (hno (by rw [hsp]; rfl))
          have D1 := Lib.hid (split_some13 (C : Int) k wr HT3.out.rows hsp)
          have HA := Lib.hid hacc
          obtain ⟨bx, hbx⟩ : ∃ v, LB k = v := ⟨_, rfl⟩
          obtain ⟨rx, hrx⟩ : ∃ v, fl (LM k) = v := ⟨_, rfl⟩
          obtain ⟨ix, hix⟩ : ∃ v, fl (LT k) = v := ⟨_, rfl⟩
          rw [hbx, hrx, hix] at D1
          clear hyes hno hsp hacc hbx hrx hix
          go_wp2_with fail
          refine D1.out.mono ?_
          rintro e w4 ⟨rfl, hb4⟩
          have hs4 := hb4.size
          have hb5 : Below w4.heap.size w4 (w4.alloc (.cells #[.int .i64 bx, .complex .f64 rx ix] 141)) := (Below.refl _ w4).alloc (Nat.le_refl _) _
          have HN2 : Hid (OwnRs w2.heap.size (w4.alloc (.cells #[.int .i64 bx, .complex .f64 rx ix] 141)) (.slice A3 acc.length c3) (vnR.take (vnA (C + 1)))) := by rw [HS.out, HA.out]; exact (ho.out.below hb4 (Nat.le_refl _)).below hb5 (Nat.le_refl _)
          have HB5 := Lib.hid ((hb.out.trans (hb4.mono hwr)).trans (hb5.mono (by omega)))
          clear hb4 hb5 ho hb D1
          go_wp2
          go_roundw
          case rel => exact ⟨C + 1, by omega, by go_num, HN2, HB5⟩
          case measure => simp [intOf]; omega
    have hK' : K < 148 := by omega
    have k3 : (0 : Int) ≤ K := by omega
    have k4 : (K : Int) < 148 := by omega
    have hwr := hb.out.size
    have hTw := H2.out.below hb.out
    have l0 := hTw.lb K hK'
    have l1 := hTw.lz K hK'
    have l2 := hTw.ls K hK'
    have lg := hTw.lg
    have lh := hTw.lh
    have HE := Lib.hid (fun W h => vneither_any K hK' W h)
    have hv : letV K = #[.int .i64 (LB K), .complex .f64 (fl (LM K)) (fl (LT K))] := rfl
    have HS := Lib.hid (vnR_take K hK')
    have hal := vnR_takeLen K (by omega)
    rw [hv] at HE
    obtain ⟨acc, hacc⟩ : ∃ acc, vnR.take K = acc := ⟨_, rfl⟩
    obtain ⟨L, hLe⟩ : ∃ v, vnL K = v := ⟨_, rfl⟩
    obtain ⟨s, hs⟩ : ∃ v, LS K = v := ⟨_, rfl⟩
    obtain ⟨bx, hbx⟩ : ∃ v, LB K = v := ⟨_, rfl⟩
    obtain ⟨rx, hrx⟩ : ∃ v, fl (LM K) = v := ⟨_, rfl⟩
    obtain ⟨ix, hix⟩ : ∃ v, fl (LT K) = v := ⟨_, rfl⟩
    rw [hLe, hbx, hrx, hix] at HE
    rw [hbx] at l0
    rw [hrx, hix] at l1
    rw [hs] at l2
    rw [hacc, hLe, hs] at HS
    rw [hacc] at hal ho
    obtain ⟨A3, c3, rfl, -⟩ := ho.out.form
    have HAL := Lib.hid (show acc.length ≤ 1048576 by omega)
    clear hv hacc hLe hs hbx hrx hix hTw hal hKn
    go_wp2_with fail
    have hq0 := Held.new wr #[.int .i64 bx, .complex .f64 rx ix] 141
    have hb3 : Below wr.heap.size wr (wr.alloc (.cells #[.int .i64 bx, .complex .f64 rx ix] 141)) := (Below.refl _ wr).alloc (Nat.le_refl _) _
    have l3 := (hb3.cell (p := ⟨h, K, none⟩) lh).trans l2
    have HT3 := Lib.hid (HT2.out.below (hb.out.trans (hb3.mono hwr)))
    have HO3 := Lib.hid (ho.out.below hb3 (Nat.le_refl _))
    have HB3 := Lib.hid (hb.out.trans (hb3.mono hwr))
    obtain ⟨p, hp⟩ : ∃ p, wr.heap.size = p := ⟨_, rfl⟩
    obtain ⟨W3, hW3⟩ : ∃ W3, wr.alloc (.cells #[.int .i64 bx, .complex .f64 rx ix] 141) = W3 := ⟨_, rfl⟩
    have hs3 : p + 1 ≤ W3.heap.size := by rw [← hW3, ← hp]; simp
    have hs3' : W3.heap.size ≤ p + 1 := by rw [← hW3, ← hp]; simp
    rw [hW3] at hq0 l3 HT3 HO3 HB3 ⊢
    rw [hp] at hq0 lh hwr ⊢
    have q0 : W3.drew.cell? ⟨p, 0, none⟩ = some (.int .i64 bx) := hq0.cell 0
    have q1 : W3.drew.cell? ⟨p, 1, none⟩ = some (.complex .f64 rx ix) := hq0.cell 1
    have hlh := H2.out.lh
    clear hb3 hW3 hp ho hb l0 l1 l2 lg
    clear wr
    refine wp_region_fork (G := SameGH p h) (.soft 0 (.soft 1 (.soft 3 (.soft 4 (.soft 5 (.soft 6 (.two 2 7 (.one 7 (.soft 8 (.one 9 (.one 10 (.soft 11 .done))))) (.one 2 (.soft 8 (.one 9 (.one 10 (.soft 11 .done))))))))))))
      (SameGH.refl _ _) (SameGH.trans _ _) (by kernel_rfl) rfl (by kernel_rfl) (by kernel_rfl) ?_
    refine fork_soft rfl rfl ?_
    go_big_quiet_step ((intro _; rfl))
    refine wpQuiet_nil ?_
    refine fork_soft rfl rfl ?_
    go_big_quiet_step ((intro hh; have e0 := (hh.cell1 (o := 0)).trans q0; have e1 := (hh.cell1 (o := 1)).trans q1; simp only [e0, e1, Result.andThen_ok]; exact ⟨trivial, rfl⟩))
    refine wpQuiet_nil ?_
    refine fork_soft rfl rfl ?_
    go_big_quiet_step ((intro _; rfl))
    refine wpQuiet_nil ?_
    refine fork_soft rfl rfl ?_
    go_big_quiet_step ((intro _; rfl))
    refine wpQuiet_nil ?_
    refine fork_soft rfl rfl ?_
    go_big_quiet_step ((intro _; rfl))
    refine wpQuiet_nil ?_
    refine fork_soft rfl rfl ?_
    go_big_quiet_step ((intro hh; rw [hh.cell2, World.cell?_drew, l3]; exact ⟨rfl, rfl⟩))
    refine wpQuiet_nil ?_
    have HT3d := Lib.hid (show TabN W3.drew from HT3.out.below ((Below.refl W3.heap.size W3).drew))
    have HB3d := Lib.hid (show Below w2.heap.size w2 W3.drew from HB3.out.drew)
    have hq3d : Held W3.drew p #[.int .i64 bx, .complex .f64 rx ix] 141 := hq0
    refine fork_two rfl rfl ?_ ?_
    · go_wp2_with fail
      refine (HE.out _ HT3d.out).mono ?_
      rintro e w4 ⟨v4, rfl, hO4, hb4⟩
      obtain ⟨A4, c4, rfl, -, -⟩ := hO4.form
      have hs4 : p + 1 ≤ w4.heap.size := by have := hb4.size; simp at this; omega
      have HO4 := Lib.hid hO4.us
      have HR4 := Lib.hid ((show OwnRs w2.heap.size W3.drew _ _ from HO3.out.below ((Below.refl W3.heap.size W3).drew) (Nat.le_refl _)).below hb4 (by show W3.heap.size ≤ W3.heap.size; omega))
      have HB4 := Lib.hid (HB3d.out.trans (hb4.mono (by show w2.heap.size ≤ W3.heap.size; omega)))
      have HQ4 := Lib.hid (hq3d.below hb4 (by show p < W3.heap.size; omega))
      go_wp2_with fail
      refine ⟨SameGH.of hb4 (by show p < W3.heap.size; omega) (by show h < W3.heap.size; omega), ?_⟩
      clear hO4 hb4
      refine fork_one rfl ?_
      go_wp2_with fail
      have hb6 : Below w4.heap.size w4 (w4.alloc (.cells #[.int .i64 s] 3)) := (Below.refl _ w4).alloc (Nat.le_refl _) _
      refine ⟨SameGH.of hb6 (by omega) (by omega), ?_⟩
      have hown : ∀ b, p + 1 ≤ b → (Value.slice A3 acc.length c3).ownBlock ≠ some b := fun b hb e => by
        obtain ⟨xs, h1, _⟩ := HO3.out
        have := own_lt h1 e; omega
      have HU1 := Lib.hid (show Us (fun b => (Value.slice A3 acc.length c3).ownBlock ≠ some b) (w4.alloc (.cells #[.int .i64 s] 3)) (.slice A4 L.length c4) L from HO4.out.step hb6.size fun b hb hx => ⟨hown b (by have : W3.heap.size ≤ b := hx; omega), hb6.block b hb⟩)
      have HU2 := Lib.hid (show Us (fun b => (Value.slice A3 acc.length c3).ownBlock ≠ some b) (w4.alloc (.cells #[.int .i64 s] 3)) (.slice (some ⟨w4.heap.size, 0, none⟩) 1 1) [s] from (us_new w4 _ rfl s).step (Nat.le_refl _) fun b hb hx => ⟨hown b (by have : b = w4.heap.size := hx; omega), rfl⟩)
      have HO6 := Lib.hid (HR4.out.below hb6 (Nat.le_refl _))
      have HB6 := Lib.hid (HB4.out.trans (hb6.mono (by omega)))
      have HQ6 := Lib.hid (HQ4.out.below hb6 (by omega))
      have hs6 : w4.heap.size + 1 ≤ (w4.alloc (.cells #[.int .i64 s] 3)).heap.size := by simp
      obtain ⟨m, hm⟩ : ∃ m, w4.heap.size = m := ⟨_, rfl⟩
      obtain ⟨W6, hW6⟩ : ∃ W6, w4.alloc (.cells #[.int .i64 s] 3) = W6 := ⟨_, rfl⟩
      rw [hW6] at HU1 HU2 HO6 HB6 HQ6 hs6 ⊢
      rw [hm] at HU2 hs6 hs4 ⊢
      clear hb6 hm hW6
      refine fork_soft rfl rfl ?_
      go_big_quiet_step ((intro _; rfl))
      refine wpQuiet_nil ?_
      refine fork_one rfl ?_
      go_wp2_with fail
      refine ⟨SameGH.of ((Below.refl W6.heap.size W6).alloc (Nat.le_refl _) _) (by omega) (by omega), ?_⟩
      refine fork_one rfl ?_
      go_wp2_with (at_builtin; refine wpList_appRG rfl _ _ rfl w2.heap.size (.slice A3 acc.length c3) acc (.slice A4 L.length c4) (.slice (some ⟨m, 0, none⟩) 1 1) (L, [s]) rfl HO6.out HU1.out HU2.out _ rfl rfl HAL.out (by omega) ?_)
      intro v7 w7 HN HBB HTT
      go_wp2_with fail
      refine ⟨⟨(HTT.out p _ _ (by decide) HQ6.out).trans (((Below.refl W6.heap.size W6).alloc (Nat.le_refl _) _).block p (by omega) |>.trans HQ6.out).symm, ((HBB.out w2.heap.size w2 (Nat.le_refl _) HB6.out).block h hlh).trans ((HB6.out.alloc (by omega) _).block h hlh).symm⟩, ?_⟩
      refine fork_soft rfl rfl ?_
      go_big_quiet_step ((intro _; rfl))
      refine wpQuiet_nil ?_
      refine fork_done (NoPanic.normal ?_)
      have HB7 := HBB.out w2.heap.size w2 (Nat.le_refl _) HB6.out
      go_wp2_with fail
      go_roundw
      case rel => exact ⟨K + 1, by omega, by go_num, by rw [HS.out]; exact HN, Lib.hid HB7⟩
      case measure => simp [intOf]; omega
    · go_wp2_with fail
      have hb5 : Below W3.heap.size W3 ((W3.alloc (.cells #[.int .i64 s] 3)).drew) := ((Below.refl _ W3).alloc (Nat.le_refl _) _).drew
      have hown : ∀ b, p + 1 ≤ b → (Value.slice A3 acc.length c3).ownBlock ≠ some b := fun b hb e => by
        obtain ⟨xs, h1, _⟩ := HO3.out
        have := own_lt h1 e; omega
      have hu5 : Us (fun b => b = p + 1) ((W3.alloc (.cells #[.int .i64 s] 3)).drew) (.slice (some ⟨W3.heap.size, 0, none⟩) 1 1) [s] := by
        have e : p + 1 = W3.heap.size := by omega
        rw [e]
        exact us_new W3 _ rfl s
      have HT5 := Lib.hid (HT3.out.below hb5)
      have HO5 := Lib.hid (HO3.out.below hb5 (Nat.le_refl _))
      have HB5 := Lib.hid (HB3.out.trans (hb5.mono (by omega)))
      have HQ5 := Lib.hid (hq0.below hb5 (by omega))
      have hs5 : p + 2 ≤ ((W3.alloc (.cells #[.int .i64 s] 3)).drew).heap.size := by show p + 2 ≤ (W3.alloc (.cells #[.int .i64 s] 3)).heap.size; simp; omega
      refine ⟨show SameGH p h W3 _ from SameGH.of hb5 (by omega) (by omega), ?_⟩
      obtain ⟨m, hm⟩ : ∃ m, W3.heap.size = m := ⟨_, rfl⟩
      obtain ⟨W5, hW5⟩ : ∃ W5, (W3.alloc (.cells #[.int .i64 s] 3)).drew = W5 := ⟨_, rfl⟩
      rw [hW5] at hu5 HT5 HO5 HB5 HQ5 hs5 ⊢
      rw [hm] at hu5 ⊢
      clear hb5 hm hW5
      refine fork_one rfl ?_
      go_wp2_with fail
      refine (HE.out _ HT5.out).mono ?_
      rintro e w4 ⟨v4, rfl, hO4, hb4⟩
      obtain ⟨A4, c4, rfl, -, -⟩ := hO4.form
      have hs6 : p + 2 ≤ w4.heap.size := by have := hb4.size; omega
      have HO6 := Lib.hid (HO5.out.below hb4 (Nat.le_refl _))
      have HB6 := Lib.hid (HB5.out.trans (hb4.mono (by omega)))
      have HQ6 := Lib.hid (HQ5.out.below hb4 (by omega))
      have HU1 := Lib.hid (show Us (fun b => (Value.slice A3 acc.length c3).ownBlock ≠ some b) w4 (.slice A4 L.length c4) L from hO4.us.step (Nat.le_refl _) fun b hb hx => ⟨hown b (by have : W5.heap.size ≤ b := hx; omega), rfl⟩)
      have HU2 := Lib.hid (show Us (fun b => (Value.slice A3 acc.length c3).ownBlock ≠ some b) w4 (.slice (some ⟨m, 0, none⟩) 1 1) [s] from hu5.step hb4.size fun b hb hx => ⟨hown b (by have : b = p + 1 := hx; omega), hb4.block b hb⟩)
      go_wp2_with fail
      refine ⟨SameGH.of hb4 (by omega) (by omega), ?_⟩
      clear hO4 hb4 hu5 HT5 HO5 HB5 HQ5
      refine fork_soft rfl rfl ?_
      go_big_quiet_step ((intro _; rfl))
      refine wpQuiet_nil ?_
      refine fork_one rfl ?_
      go_wp2_with fail
      refine ⟨SameGH.of ((Below.refl w4.heap.size w4).alloc (Nat.le_refl _) _) (by omega) (by omega), ?_⟩
      refine fork_one rfl ?_
      go_wp2_with (at_builtin; refine wpList_appRG rfl _ _ rfl w2.heap.size (.slice A3 acc.length c3) acc (.slice A4 L.length c4) (.slice (some ⟨m, 0, none⟩) 1 1) (L, [s]) rfl HO6.out HU1.out HU2.out _ rfl rfl HAL.out (by omega) ?_)
      intro v7 w7 HN HBB HTT
      go_wp2_with fail
      refine ⟨⟨(HTT.out p _ _ (by decide) HQ6.out).trans (((Below.refl w4.heap.size w4).alloc (Nat.le_refl _) _).block p (by omega) |>.trans HQ6.out).symm, ((HBB.out w2.heap.size w2 (Nat.le_refl _) HB6.out).block h hlh).trans ((HB6.out.alloc (by omega) _).block h hlh).symm⟩, ?_⟩
      refine fork_soft rfl rfl ?_
      go_big_quiet_step ((intro _; rfl))
      refine wpQuiet_nil ?_
      refine fork_done (NoPanic.normal ?_)
      have HB7 := HBB.out w2.heap.size w2 (Nat.le_refl _) HB6.out
      go_wp2_with fail
      go_roundw
      case rel => exact ⟨K + 1, by omega, by go_num, by rw [HS.out]; exact HN, Lib.hid HB7⟩
      case measure => simp [intOf]; omega
end Go.Proofs.YtncpokioagpclaaGreatDoor
namespace Go.Proofs.YtncpokioagpclaaGreatDoor
set_option linter.unusedVariables false
set_option linter.unusedSimpArgs false
set_option linter.unnecessarySimpa false
open Go.RowKit
/-- the tables in a world -/
structure Tabs (w : World) : Prop where
  vis : HvAt w
  tc : TcAt w
  vn : TabN w
  tm : TabC w
theorem Tabs.below {w w' : World} (h : Tabs w) (hb : Below w.heap.size w w') : Tabs w' := ⟨h.vis.below hb, h.tc.below hb, h.vn.below hb, h.tm.below hb⟩
/-- a codec's rules -/
def cdR (k : Nat) : List Rl := if k = 1 then asR 128 else if k = 2 then vsR 256 else if k = 3 then tcR else if k = 4 then vnR else if k = 5 then thR 256 else if k = 6 then tmR else []
end Go.Proofs.YtncpokioagpclaaGreatDoor
namespace Go.Proofs.YtncpokioagpclaaGreatDoor
set_option linter.unusedVariables false
set_option linter.unusedSimpArgs false
/-- what bytes are read as -/
def decL (k : Nat) (us : List Int) : List Tk := if k = 0 then utA us else if k = 7 then (meanT 0 (rewA inR 0 us)).1 else rewA (cdR k) 0 us
/-- what scalars are written as -/
def encK (k : Nat) (us : List Int) : List Tk := if k = 0 then utE 0 us else if k = 7 then (lawE 0 [] 0 us).1 else encA (cdR k) us
theorem kinds {k : Nat} (h : k < 8) : k = 0 ∨ k = 7 ∨ (1 ≤ k ∧ k ≤ 6) := by omega
theorem cdR_p {k : Nat} (h1 : 1 ≤ k) (h2 : k ≤ 6) : TabP (cdR k) := by
  match k, h1, h2 with
  | 1, _, _ => exact asR_p
  | 2, _, _ => exact vsR_p
  | 3, _, _ => exact tcR_p
  | 4, _, _ => exact vnR_p
  | 5, _, _ => exact thR_p
  | 6, _, _ => exact tmR_p
end Go.Proofs.YtncpokioagpclaaGreatDoor
