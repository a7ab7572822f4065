/- Texts of this seat, one behind the other: Cat. -/
import Derived.Test.YtncpokioagpclaaGreatDoorZ9
import Derived.Lib.AppendZerosOnto
import Derived.Lib.SliceRun
namespace Go.Proofs.YtncpokioagpclaaGreatDoor
set_option linter.unusedVariables false
set_option linter.unusedSimpArgs false
set_option linter.unnecessarySimpa false
open Go.RowKit
set_option maxRecDepth 100000 in
set_option maxHeartbeats 3200000 in
theorem sgrow_any (n : Nat) (w : World) (h0 : 0 < n) (hs : n ≤ 1048576) :
    Calls Tryz.prog 238 #[.slice none 0 0, .int .i64 n] w fun e w' => ∃ v, e = .returned v ∧ IR w' w.heap.size v [] ∧ Below w.heap.size w w' := by
  obtain ⟨i0, hi, hz0, hz1, hz2⟩ := info_parts infoI
  have hrz : ∀ ty, (Builtin.append_ #[34, 3] ty #[.slice none 0 0, .int .i64 (n : Int)]).run Tryz.prog w = .ok (.slice (some ⟨w.heap.size, 0, none⟩) n (grownCap w n 0 3)) (w.drew.alloc (.cells (([] : List Value).toArray ++ Builtin.zeroCells (Value.int .i64 0).cells n ++ Builtin.zeroCells (Value.int .i64 0).cells (grownCap w n 0 3 - n)) 3)) := fun ty => by
    have h := Lib.run_append_grow_zeros (P := Tryz.prog) w 34 3 ty 3 i0 (.int .i64 0) .i64 .i64 Tryz.underlying34 Tryz.underlying3 hi hz0 none 0 0 [] (run_firstCells_none w.drew i0.size 0 0 0) n h0 (by omega) (by omega) (by omega) (by rw [hz2]; omega) (by rw [hz2]; exact growslice_fits (by omega) (by omega))
    simpa only [Nat.zero_add] using h
  have hGn := grownCap_ge w n 0 3
  have hGm := grownCap_le_maxLen w n 0 3 (by unfold maxLen; omega)
  obtain ⟨G, hG⟩ : ∃ G, G = grownCap w n 0 3 := ⟨_, rfl⟩
  rw [← hG] at hrz hGn hGm
  have HGM := Lib.hid hGm
  have hG63 : G ≤ 9223372036854775807 := by unfold maxLen at hGm; omega
  have hcs : (([] : List Value).toArray ++ Builtin.zeroCells (Value.int .i64 0).cells n ++ Builtin.zeroCells (Value.int .i64 0).cells (G - n)).size = G := by
    simp only [Array.size_append, size_zeroCells, List.size_toArray, List.length_nil]
    have : (Value.int IntKind.i64 0).cells.size = 1 := rfl
    rw [this]; omega
  obtain ⟨cs, hC⟩ : ∃ cs, (([] : List Value).toArray ++ Builtin.zeroCells (Value.int .i64 0).cells n ++ Builtin.zeroCells (Value.int .i64 0).cells (G - n)) = cs := ⟨_, rfl⟩
  rw [hC] at hrz hcs
  have HCS := Lib.hid hcs
  clear hG hGm hC hcs
  have h1 : ¬ ((n : Int) < 0) := by omega
  have h2 : ((n : Int) > 0) := by omega
  have h3 : IntKind.i64.wrap (n : Int) = n := by rw [IntKind.wrap_i64]; omega
  go_enter Tryz.func238, Tryz.ntmps238
  go_wp2_with (at_builtin; refine Lib.wpList_append_run _ rfl _ _ _ _ rfl _ _ rfl rfl _ _ (hrz _) ?_)
  go_ret
  have hb : Below w.heap.size w (w.drew.alloc (.cells cs 3)) := (below_dN w 1).alloc (by simp [World.drewN]) _
  refine ⟨_, rfl, ⟨rfl, .inr ⟨w.heap.size, G, cs, rfl, Nat.le_refl _, heap_alloc_new w.drew _, Nat.zero_le _, HGM.out, by rw [HCS.out]; omega, by simp⟩⟩, hb⟩
set_option maxRecDepth 100000 in
set_option maxHeartbeats 6400000 in
theorem concat_any (na : Nat) (Aa : Option Addr) (ca : Nat) (xs : List Int) (Ba : Nat) (n : Nat) (A : Option Addr) (c : Nat) (us : List Int) (B : Nat) (w : World) (N : Nat) (hN : Held w N #[.slice Aa na ca, .slice A n c] 34)
    (hna : na = xs.length) (hra : Rd w Ba Aa (xs.map (Value.int .i64))) (hBa : Ba ≤ w.heap.size) (hn : n = us.length) (hr : Rd w B A (us.map (Value.int .i64))) (hB : B ≤ w.heap.size) (hz : 0 < na + n) (hs1 : na ≤ 1048) (hs2 : n ≤ 1048) :
    Calls Tryz.prog 237 #[.slice (some ⟨N, 0, none⟩) 2 2] w fun e w' => ∃ v, e = .returned v ∧ IR w' w.heap.size v (xs ++ us) ∧ Below w.heap.size w w' := by
  have HQ := Lib.hid hN
  have hlt := hN.lt
  have q0 := hN.cell 0
  have q1 := hN.cell 1
  have HNA := Lib.hid hna
  have HRA := Lib.hid hra
  have HN := Lib.hid hn
  have HR := Lib.hid hr
  have G1 := Lib.hid (sgrow_any (na + n) w hz (by omega))
  clear hN hna hra hn hr
  go_enter Tryz.func237, Tryz.ntmps237
  go_wp2_with fail
  go_loopw [3, 11] (fun s i wr => ∃ (K S : Int), i = .int .i64 K ∧ s = .int .i64 S ∧ Hid ((K = 0 ∧ S = 0) ∨ (K = 1 ∧ S = na) ∨ (K = 2 ∧ S = na + n)) ∧ wr = w) (fun _ i _ => 2 - (intOf i).toNat)
  case atStart => exact ⟨0, 0, rfl, rfl, Lib.hid (.inl ⟨rfl, rfl⟩), by trivial⟩
  case round =>
    obtain ⟨K, S, rfl, rfl, hS, hwr⟩ := hrel
    subst hwr
    have w1 : IntKind.i64.wrap (na : Int) = na := by rw [IntKind.wrap_i64]; omega
    have w2 : IntKind.i64.wrap ((na : Int) + n) = (na : Int) + n := by rw [IntKind.wrap_i64]; omega
    have d1 : decide ((na : Int) < 0) = false := by simp
    have d2 : decide ((na : Int) + n < 0) = false := by simp; omega
    rcases hS with ⟨rfl, rfl⟩ | ⟨rfl, rfl⟩ | ⟨rfl, rfl⟩
    · go_wp2_with fail
      go_roundw
      case rel => exact ⟨1, na, by go_num, by go_num, Lib.hid (.inr (.inl ⟨rfl, rfl⟩)), by trivial⟩
      case measure => simp [intOf]
    · go_wp2_with fail
      go_roundw
      case rel => exact ⟨2, na + n, by go_num, by go_num, Lib.hid (.inr (.inr ⟨rfl, rfl⟩)), by trivial⟩
      case measure => simp [intOf]
    · go_wp2_with fail
      rw [show (na : Int) + (n : Int) = ((na + n : Nat) : Int) from rfl]
      refine G1.out.mono ?_
      rintro e w5 ⟨v5, rfl, ho, hb⟩
      obtain ⟨A5, c5, rfl, -, -⟩ := ho.form
      have HO := Lib.hid ho
      have HB := Lib.hid hb
      clear ho hb q0 q1 G1 w1 w2 d1 d2
      go_wp2_with fail
      obtain ⟨wo, rfl⟩ : ∃ wo : World, wo = wr := ⟨_, rfl⟩
      go_loopw [6, 27] (fun v i w6 => ∃ (K : Int) (acc : List Int), i = .int .i64 K ∧ Hid (IR w6 wo.heap.size v acc) ∧ Hid ((K = 0 ∧ acc = []) ∨ (K = 1 ∧ acc = xs) ∨ (K = 2 ∧ acc = xs ++ us)) ∧ Hid (Below wo.heap.size wo w6)) (fun _ i _ => 2 - (intOf i).toNat)
      case atStart => exact ⟨0, [], rfl, HO, Lib.hid (.inl ⟨rfl, rfl⟩), HB⟩
      case round =>
        clear HO HB
        obtain ⟨K, acc, rfl, ho, hS, hb⟩ := hrel
        have q0 := (HQ.out.below hb.out hlt).cell 0
        have q1 := (HQ.out.below hb.out hlt).cell 1
        have hsz := hb.out.size
        obtain ⟨A6, c6, rfl, -, -⟩ := ho.out.form
        rcases hS with ⟨rfl, rfl⟩ | ⟨rfl, rfl⟩ | ⟨rfl, rfl⟩
        · go_wp2_with (at_builtin; refine wpList_appI rfl _ _ rfl wo.heap.size (.slice A6 0 c6) [] rfl ho.out Aa na ca xs rfl HNA.out Ba (HRA.out.below (hb.out.mono hBa) (Nat.le_refl _)) (by have := HNA.out; simp; omega) hsz ?_)
          intro v1 w1 HI1 HG1
          have HB1 := Lib.hid (IR.keepsB hb.out HG1.out ho.out (Nat.le_refl _) hsz)
          have HI2 : Hid (IR w1 wo.heap.size v1 xs) := HI1
          clear HG1 HI1
          obtain ⟨A7, c7, rfl, -, -⟩ := HI2.out.form
          go_wp2_with fail
          go_roundw
          case rel => exact ⟨1, xs, by go_num, HI2, Lib.hid (.inr (.inl ⟨rfl, rfl⟩)), HB1⟩
          case measure => simp [intOf]
        · go_wp2_with (at_builtin; refine wpList_appI rfl _ _ rfl wo.heap.size (.slice A6 acc.length c6) acc rfl ho.out A n c us rfl HN.out B (HR.out.below (hb.out.mono hB) (Nat.le_refl _)) (by have := HNA.out; have := HN.out; omega) hsz ?_)
          intro v1 w1 HI1 HG1
          have HB1 := Lib.hid (IR.keepsB hb.out HG1.out ho.out (Nat.le_refl _) hsz)
          have HI2 : Hid (IR w1 wo.heap.size v1 (acc ++ us)) := HI1
          clear HG1 HI1
          obtain ⟨A7, c7, rfl, -, -⟩ := HI2.out.form
          go_wp2_with fail
          go_roundw
          case rel => exact ⟨2, acc ++ us, by go_num, HI2, Lib.hid (.inr (.inr ⟨rfl, rfl⟩)), HB1⟩
          case measure => simp [intOf]
        · go_wp2_with fail
          go_ret
          exact ⟨_, rfl, ho.out, hb.out⟩
end Go.Proofs.YtncpokioagpclaaGreatDoor
