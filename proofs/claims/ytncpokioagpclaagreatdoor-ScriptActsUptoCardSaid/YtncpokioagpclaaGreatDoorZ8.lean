/- Texts of this seat, one behind the other: ScB, ScC, ScW. -/
import Derived.Test.YtncpokioagpclaaGreatDoorZ7
import Derived.Test.YtncpokioagpclaaGreatDoorZ6
import Derived.Test.YtncpokioagpclaaGreatDoorZ2
import Derived.Handy
namespace Go.Proofs.YtncpokioagpclaaGreatDoor
set_option linter.unusedVariables false
set_option linter.unusedSimpArgs false
set_option linter.unnecessarySimpa false
open Go.RowKit
theorem slice8_mid (A : Option Addr) (L c a H : Nat) (h1 : a ≤ H) (h : H ≤ L) (hc : L ≤ c) (hm : c ≤ 2 ^ 63 - 1) (lo hi : Int) (hlo : lo = (a : Int)) (hhi : hi = (H : Int)) : ∃ ad, (∀ W : World, (Instr.sliceAt 22 (.slice A L c) (some (.int .i64 lo)) (some (.int .i64 hi)) none).run Tryz.prog W = .ok (.slice ad (H - a) (c - a)) W) ∧ ad = (if c = a then A else A.map (·.add a)) := by
  subst hlo hhi
  have e1 : (0 : Int) ≤ a := by omega
  have e2 : (0 : Int) ≤ (H : Int) := by omega
  have e3 : (a : Int) ≤ (H : Int) := by omega
  have e4 : (H : Int) ≤ L := by omega
  have e5 : (H : Int) ≤ c := by omega
  have e6 : (L : Int) ≤ c := by omega
  refine ⟨_, fun W => ?_, rfl⟩
  by_cases h : c = a
  · have e7 : H = a := by omega
    subst e7
    cases A <;> go_simp
  · cases A <;> go_simp
theorem rdx_ofT {X : Nat → Prop} {w : World} {B : Nat} {A : Option Addr} {xs : List Value} (h : Rd w B A xs) (hB : B ≤ w.heap.size) (hX : ∀ b, b < B → X b) : Rdx X w A xs := by
  rcases h with h | ⟨b, off, h1, h2, h3⟩
  · exact .inl h
  · exact .inr ⟨b, off, h1, by omega, hX b h2, h3⟩
theorem u8_mid {X : Nat → Prop} {w : World} {A : Option Addr} {c : Nat} {zs : List Int} (h : Rdx X w A (zs.map (Value.int .u8))) (a m : Nat) (hc : zs.length ≤ c) (hcm : c ≤ maxLen) (hm : a + m ≤ zs.length) : U8 X w (.slice (if c = a then A else A.map (·.add a)) m (c - a)) ((zs.drop a).take m) := by
  have hl : ((zs.drop a).take m).length = m := by rw [List.length_take, List.length_drop]; omega
  refine ⟨_, _, by rw [hl], by omega, by omega, ?_⟩
  by_cases h0 : m = 0
  · subst h0; simp only [List.take_zero, List.map_nil]; exact .inl rfl
  rw [if_neg (by omega)]
  rcases h with h | ⟨b, off, h1, h2, h3, h4⟩
  · rw [List.map_eq_nil_iff] at h; rw [h] at hm; simp at hm; omega
  · refine .inr ⟨b, off + a, by rw [h1]; simp [Go.WideShapes.add_plain], h2, h3, fun j hj => ?_⟩
    rw [List.length_map, hl] at hj
    rw [Nat.add_assoc, h4 (a + j) (by rw [List.length_map]; omega), List.map_take, List.map_drop, List.getElem?_take_of_lt hj, List.getElem?_drop]
set_option maxRecDepth 100000 in
set_option maxHeartbeats 6400000 in
theorem lacts_any (n : Nat) (A : Option Addr) (c : Nat) (us : List Int) (B : Nat) (az : List Ac) (w : World) (hn : us.length = n) (hr : Rd w B A (us.map (Value.int .u8))) (hB : B ≤ w.heap.size) (hc : n ≤ c) (hcm : c ≤ maxLen) (hn9 : n ≤ 1048576) (hb : ∀ u ∈ us, 0 ≤ u ∧ u ≤ 255) (ha : actsL us = az) :
    Calls Tryz.prog 41 #[.slice A n c] w fun e w' => ∃ v, e = .returned v ∧ OwnAc w.heap.size w' v az ∧ Below w.heap.size w w' := by
  have HN := Lib.hid hn
  have HR := Lib.hid (show Rd w w.heap.size A (us.map (Value.int .u8)) from hr.below (Below.refl B w) hB)
  have HB := Lib.hid hb
  have HA := Lib.hid ha
  have HC := Lib.hid (show n ≤ c ∧ c ≤ maxLen from ⟨hc, hcm⟩)
  clear hn hr hB hb ha hc hcm
  go_enter Tryz.func41, Tryz.ntmps41
  go_wp2_with fail
  go_loopw [3, 4] (fun v k wr => ∃ (K : Nat) (done : List Ac), K ≤ n ∧ k = .int .i64 K ∧ Hid (OwnAc w.heap.size wr v done) ∧ Hid (done ++ actsL (us.drop K) = az) ∧ Hid (done.length ≤ K) ∧ Hid (Below w.heap.size w wr)) (fun _ k _ => n - (intOf k).toNat)
  case atStart => exact ⟨0, [], by omega, rfl, Lib.hid (OwnAc.nil _ _), Lib.hid (by simpa using HA.out), Lib.hid (by simp), Lib.hid (Below.refl _ _)⟩
  case round =>
    obtain ⟨K, done, hK, rfl, ho, hd, hdl, hbr⟩ := hrel
    obtain ⟨wa, rfl⟩ : ∃ wa : World, wa = wr := ⟨_, rfl⟩
    by_cases hKn : K = n
    · have hK' : ¬ K < n := by omega
      have HE := Lib.hid (show done = az by
        have h1 := hd.out
        rw [List.drop_of_length_le (by rw [HN.out]; omega), actsL_nil, List.append_nil] at h1
        exact h1)
      clear hKn
      go_wp2_with fail
      go_ret
      exact ⟨_, rfl, by rw [← HE.out]; exact ho.out, hbr.out⟩
    have hK' : K < n := by omega
    have hK1 : K < us.length := by rw [HN.out]; exact hK'
    have k3 : (0 : Int) ≤ K := by omega
    have k4 : (K : Int) < n := by omega
    obtain ⟨b3, o3, rfl, hb3, hc3⟩ := rd_ints (HR.out.below hbr.out (Nat.le_refl _)) (by omega)
    have hx := hc3 K hK1
    have hdr : us.drop K = us.getD K 0 :: us.drop (K + 1) := by rw [List.drop_eq_getElem_cons hK1, List.getD_eq_getElem?_getD, List.getElem?_eq_getElem hK1]; rfl
    have hz := getD_range HB.out K hK1
    obtain ⟨z, hze⟩ : ∃ z, us.getD K 0 = z := ⟨_, rfl⟩
    rw [hze] at hx hdr hz
    have HDR := Lib.hid hdr
    have hw64 : IntKind.i64.wrap z = z := by rw [IntKind.wrap_i64]; omega
    obtain ⟨A3, c3, rfl, -, -⟩ := ho.out.form
    have hbs := hbr.out.size
    have HOL := Lib.hid (show ∀ b, (Value.slice A3 done.length c3).ownBlock = some b → w.heap.size ≤ b from fun b e => by obtain ⟨xs, h1, _⟩ := ho.out; exact (h1.lt b e).1)
    have HRX := Lib.hid (rdx_ofT (X := fun b => (Value.slice A3 done.length c3).ownBlock ≠ some b) (HR.out.below hbr.out (Nat.le_refl _)) hbs (fun b hb e => by have := HOL.out b e; omega))
    by_cases hf : z % 8 > 5
    · have dz : decide (z % 8 > 5) = true := by simpa using hf
      have hw8 : IntKind.i64.wrap (1 + (z % 8 - 6)) = z % 8 - 5 := by rw [IntKind.wrap_i64]; omega
      have HD1 := Lib.hid (show (done ++ [⟨z % 8 - 5, 12 + z / 8, []⟩]) ++ actsL (us.drop (K + 1)) = az by rw [← hd.out, HDR.out, actsL_far hf]; simp)
      have HU : Hid (U8 (fun b => (Value.slice A3 done.length c3).ownBlock ≠ some b) wa (.slice none 0 0) []) := Lib.hid ⟨none, 0, rfl, Nat.le_refl _, by simp [maxLen], .inl rfl⟩
      clear hd hze hc3 hKn hK1 hdr
      obtain ⟨W1, hW1⟩ : ∃ W, wa.alloc (.cells #[.int .i64 (z % 8 - 5), .int .i64 (12 + z / 8), .slice none 0 0] 81) = W := ⟨_, rfl⟩
      have hba := below_allocT wa (.cells #[.int .i64 (z % 8 - 5), .int .i64 (12 + z / 8), .slice none 0 0] 81)
      have hq := Held.new wa #[.int .i64 (z % 8 - 5), .int .i64 (12 + z / 8), .slice none 0 0] 81
      rw [hW1] at hba hq
      have y0 := hq.cell 0
      have y1 := hq.cell 1
      have y2 := hq.cell 2
      have HO1 := Lib.hid (ho.out.below hba)
      have HU1 := Lib.hid (show U8 (fun b => (Value.slice A3 done.length c3).ownBlock ≠ some b) W1 (.slice none 0 0) ([]) from HU.out.step hba.size fun b hl hx => ⟨hx, hba.block b hl⟩)
      have HB1 := Lib.hid (hbr.out.trans (hba.mono hbr.out.size))
      have HS1 := Lib.hid (show w.heap.size ≤ W1.heap.size from Nat.le_trans hbr.out.size hba.size)
      have HW1 := Lib.hid hW1
      clear hba hq hW1
      go_upto_region 13 with fail
      rw [HW1.out]
      go_wp2_with (at_builtin; refine wpList_appAc rfl _ _ rfl w.heap.size (.slice A3 done.length c3) done (z % 8 - 5) (12 + z / 8) (.slice none 0 0) ([]) rfl HO1.out HU1.out _ rfl rfl (by have := hdl.out; omega) (by have := HS1.out; omega) ?_)
      intro v4 w4 hO4 hG4 hV4
      have HB4 := Lib.hid (below_rowT HB1.out hG4.out (fun b e => (HOL.out b e)) HS1.out)
      clear hG4 hV4
      go_wp2_with fail
      go_roundw
      case rel => exact ⟨K + 1, done ++ [⟨z % 8 - 5, 12 + z / 8, []⟩], by omega, by go_num, hO4, HD1, Lib.hid (by have := hdl.out; simp; omega), HB4⟩
      case measure => simp [intOf]; omega
    · have dz : decide (z % 8 > 5) = false := by simpa using hf
      by_cases hl : K + 1 = n
      · have dl : ¬ (K : Int) + 1 < n := by omega
        have HD1 := Lib.hid (show (done ++ [⟨0, 12 + z / 8, []⟩]) ++ actsL (us.drop (K + 1)) = az by
          rw [← hd.out, HDR.out, List.drop_of_length_le (show us.length ≤ K + 1 by rw [HN.out]; omega), actsL_one hf, actsL_nil]; simp)
        have HU : Hid (U8 (fun b => (Value.slice A3 done.length c3).ownBlock ≠ some b) wa (.slice none 0 0) []) := Lib.hid ⟨none, 0, rfl, Nat.le_refl _, by simp [maxLen], .inl rfl⟩
        clear hd hze hc3 hKn hK1 hdr hl
        obtain ⟨W1, hW1⟩ : ∃ W, wa.alloc (.cells #[.int .i64 (0), .int .i64 (12 + z / 8), .slice none 0 0] 81) = W := ⟨_, rfl⟩
        have hba := below_allocT wa (.cells #[.int .i64 (0), .int .i64 (12 + z / 8), .slice none 0 0] 81)
        have hq := Held.new wa #[.int .i64 (0), .int .i64 (12 + z / 8), .slice none 0 0] 81
        rw [hW1] at hba hq
        have y0 := hq.cell 0
        have y1 := hq.cell 1
        have y2 := hq.cell 2
        have HO1 := Lib.hid (ho.out.below hba)
        have HU1 := Lib.hid (show U8 (fun b => (Value.slice A3 done.length c3).ownBlock ≠ some b) W1 (.slice none 0 0) ([]) from HU.out.step hba.size fun b hl hx => ⟨hx, hba.block b hl⟩)
        have HB1 := Lib.hid (hbr.out.trans (hba.mono hbr.out.size))
        have HS1 := Lib.hid (show w.heap.size ≤ W1.heap.size from Nat.le_trans hbr.out.size hba.size)
        have HW1 := Lib.hid hW1
        clear hba hq hW1
        go_upto_region 13 with fail
        rw [HW1.out]
        go_wp2_with (at_builtin; refine wpList_appAc rfl _ _ rfl w.heap.size (.slice A3 done.length c3) done (0) (12 + z / 8) (.slice none 0 0) ([]) rfl HO1.out HU1.out _ rfl rfl (by have := hdl.out; omega) (by have := HS1.out; omega) ?_)
        intro v4 w4 hO4 hG4 hV4
        have HB4 := Lib.hid (below_rowT HB1.out hG4.out (fun b e => (HOL.out b e)) HS1.out)
        clear hG4 hV4
        go_wp2_with fail
        go_roundw
        case rel => exact ⟨K + 1, done ++ [⟨0, 12 + z / 8, []⟩], by omega, by go_num, hO4, HD1, Lib.hid (by have := hdl.out; simp; omega), HB4⟩
        case measure => simp [intOf]; omega
      · have hK2 : K + 1 < us.length := by rw [HN.out]; omega
        have dl : (K : Int) + 1 < n := by omega
        have hx2 := hc3 (K + 1) hK2
        have hdr2 : us.drop (K + 1) = us.getD (K + 1) 0 :: us.drop (K + 2) := by rw [List.drop_eq_getElem_cons hK2, List.getD_eq_getElem?_getD, List.getElem?_eq_getElem hK2]; rfl
        have hz2 := getD_range HB.out (K + 1) hK2
        obtain ⟨y, hye⟩ : ∃ y, us.getD (K + 1) 0 = y := ⟨_, rfl⟩
        rw [hye] at hx2 hdr2 hz2
        have hx3 := (cell_block ((below_allocT wa (.cells #[.int .i64 0, .int .i64 (12 + z / 8), .slice none 0 0] 81)).block b3 (by omega)) (o3 + (K + 1))).trans hx2
        obtain ⟨mm, hmm⟩ : ∃ mm, textN y (us.drop (K + 2)) = mm := ⟨_, rfl⟩
        have hmv : (mm : Int) = min (y % 32) ((n : Int) - (K + 1) - 1) := by
          rw [← hmm]; unfold textN; rw [List.length_drop, HN.out]; omega
        have hmin1 : min (y % 32) ((n : Int) - (K + 1) - 1) = mm := hmv.symm
        have hmin2 : (if (n : Int) - (K + 1) - 1 < y % 32 then (n : Int) - (K + 1) - 1 else y % 32) = mm := by rw [hmv]; split <;> omega
        have hmn : K + 2 + mm ≤ n := by omega
        have HD1 := Lib.hid (show (done ++ [⟨0, 12 + z / 8, (us.drop (K + 2)).take mm⟩]) ++ actsL (us.drop (K + 2 + mm)) = az by
          rw [← hd.out, HDR.out, hdr2, actsL_text hf, hmm, List.drop_drop]; simp)
        obtain ⟨ad, hsl, had⟩ := slice8_mid (some ⟨b3, o3, none⟩) n c (K + 2) (K + 2 + mm) (by omega) hmn HC.out.1 (by have := HC.out.2; unfold maxLen at this; omega) ((K : Int) + 1 + 1) ((K : Int) + 1 + 1 + mm) (by omega) (by omega)
        rw [show K + 2 + mm - (K + 2) = mm by omega] at hsl
        have hu := u8_mid HRX.out (K + 2) mm (by rw [HN.out]; exact HC.out.1) HC.out.2 (by rw [HN.out]; omega)
        rw [← had] at hu
        have HU := Lib.hid hu
        obtain ⟨cc, hcc⟩ : ∃ cc, c - (K + 2) = cc := ⟨_, rfl⟩
        rw [hcc] at hsl HU
        have hw32 : IntKind.i64.wrap (y % 32) = y % 32 := by rw [IntKind.wrap_i64]; omega
        have m3 : (0 : Int) ≤ (mm : Int) := by omega
        clear hd hze hc3 hKn hK1 hdr hl hK2 hdr2 hye hmm hmv had hu hcc
        obtain ⟨W1, hW1⟩ : ∃ W, wa.alloc (.cells #[.int .i64 (0), .int .i64 (12 + z / 8), .slice ad mm cc] 81) = W := ⟨_, rfl⟩
        have hba := below_allocT wa (.cells #[.int .i64 (0), .int .i64 (12 + z / 8), .slice ad mm cc] 81)
        have hq := Held.new wa #[.int .i64 (0), .int .i64 (12 + z / 8), .slice ad mm cc] 81
        rw [hW1] at hba hq
        have y0 := hq.cell 0
        have y1 := hq.cell 1
        have y2 := hq.cell 2
        have HO1 := Lib.hid (ho.out.below hba)
        have HU1 := Lib.hid (show U8 (fun b => (Value.slice A3 done.length c3).ownBlock ≠ some b) W1 (.slice ad mm cc) ((us.drop (K + 2)).take mm) from HU.out.step hba.size fun b hl hx => ⟨hx, hba.block b hl⟩)
        have HB1 := Lib.hid (hbr.out.trans (hba.mono hbr.out.size))
        have HS1 := Lib.hid (show w.heap.size ≤ W1.heap.size from Nat.le_trans hbr.out.size hba.size)
        have HW1 := Lib.hid hW1
        clear hba hq hW1
        go_upto_region 13 with fail
        rw [HW1.out]
        go_wp2_with (at_builtin; refine wpList_appAc rfl _ _ rfl w.heap.size (.slice A3 done.length c3) done (0) (12 + z / 8) (.slice ad mm cc) ((us.drop (K + 2)).take mm) rfl HO1.out HU1.out _ rfl rfl (by have := hdl.out; omega) (by have := HS1.out; omega) ?_)
        intro v4 w4 hO4 hG4 hV4
        have HB4 := Lib.hid (below_rowT HB1.out hG4.out (fun b e => (HOL.out b e)) HS1.out)
        clear hG4 hV4
        go_wp2_with fail
        go_roundw
        case rel => exact ⟨K + 2 + mm, done ++ [⟨0, 12 + z / 8, (us.drop (K + 2)).take mm⟩], by omega, by go_num, hO4, HD1, Lib.hid (by have := hdl.out; simp; omega), HB4⟩
        case measure => simp [intOf]; omega
end Go.Proofs.YtncpokioagpclaaGreatDoor
namespace Go.Proofs.YtncpokioagpclaaGreatDoor
set_option linter.unusedVariables false
set_option linter.unusedSimpArgs false
set_option linter.unnecessarySimpa false
open Go.RowKit
set_option maxRecDepth 100000 in
set_option maxHeartbeats 6400000 in
theorem lsame_any (az : List Ac) (n : Nat) (A1 : Option Addr) (c1 : Nat) (A2 : Option Addr) (c2 : Nat) (B1 B2 : Nat) (w : World) (hn : az.length = n) (hn9 : n ≤ 2000000) (h1 : OwnAc B1 w (.slice A1 n c1) az) (h2 : OwnAc B2 w (.slice A2 n c2) az) (hk : ∀ a ∈ az, a.text.length ≤ 31) :
    Calls Tryz.prog 39 #[.slice A1 n c1, .slice A2 n c2] w fun e w' => e = .returned (.bool true) ∧ Below w.heap.size w w' := by
  have HN := Lib.hid hn
  have H1 := Lib.hid h1
  have H2 := Lib.hid h2
  have HK := Lib.hid hk
  clear hn h1 h2 hk
  go_enter Tryz.func39, Tryz.ntmps39
  go_wp2_with fail
  go_loopw [13] (fun i wr => ∃ K : Nat, K ≤ n ∧ i = .int .i64 K ∧ Hid (Below w.heap.size w wr)) (fun i _ => n - (intOf i).toNat)
  case atStart => exact ⟨0, by omega, rfl, Lib.hid (Below.refl _ _)⟩
  case round =>
    obtain ⟨K, hK, rfl, hbr⟩ := hrel
    obtain ⟨wa, rfl⟩ : ∃ wa : World, wa = wr := ⟨_, rfl⟩
    by_cases hKn : K = n
    · have hK' : ¬ K < n := by omega
      clear hKn
      go_wp2_with fail
      go_ret
      exact ⟨rfl, hbr.out⟩
    have hK' : K < n := by omega
    have hK1 : K < az.length := by rw [HN.out]; exact hK'
    have k3 : (0 : Int) ≤ K := by omega
    have k4 : (K : Int) < n := by omega
    obtain ⟨g, t, rfl, q0, q1, q2, hu⟩ := (H1.out.below hbr.out).cells HN.out hK'
    obtain ⟨g', t', rfl, r0, r1, r2, hu'⟩ := (H2.out.below hbr.out).cells HN.out hK'
    have hlen := HK.out _ (List.getElem_mem hK1)
    obtain ⟨a, haa⟩ : ∃ a, az[K] = a := ⟨_, rfl⟩
    rw [haa] at q0 q1 hu r0 r1 hu' hlen
    obtain ⟨kd, rm, tx⟩ := a
    simp only at q0 q1 hu r0 r1 hu' hlen
    obtain ⟨A3, c3, rfl, -, -, hr3⟩ := hu
    obtain ⟨A4, c4, rfl, -, -, hr4⟩ := hu'
    have hcv3 : ∀ k, _ := fun k => run_str (P := Tryz.prog) (wa.drewN k) 22 9 5 Tryz.underlying22 Tryz.underlying5 Tryz.underlying9 _ A3 tx tx.length c3 rfl ((hr3.step (w' := wa.drewN k) (Nat.le_refl _) fun b hl hx => ⟨hx, rfl⟩).rd (Nat.le_refl _))
    have hcv4 : ∀ k, _ := fun k => run_str (P := Tryz.prog) (wa.drewN k) 22 9 5 Tryz.underlying22 Tryz.underlying5 Tryz.underlying9 _ A4 tx tx.length c4 rfl ((hr4.step (w' := wa.drewN k) (Nat.le_refl _) fun b hl hx => ⟨hx, rfl⟩).rd (Nat.le_refl _))
    obtain ⟨s3, hs3⟩ : ∃ s, strOfNums tx = s := ⟨_, rfl⟩
    rw [hs3] at hcv3 hcv4
    obtain ⟨m3, hm3⟩ : ∃ m, tx.length = m := ⟨_, rfl⟩
    rw [hm3] at hcv3 hcv4 q2 r2
    have d0 : (kd != kd) = false := by simp
    have d1 : (rm != rm) = false := by simp
    have d2 : (s3.toList == s3.toList) = true := by simp
    have d3 : (s3.toList != s3.toList) = false := by simp
    have HBB := Lib.hid hbr.out
    clear hbr hKn hK1 haa hr3 hr4 hs3 hm3 hlen
    go_upto_region 6 with fail
    go_quiet (fail)
    go_wp2_with fail
    go_roundw
    case rel => exact ⟨K + 1, by omega, by go_num, Lib.hid (HBB.out.trans ⟨rfl, rfl, rfl, Nat.le_refl _, fun _ _ => rfl⟩)⟩
    case measure => simp [intOf]; omega
end Go.Proofs.YtncpokioagpclaaGreatDoor
namespace Go.Proofs.YtncpokioagpclaaGreatDoor
set_option linter.unusedVariables false
set_option linter.unusedSimpArgs false
set_option linter.unnecessarySimpa false
open Go.RowKit
theorem acts_ex : actsL [32, 3, 97, 98, 99, 6, 7] = [⟨0, 16, [97, 98, 99]⟩, ⟨1, 12, []⟩, ⟨2, 12, []⟩] := by
  rw [actsL_text (by decide)]
  show _ :: actsL [6, 7] = _
  rw [actsL_far (by decide), actsL_far (by decide), actsL_nil]
  rfl
set_option maxRecDepth 100000 in
set_option maxHeartbeats 3200000 in
theorem awake22_any (I : ScrApi) (w : World) (hI : I.OK w) : Calls Tryz.prog 38 #[] w fun e w' => e = .returned (.bool true) ∧ Below w.heap.size w w' := by
  have HI := Lib.hid hI
  have C1 := Lib.hid (I.pair w 72 0 1 1 (by decide) (by decide) (by decide) (by decide) (by decide) hI)
  have HNM0 := Lib.hid I.nm0
  have HNM1 := Lib.hid I.nm1
  clear hI
  go_enter Tryz.func38, Tryz.ntmps38
  go_wp2_with fail
  refine C1.out.mono ?_
  rintro e w1 ⟨rfl, hb1⟩
  rw [HNM0.out, HNM1.out]
  have hr2 := rd_new_ints w1 .u8 [32, 3, 97, 98, 99, 6, 7] 5 #[.int .u8 32, .int .u8 3, .int .u8 97, .int .u8 98, .int .u8 99, .int .u8 6, .int .u8 7] rfl
  have hb2 := below_allocT w1 (.cells #[.int .u8 32, .int .u8 3, .int .u8 97, .int .u8 98, .int .u8 99, .int .u8 6, .int .u8 7] 5)
  have HB1 := Lib.hid hb1
  have HB2 := Lib.hid (hb1.trans (hb2.mono hb1.size))
  have C2 := Lib.hid (I.acts (w1.alloc (.cells #[.int .u8 32, .int .u8 3, .int .u8 97, .int .u8 98, .int .u8 99, .int .u8 6, .int .u8 7] 5)) 7 (some ⟨w1.heap.size, 0, none⟩) 7 [32, 3, 97, 98, 99, 6, 7] _ _ (I.keep HI.out HB2.out) rfl hr2 (by simp) (by decide) (by simp [maxLen]) (by decide) (by decide) acts_ex)
  clear hr2 hb1 hb2 C1
  go_wp2_with fail
  refine C2.out.mono ?_
  rintro e w3 ⟨v3, rfl, ho3, hb3⟩
  obtain ⟨A3, c3, hv3, -⟩ := ho3.form
  subst hv3
  have HB3 := Lib.hid (HB2.out.trans (hb3.mono HB2.out.size))
  have HO3 := Lib.hid ho3
  have hr4 := rd_new_ints w3 .u8 [1, 32, 2, 97, 98, 6] 5 #[.int .u8 1, .int .u8 32, .int .u8 2, .int .u8 97, .int .u8 98, .int .u8 6] rfl
  have hb4 := below_allocT w3 (.cells #[.int .u8 1, .int .u8 32, .int .u8 2, .int .u8 97, .int .u8 98, .int .u8 6] 5)
  have HB4 := Lib.hid (HB3.out.trans (hb4.mono HB3.out.size))
  have HB34 := Lib.hid hb4
  have C3 := Lib.hid (I.awk (w3.alloc (.cells #[.int .u8 1, .int .u8 32, .int .u8 2, .int .u8 97, .int .u8 98, .int .u8 6] 5)) (some ⟨w3.heap.size, 0, none⟩) 6 _ (I.keep HI.out HB4.out) hr4 (by simp) (by decide) (by simp [maxLen]))
  clear ho3 hb3 hr4 hb4 C2
  go_wp2_with fail
  refine C3.out.mono ?_
  rintro e w5 ⟨Ao, no, co, At, ct, f0, f1, f2, rfl, hb5⟩
  have hb35 := HB34.out.trans (hb5.mono HB34.out.size)
  have ho5 := HO3.out.below hb35
  obtain ⟨g, t, e1, q0, q1, q2, hu⟩ := ho5.cells rfl (K := 0) (by decide)
  obtain ⟨g', t', e2, q3, q4, q5, hu'⟩ := ho5.cells rfl (K := 1) (by decide)
  subst e1
  obtain rfl : g = g' := by injection e2 with e2; injection e2
  obtain ⟨At3, ct3, rfl, -, -, hrt⟩ := hu
  have HB5 := Lib.hid (HB4.out.trans (hb5.mono HB4.out.size))
  have hglt : g < w5.heap.size := by obtain ⟨xs, h1, _⟩ := ho5; exact (h1.lt g rfl).2
  have hb6 := below_allocT w5 (.cells #[.slice Ao no co, .int .i64 2, .slice At 2 ct, .int .i64 f0, .int .i64 f1, .int .i64 f2] 146)
  have hn6 := Held.new w5 #[.slice Ao no co, .int .i64 2, .slice At 2 ct, .int .i64 f0, .int .i64 f1, .int .i64 f2] 146
  obtain ⟨W6, hW6⟩ : ∃ W, w5.alloc (.cells #[.slice Ao no co, .int .i64 2, .slice At 2 ct, .int .i64 f0, .int .i64 f1, .int .i64 f2] 146) = W := ⟨_, rfl⟩
  obtain ⟨N, hN⟩ : ∃ N, w5.heap.size = N := ⟨_, rfl⟩
  rw [hW6] at hb6 hn6
  rw [hN] at hn6
  have hcv := run_str (P := Tryz.prog) W6 22 9 5 Tryz.underlying22 Tryz.underlying5 Tryz.underlying9 _ At3 [97, 98, 99] 3 ct3 rfl ((hrt.step hb6.size fun b hl hx => ⟨hx, hb6.block b hl⟩).rd (Nat.le_refl _))
  have z0 : W6.cell? ⟨g, 1, none⟩ = some (.int .i64 16) := (cell_block (hb6.block g hglt) _).trans q1
  have z1 : W6.cell? ⟨g, 2, none⟩ = some (.slice At3 3 ct3) := (cell_block (hb6.block g hglt) _).trans q2
  have z2 : W6.cell? ⟨g, 3, none⟩ = some (.int .i64 1) := (cell_block (hb6.block g hglt) _).trans q3
  have y1 := hn6.cell 1
  have y2 := hn6.cell 2
  have HB6 := Lib.hid (HB5.out.trans (hb6.mono HB5.out.size))
  have es : ((strOfNums [97, 98, 99]).toList == [97, 98, 99]) = true := by decide +kernel
  obtain ⟨s1, hs1⟩ : ∃ s, strOfNums [97, 98, 99] = s := ⟨_, rfl⟩
  rw [hs1] at hcv es
  have HW6 := Lib.hid hW6
  have HN := Lib.hid hN
  clear hb35 ho5 q0 q1 q2 q3 q4 q5 hu' hrt hb5 hb6 hn6 hW6 hN hs1 e2 hglt C3
  go_upto_region 4 with fail
  rw [HW6.out, HN.out]
  go_wp2_with fail
  go_ret
  exact ⟨rfl, HB6.out⟩
end Go.Proofs.YtncpokioagpclaaGreatDoor
