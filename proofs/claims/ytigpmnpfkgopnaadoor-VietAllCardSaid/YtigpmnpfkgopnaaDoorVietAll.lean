/- VietAll: the walk. -/
import Derived.Test.YtigpmnpfkgopnaaDoorVietF2
namespace Go.Proofs.YtigpmnpfkgopnaaDoor
set_option linter.unusedVariables false
set_option linter.unusedSimpArgs false
set_option linter.unnecessarySimpa false
open Go.RowKit Go.Shelf
attribute [local go_sem] run_store_complex

set_option maxHeartbeats 6400000 in
theorem vietAll_any (n : Int) (w : World) (hn : 0 ≤ n ∧ n ≤ 255) (hR : RowsV w) :
    Calls Tryd.prog 3 #[.int .u8 n] w fun e w' => e = .returned (.bool true) ∧ Below w.heap.size w w' := by
  have A0 := Lib.hid (tawake9_any w hR)
  have HR := Lib.hid hR
  obtain ⟨n0, n1⟩ := hn
  clear hR
  go_enter Tryd.func3, Tryd.ntmps3
  go_wp2_with fail
  refine A0.out.mono ?_
  rintro e w1 ⟨rfl, hb1⟩
  have HR1 := Lib.hid (HR.out.below hb1)
  have hs1 := hb1.size
  have HB1 := Lib.hid hb1
  clear hb1 A0 HR
  go_wp2_with fail
  refine (two_any w1 HR1.out).mono ?_
  rintro e w2 ⟨g, c, h, d, rfl, ht, hb2, hc1, hc2, hd1, hd2⟩
  have HT := Lib.hid ht
  have HB2 := Lib.hid (HB1.out.trans (hb2.mono hs1))
  have hs2 : w.heap.size ≤ w2.heap.size := HB2.out.size
  clear hb2 ht HR1 HB1 hs1
  clear w1
  by_cases hN : n < 148
  · obtain ⟨N, rfl⟩ : ∃ N : Nat, n = N := ⟨n.toNat, by omega⟩
    have hN' : N < 148 := by omega
    have HLT := Lib.hid (fun (W : World) => letR_at N hN' ▸ letter_any (N : Int) W)
    have hls := letter_small N hN'
    have hv : letV N = #[.int .i64 (LB N), .complex .f64 (fl (LM N)) (fl (LT N))] := rfl
    have hr0 := feq_fl_self (LM N) (by omega)
    have hi0 := feq_fl_self (LT N) (by omega)
    have t0 := HT.out.lb N hN'
    have t1 := HT.out.lz N hN'
    have t2 := HT.out.ls N hN'
    obtain ⟨b, hb⟩ : ∃ v, LB N = v := ⟨_, rfl⟩
    obtain ⟨r, hr⟩ : ∃ v, fl (LM N) = v := ⟨_, rfl⟩
    obtain ⟨i, hi⟩ : ∃ v, fl (LT N) = v := ⟨_, rfl⟩
    obtain ⟨s, hs⟩ : ∃ v, LS N = v := ⟨_, rfl⟩
    rw [hb, hr, hi] at hv
    rw [hr] at hr0
    rw [hi] at hi0
    rw [hv, hs] at HLT
    rw [hb] at t0
    rw [hr, hi] at t1
    rw [hs] at t2
    have heq := fun W => eq_letters b b r i r i W
    rw [hr0, hi0] at heq
    simp only [Bool.and_self, Bool.and_true, beq_self_eq_true] at heq
    have hlg := HT.out.lg
    have hlh := HT.out.lh
    clear hls hv hb hr hi hs hr0 hi0
    go_wp2_with fail
    refine (HLT.out w2).mono ?_
    rintro e w3 ⟨rfl, hb3⟩
    have c0 := (hb3.cell (p := ⟨g, N * 2, none⟩) hlg).trans t0
    have c1 := (hb3.cell (p := ⟨g, N * 2 + 1, none⟩) hlg).trans t1
    have c2 := (hb3.cell (p := ⟨h, N, none⟩) hlh).trans t2
    have HB3 := Lib.hid (HB2.out.trans (hb3.mono hs2))
    have hs3 := HB3.out.size
    have hg3 : g < w3.heap.size := Nat.lt_of_lt_of_le hlg hb3.size
    have hh3 : h < w3.heap.size := Nat.lt_of_lt_of_le hlh hb3.size
    clear t0 t1 t2 hb3 HT HB2 hs2 hlg hlh HLT
    go_wp2_with fail
    have p0 : (w3.alloc (.cells #[.int .i64 b, .complex .f64 r i] 29)).cell? ⟨g, N * 2, none⟩ = some (.int .i64 b) := (((Below.refl _ w3).alloc (Nat.le_refl _) _).cell (p := ⟨g, N * 2, none⟩) hg3).trans c0
    have p1 : (w3.alloc (.cells #[.int .i64 b, .complex .f64 r i] 29)).cell? ⟨g, N * 2 + 1, none⟩ = some (.complex .f64 r i) := (((Below.refl _ w3).alloc (Nat.le_refl _) _).cell (p := ⟨g, N * 2 + 1, none⟩) hg3).trans c1
    have p2 : (w3.alloc (.cells #[.int .i64 b, .complex .f64 r i] 29)).cell? ⟨h, N, none⟩ = some (.int .i64 s) := (((Below.refl _ w3).alloc (Nat.le_refl _) _).cell (p := ⟨h, N, none⟩) hh3).trans c2
    have p3 := Held.new w3 #[.int .i64 b, .complex .f64 r i] 29
    have p4 := p3.cell 0
    have p5 := p3.cell 1
    have hb4 := HB3.out.alloc hs3 (.cells #[.int .i64 b, .complex .f64 r i] 29)
    obtain ⟨W4, hW4⟩ : ∃ W4, w3.alloc (.cells #[.int .i64 b, .complex .f64 r i] 29) = W4 := ⟨_, rfl⟩
    obtain ⟨q, hq⟩ : ∃ q, w3.heap.size = q := ⟨_, rfl⟩
    rw [hW4] at p0 p1 p2 p4 p5 hb4 ⊢
    rw [hq] at p4 p5 ⊢
    have HB4 := Lib.hid hb4
    have hNc : (N : Int) < 148 := by omega
    have hN0 : (0 : Int) ≤ N := by omega
    have hss : (s == s) = true := by simp
    clear hW4 hq p3 hb4 c0 c1 c2 hs3 HB3 hg3 hh3
    go_quiet (fail)
    go_wp2
    go_ret
    exact ⟨rfl, below_drewN9 HB4.out nq⟩
  · have HLT := Lib.hid (fun (W : World) => letR_out n (by omega) ▸ letter_any n W)
    clear hN
    go_wp2_with fail
    refine (HLT.out w2).mono ?_
    rintro e w3 ⟨rfl, hb3⟩
    have HB3 := Lib.hid (HB2.out.trans (hb3.mono hs2))
    have hs3 := HB3.out.size
    unfold noV
    clear hb3 HT HB2 hs2 HLT
    go_wp2_with fail
    have hb4 := HB3.out.alloc hs3 (.cells #[.int .i64 0, .complex .f64 0 0] 29)
    obtain ⟨W4, hW4⟩ : ∃ W4, w3.alloc (.cells #[.int .i64 0, .complex .f64 0 0] 29) = W4 := ⟨_, rfl⟩
    rw [hW4] at hb4 ⊢
    have HB4 := Lib.hid hb4
    clear hW4 hb4 HB3 hs3
    go_quiet (fail)
    go_wp2
    go_ret
    exact ⟨rfl, below_drewN9 HB4.out nq⟩
end Go.Proofs.YtigpmnpfkgopnaaDoor
