/- VietUpper: the walk. -/
import Derived.Test.YtigpmnpfkgopnaaDoorVietF2
namespace Go.Proofs.YtigpmnpfkgopnaaDoor
set_option linter.unusedVariables false
set_option linter.unusedSimpArgs false
set_option linter.unnecessarySimpa false
open Go.RowKit Go.Shelf
attribute [local go_sem] run_store_complex

set_option maxHeartbeats 6400000 in
theorem vietUpper_any (n : Int) (w : World) (hn : 0 ≤ n ∧ n ≤ 255) (hR : RowsV w) :
    Calls Tryd.prog 9 #[.int .u8 n] w fun e w' => e = .returned (.bool true) ∧ Below w.heap.size w w' := by
  have A0 := Lib.hid (tawake9_any w hR)
  have HR := Lib.hid hR
  obtain ⟨N, hN⟩ : ∃ N : Nat, n % 74 = (N : Int) := ⟨(n % 74).toNat, by omega⟩
  have hN' : N < 74 := by omega
  have hg := letter_great N hN'
  have hls := letter_small N (by omega)
  have hwr : IntKind.u8.wrap (74 + (N : Int)) = ((74 + N : Nat) : Int) := by rw [IntKind.wrap_u8]; omega
  have h256 : (74 + (N : Int)) % 256 = ((74 + N : Nat) : Int) := by omega
  clear hR
  go_enter Tryd.func9, Tryd.ntmps9
  go_wp2_with fail
  refine A0.out.mono ?_
  rintro e w1 ⟨rfl, hb1⟩
  have HR1 := Lib.hid (HR.out.below hb1)
  have hs1 := hb1.size
  have HB1 := Lib.hid hb1
  clear hb1 A0 HR
  go_wp2_with fail
  refine (two_any w1 HR1.out).mono ?_
  rintro e w2 ⟨g, c, h, d, rfl, ht, hb2, hc1, hc2, hd1, hd2⟩
  have HB2 := Lib.hid (HB1.out.trans (hb2.mono hs1))
  have hs2 : w.heap.size ≤ w2.heap.size := HB2.out.size
  have t0 := ht.lb N (by omega)
  have t1 := ht.lz N (by omega)
  have t2 := ht.ls N (by omega)
  have v0 := ht.lb (74 + N) (by omega)
  have v1 := ht.lz (74 + N) (by omega)
  have v2 := ht.ls (74 + N) (by omega)
  have hlg := ht.lg
  have hlh := ht.lh
  rw [show 74 + N = N + 74 by omega, hg.1] at v0
  rw [show 74 + N = N + 74 by omega, hg.2.1, hg.2.2.1] at v1
  rw [show 74 + N = N + 74 by omega, hg.2.2.2] at v2
  rw [show N + 74 = 74 + N by omega] at v0 v1 v2
  have hr0 := feq_fl_self (LM N) (by omega)
  have hi0 := feq_fl_self (LT N) (by omega)
  obtain ⟨b, hb⟩ : ∃ v, LB N = v := ⟨_, rfl⟩
  obtain ⟨r, hr⟩ : ∃ v, fl (LM N) = v := ⟨_, rfl⟩
  obtain ⟨i, hi⟩ : ∃ v, fl (LT N) = v := ⟨_, rfl⟩
  obtain ⟨s, hs⟩ : ∃ v, LS N = v := ⟨_, rfl⟩
  rw [hr] at hr0
  rw [hi] at hi0
  rw [hb] at t0 v0 hls
  rw [hr, hi] at t1 v1
  rw [hs] at t2 v2 hls
  have UB := fun W => upper_any b W (by omega) (by omega)
  have US := fun W => upper_any s W (by omega) (by omega)
  obtain ⟨ub, hub⟩ : ∃ v, upI b = v := ⟨_, rfl⟩
  obtain ⟨us, hus⟩ : ∃ v, upI s = v := ⟨_, rfl⟩
  rw [hub] at UB v0
  rw [hus] at US v2
  have e1 := ord_eq r r
  have e2 := ord_eq i i
  rw [hr0] at e1
  rw [hi0] at e2
  have UB := Lib.hid UB
  have US := Lib.hid US
  obtain ⟨M, hM⟩ : ∃ M, 74 + N = M := ⟨_, rfl⟩
  rw [hM] at hwr h256 v0 v1 v2
  have hM' : M < 148 := by omega
  have hNc : (N : Int) < 148 := by omega
  have hN0 : (0 : Int) ≤ N := by omega
  have hMc : (M : Int) < 148 := by omega
  have hM0 : (0 : Int) ≤ M := by omega
  clear hls hb hr hi hs hr0 hi0 hub hus hg hM ht hb2 HR1 HB1 hs1
  clear w1
  go_wp2_with fail
  go_region
  · have q0 := (Held.new w2 #[.int .i64 b, .complex .f64 r i] 29).alloc (.cells #[.int .i64 ub, .complex .f64 r i] 29)
    have q1 := Held.new (w2.alloc (.cells #[.int .i64 b, .complex .f64 r i] 29)) #[.int .i64 ub, .complex .f64 r i] 29
    rw [World.size_alloc] at q1
    have hb3 : Below w2.heap.size w2 ((w2.alloc (.cells #[.int .i64 b, .complex .f64 r i] 29)).alloc (.cells #[.int .i64 ub, .complex .f64 r i] 29)) := ((Below.refl _ w2).alloc (Nat.le_refl _) _).alloc (by simp) _
    replace hb3 := hb3.drew
    replace q0 : Held (World.drew ((w2.alloc (.cells #[.int .i64 b, .complex .f64 r i] 29)).alloc (.cells #[.int .i64 ub, .complex .f64 r i] 29))) w2.heap.size _ _ := q0
    replace q1 : Held (World.drew ((w2.alloc (.cells #[.int .i64 b, .complex .f64 r i] 29)).alloc (.cells #[.int .i64 ub, .complex .f64 r i] 29))) (w2.heap.size + 1) _ _ := q1
    obtain ⟨W3, hW3⟩ : ∃ W3, World.drew ((w2.alloc (.cells #[.int .i64 b, .complex .f64 r i] 29)).alloc (.cells #[.int .i64 ub, .complex .f64 r i] 29)) = W3 := ⟨_, rfl⟩
    obtain ⟨p, hp⟩ : ∃ p, w2.heap.size = p := ⟨_, rfl⟩
    rw [hW3] at q0 q1 hb3 ⊢
    have c2 := (hb3.cell (p := ⟨h, N, none⟩) hlh).trans t2
    have d2 := (hb3.cell (p := ⟨h, M, none⟩) hlh).trans v2
    have HB3 := Lib.hid (HB2.out.trans (hb3.mono hs2))
    rw [hp] at q0 q1 ⊢
    have c0 := q0.cell 0
    have c1 := q0.cell 1
    have d0 := q1.cell 0
    have d1 := q1.cell 1
    have UBk := Lib.hid (fun k => UB.out (W3.drewN k))
    have USk := Lib.hid (fun k => US.out (W3.drewN k))
    have hub : (ub == ub) = true := by simp
    have hus : (us == us) = true := by simp
    clear hW3 hp q0 q1 hb3 t0 t1 t2 v0 v1 v2 hlg hlh HB2 hs2
    clear w2
    go_wp2_with fail
    go_quiet (first | (go_at_call 20; exact Calls.quiet_of_same (UBk.out _)) | (go_at_call 20; exact Calls.quiet_of_same (USk.out _)))
    go_wp2
    go_ret
    exact ⟨rfl, below_drewN9 HB3.out nq⟩
  · have q0 := (Held.new w2 #[.int .i64 ub, .complex .f64 r i] 29).alloc (.cells #[.int .i64 b, .complex .f64 r i] 29)
    have q1 := Held.new (w2.alloc (.cells #[.int .i64 ub, .complex .f64 r i] 29)) #[.int .i64 b, .complex .f64 r i] 29
    rw [World.size_alloc] at q1
    have hb3 : Below w2.heap.size w2 ((w2.alloc (.cells #[.int .i64 ub, .complex .f64 r i] 29)).alloc (.cells #[.int .i64 b, .complex .f64 r i] 29)) := ((Below.refl _ w2).alloc (Nat.le_refl _) _).alloc (by simp) _
    replace hb3 := hb3.drew
    replace q0 : Held (World.drew ((w2.alloc (.cells #[.int .i64 ub, .complex .f64 r i] 29)).alloc (.cells #[.int .i64 b, .complex .f64 r i] 29))) w2.heap.size _ _ := q0
    replace q1 : Held (World.drew ((w2.alloc (.cells #[.int .i64 ub, .complex .f64 r i] 29)).alloc (.cells #[.int .i64 b, .complex .f64 r i] 29))) (w2.heap.size + 1) _ _ := q1
    obtain ⟨W3, hW3⟩ : ∃ W3, World.drew ((w2.alloc (.cells #[.int .i64 ub, .complex .f64 r i] 29)).alloc (.cells #[.int .i64 b, .complex .f64 r i] 29)) = W3 := ⟨_, rfl⟩
    obtain ⟨p, hp⟩ : ∃ p, w2.heap.size = p := ⟨_, rfl⟩
    rw [hW3] at q0 q1 hb3 ⊢
    have c2 := (hb3.cell (p := ⟨h, N, none⟩) hlh).trans t2
    have d2 := (hb3.cell (p := ⟨h, M, none⟩) hlh).trans v2
    have HB3 := Lib.hid (HB2.out.trans (hb3.mono hs2))
    rw [hp] at q0 q1 ⊢
    have c0 := q0.cell 0
    have c1 := q0.cell 1
    have d0 := q1.cell 0
    have d1 := q1.cell 1
    have UBk := Lib.hid (fun k => UB.out (W3.drewN k))
    have USk := Lib.hid (fun k => US.out (W3.drewN k))
    have hub : (ub == ub) = true := by simp
    have hus : (us == us) = true := by simp
    clear hW3 hp q0 q1 hb3 t0 t1 t2 v0 v1 v2 hlg hlh HB2 hs2
    clear w2
    go_wp2_with fail
    go_quiet (first | (go_at_call 20; exact Calls.quiet_of_same (UBk.out _)) | (go_at_call 20; exact Calls.quiet_of_same (USk.out _)))
    go_wp2
    go_ret
    exact ⟨rfl, below_drewN9 HB3.out nq⟩
end Go.Proofs.YtigpmnpfkgopnaaDoor
