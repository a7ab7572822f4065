/- Layer 9: Upper, great; how two letters are compared. -/
import Derived.Test.YtgjmclbcmfkhdaaDoorVietI
import Derived.Test.YtgjmclbcmfkhdaaDoorGlob
namespace Go.Proofs.YtgjmclbcmfkhdaaDoor
set_option linter.unusedVariables false
set_option linter.unusedSimpArgs false
set_option linter.unnecessarySimpa false
open Go.RowKit Go.Shelf

set_option maxHeartbeats 800000 in
theorem upper_any (s : Int) (w : World) (h0 : 0 ≤ s) (h1 : s ≤ 9223372036854775807) : Calls Tryd.prog 32 #[.int .i64 s] w fun e w' => e = .returned (.int .i64 (upI s)) ∧ w' = w := by
  by_cases h : s < 256
  · have h2 : IntKind.i64.wrap (s - 32) = s - 32 := by rw [IntKind.wrap_i64]; omega
    go_enter Tryd.func32, Tryd.ntmps32
    go_wp2
    go_ret
    exact ⟨ret_int (by unfold upI; split <;> omega), rfl⟩
  · have h2 : IntKind.i64.wrap (s - 1) = s - 1 := by rw [IntKind.wrap_i64]; omega
    go_enter Tryd.func32, Tryd.ntmps32
    go_wp2
    go_ret
    exact ⟨ret_int (by unfold upI; split <;> omega), rfl⟩

/-- what a callee that only makes memory of its own leaves as it lay -/
structure Own9 (a b : World) : Prop where
  below : Below a.heap.size a b
  kp : KpV a b
  others : KeepsOthers a b
theorem Own9.refl (a : World) : Own9 a a := ⟨Below.refl _ _, KpV.refl _, KeepsOthers.refl _⟩
theorem Own9.trans {a b c : World} (h : Own9 a b) (k : Own9 b c) : Own9 a c := ⟨h.below.trans (k.below.mono h.below.size), h.kp.trans k.kp, h.others.trans k.others⟩
theorem Own9.of {a b : World} (h : Below a.heap.size a b) : Own9 a b :=
  ⟨h, fun k cs fr e => (h.block k (Array.getElem?_eq_some_iff.1 e).1).trans e, ⟨h.size, fun k o e _ => (h.block k (Array.getElem?_eq_some_iff.1 e).1).trans e⟩⟩

theorem stay_get {g : Nat} {a b : World} (h : Stay g a b) (off : Nat) : b.cell? ⟨g, off, none⟩ = a.cell? ⟨g, off, none⟩ := by
  simp only [World.cell?, show b.heap[g]? = a.heap[g]? from h]

set_option maxHeartbeats 1600000 in
theorem great_any (b : Int) (re im : Nat) (w : World) (h0 : 0 ≤ b) (h1 : b ≤ 9223372036854775807) :
    Calls Tryd.prog 31 #[.agg #[.int .i64 b, .complex .f64 re im]] w fun e w' => e = .returned (.agg #[.int .i64 (upI b), .complex .f64 re im]) ∧ Below w.heap.size w w' := by
  have HU := Lib.hid (fun W => upper_any b W h0 h1)
  obtain ⟨u, hu⟩ : ∃ u, upI b = u := ⟨_, rfl⟩
  rw [hu] at HU ⊢
  clear hu h0 h1
  go_enter Tryd.func31, Tryd.ntmps31
  go_wp2_with fail
  obtain ⟨W1, hW1⟩ : ∃ W1, (w.alloc (.cells #[.int .i64 b, .complex .f64 re im] 26)).alloc (.cells #[.int .i64 0, .complex .f64 0 0] 26) = W1 := ⟨_, rfl⟩
  have hb1 : Below w.heap.size w W1 := by rw [← hW1]; exact ((Below.refl _ w).alloc (Nat.le_refl _) _).alloc (by simp) _
  have q0 : W1.heap[w.heap.size]? = some (.cells #[.int .i64 b, .complex .f64 re im] 26 (0, 0)) := by
    rw [← hW1]; exact (Below.heap_alloc _ _ _ (by simp)).trans (World.alloc_heap_new w _)
  have q1 : W1.heap[w.heap.size + 1]? = some (.cells #[.int .i64 0, .complex .f64 0 0] 26 (0, 0)) := by
    rw [← hW1]; have := World.alloc_heap_new (w.alloc (.cells #[.int .i64 b, .complex .f64 re im] 26)) (.cells #[.int .i64 0, .complex .f64 0 0] 26); rwa [World.size_alloc] at this
  have k0 : W1.cell? ⟨w.heap.size, 0, none⟩ = some (.int .i64 b) := by rw [cell_of_row _ _ _ _ _ _ q0]; rfl
  have k1 : W1.cell? ⟨w.heap.size, 1, none⟩ = some (.complex .f64 re im) := by rw [cell_of_row _ _ _ _ _ _ q0]; rfl
  rw [hW1]
  clear hW1
  refine wp_region_mixe (G := Stay w.heap.size) [(0, false), (1, false), (3, false), (4, false), (2, true), (5, false), (6, true)]
    (Stay.refl _) (Stay.trans _) (by kernel_rfl) rfl (by kernel_rfl) (by kernel_rfl) ?_
  refine mixe_one rfl rfl ?_
  go_big_quiet_step ((intro _; rfl))
  refine wpQuiet_nil ?_
  refine mixe_one rfl rfl ?_
  go_big_quiet_step ((intro hh; rw [stay_get hh, World.cell?_drew, k0]; exact ⟨rfl, rfl⟩))
  refine wpQuiet_nil ?_
  refine mixe_one rfl rfl ?_
  go_big_quiet_step ((intro _; rfl))
  refine wpQuiet_nil ?_
  refine mixe_one rfl rfl ?_
  go_big_quiet_step ((intro hh; rw [stay_get hh, World.cell?_drew, k1]; exact ⟨rfl, rfl⟩))
  refine wpQuiet_nil ?_
  refine mixe_call rfl ?_
  go_wp2_with fail
  refine (HU.out _).mono ?_
  rintro e w' ⟨rfl, h⟩
  subst h
  go_wp2_with fail
  refine ⟨Stay.refl _ _, ?_⟩
  refine mixe_one rfl rfl ?_
  go_big_quiet_step ((intro _; rfl))
  refine wpQuiet_nil ?_
  refine mixe_call rfl ?_
  go_wp2_with (refine wpList_store_row rfl _ _ _ rfl (w.heap.size + 1) #[.int .i64 u, .complex .f64 re im] rfl rfl _ _ q1 infoletter rfl (by simp [Value.oneCell']) ?_)
  have q2 := setRow_heap W1.drew (w.heap.size + 1) _ #[.int .i64 u, .complex .f64 re im] _ _ q1
  refine ⟨setRow_other _ _ _ _ (by omega), ?_⟩
  refine NoPanic.normal ?_
  have hbF := Lib.hid (below_setRow (g := w.heap.size + 1) hb1.drew (by omega) #[.int .i64 u, .complex .f64 re im])
  have HQ2 := Lib.hid q2
  clear q1 q2 q0 k0 k1 hb1
  go_wp2
  exact letter_ret rfl rfl HQ2.out rfl rfl ⟨rfl, hbF.out⟩

theorem eq_part (d : Nat) (t : TypeId) (k : FloatKind) (a b a' b' : Nat) (w : World) (h : Tryd.prog.underlying t = some (.complex .f64)) : (Op.equalIn (d + 1) t (.complex .f64 a b) (.complex .f64 a' b')).run Tryd.prog w = .ok (feq a a' && feq b b') w := by
  simp [Op.equalIn, run_underlying h, Op.floatEq, feq]
/-- two letters are the same: in base, and in both parts of their signs -/
theorem eq_letters (a b : Int) (r i r' i' : Nat) (w : World) : (Op.equalIn 10000 26 (.agg #[.int .i64 a, .complex .f64 r i]) (.agg #[.int .i64 b, .complex .f64 r' i'])).run Tryd.prog w = .ok (a == b && (feq r r' && feq i i')) w := by
  have hS : Tryd.prog.underlying 26 = some (.struct (Tryd.prog.fieldsOf 26)) := by kernel_rfl
  have hp : Tryd.prog.stoodInHeld 26 = false := by kernel_rfl
  rw [show (10000 : Nat) = 9999 + 1 from rfl, run_equalIn_agg w 9999 26 _ _ hS hp]
  have u3 := Tryd.underlying3
  have u27 := Tryd.underlying24
  have hz := fun w => eq_part 9998 24 .f64 r i r' i' w u27
  simp only [Program.fieldsOf, Tryd.underlying26]
  go_simp
  cases h1 : a == b <;> cases h2 : (feq r r' && feq i i') <;> simp_all
theorem below_drewN9 {B : Nat} {a w : World} (h : Below B a w) (n : Nat) : Below B a (w.drewN n) := ⟨h.os, h.tape, h.output, h.size, h.block⟩
end Go.Proofs.YtgjmclbcmfkhdaaDoor
