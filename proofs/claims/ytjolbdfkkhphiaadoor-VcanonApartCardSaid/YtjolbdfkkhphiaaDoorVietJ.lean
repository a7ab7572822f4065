/- Layer 9: Upper, great; how two letters are compared. -/
import Derived.Test.YtjolbdfkkhphiaaDoorVietI
import Derived.Test.YtjolbdfkkhphiaaDoorGlob
namespace Go.Proofs.YtjolbdfkkhphiaaDoor
set_option linter.unusedVariables false
set_option linter.unusedSimpArgs false
set_option linter.unnecessarySimpa false
open Go.RowKit Go.Shelf

set_option maxHeartbeats 800000 in
theorem upper_any (s : Int) (w : World) (h0 : 0 ≤ s) (h1 : s ≤ 9223372036854775807) : Calls Tryd.prog 29 #[.int .i64 s] w fun e w' => e = .returned (.int .i64 (upI s)) ∧ w' = w := by
  by_cases h : s < 256
  · have h2 : IntKind.i64.wrap (s - 32) = s - 32 := by rw [IntKind.wrap_i64]; omega
    go_enter Tryd.func29, Tryd.ntmps29
    go_wp2
    go_ret
    exact ⟨ret_int (by unfold upI; split <;> omega), rfl⟩
  · have h2 : IntKind.i64.wrap (s - 1) = s - 1 := by rw [IntKind.wrap_i64]; omega
    go_enter Tryd.func29, Tryd.ntmps29
    go_wp2
    go_ret
    exact ⟨ret_int (by unfold upI; split <;> omega), rfl⟩

/-- what a callee that only makes memory of its own leaves as it lay -/
structure Own9 (a b : World) : Prop where
  below : Below a.heap.size a b
  kp : KpV a b
  others : KeepsOthers a b
theorem Own9.refl (a : World) : Own9 a a := ⟨Below.refl _ _, KpV.refl _, KeepsOthers.refl _⟩
theorem Own9.trans {a b c : World} (h : Own9 a b) (k : Own9 b c) : Own9 a c := ⟨h.below.trans (k.below.mono h.below.size), h.kp.trans k.kp, h.others.trans k.others⟩
theorem Own9.of {a b : World} (h : Below a.heap.size a b) : Own9 a b :=
  ⟨h, fun k cs fr e => (h.block k (Array.getElem?_eq_some_iff.1 e).1).trans e, ⟨h.size, fun k o e _ => (h.block k (Array.getElem?_eq_some_iff.1 e).1).trans e⟩⟩

theorem infoletter : (Tryd.prog.info? 35).map (·.size) = some 2 := by kernel_rfl
theorem below_setRow {B g : Nat} {w0 w : World} (hb : Below B w0 w) (hBg : B ≤ g) (cs : Array Value) : Below B w0 (w.setRow g cs) :=
  ⟨hb.os, hb.tape, hb.output, by rw [setRow_size]; exact hb.size, fun k hk => (setRow_other w g k cs (by omega)).trans (hb.block k hk)⟩
section
variable {fn : Func} {p q r : Tmp} {a : Act} {w : World} {R : Ending → World → Prop} {g : Nat} {cs : Array Value} {t : TypeId} {fr : Nat × Nat} {v v' : Value}
/-- a result that is a letter, in a cell of the frame -/
theorem letter_ret (h : fn.results = #[.cell p 35]) (hp : a.tmps.getD p undef = .pointer (some ⟨g, 0, none⟩)) (hg : w.heap[g]? = some (.cells cs t fr)) (hs : cs.size = 2)
    (hd : a.defers = []) (hR : R (.returned (.agg cs)) w) : bodyPost Tryd.prog fn R .ret a w :=
  bodyPost_ret (results_cell_row h a.tmps w g t cs fr _ hp hg Tryd.underlying35 rfl (by rw [infoletter, hs])) hd hR
/-- .. and what lies in slots behind it -/
theorem letter_ret1 (h : fn.results = #[.cell p 35, .tmp q]) (hp : a.tmps.getD p undef = .pointer (some ⟨g, 0, none⟩)) (hg : w.heap[g]? = some (.cells cs t fr)) (hs : cs.size = 2)
    (hv : a.tmps.getD q undef = v) (hd : a.defers = []) (hR : R (.returned (.tuple #[.agg cs, v])) w) : bodyPost Tryd.prog fn R .ret a w := by
  have hp' : a.tmps[p]?.getD undef = .pointer (some ⟨g, 0, none⟩) := by simpa using hp
  have hv' : a.tmps[q]?.getD undef = v := by simpa using hv
  have h1 : (results fn a.tmps).run Tryd.prog w = .ok (.tuple #[.agg cs, v]) w := by
    simp [results, h, hp', hv', asAddr, run_loadVar_row w g t 35 cs fr _ hg Tryd.underlying35 rfl (by rw [infoletter, hs])]
  exact bodyPost_ret h1 hd hR
theorem letter_ret2 (h : fn.results = #[.cell p 35, .tmp q, .tmp r]) (hp : a.tmps.getD p undef = .pointer (some ⟨g, 0, none⟩)) (hg : w.heap[g]? = some (.cells cs t fr)) (hs : cs.size = 2)
    (hv : a.tmps.getD q undef = v) (hw : a.tmps.getD r undef = v') (hd : a.defers = []) (hR : R (.returned (.tuple #[.agg cs, v, v'])) w) : bodyPost Tryd.prog fn R .ret a w := by
  have hp' : a.tmps[p]?.getD undef = .pointer (some ⟨g, 0, none⟩) := by simpa using hp
  have hv' : a.tmps[q]?.getD undef = v := by simpa using hv
  have hw' : a.tmps[r]?.getD undef = v' := by simpa using hw
  have h1 : (results fn a.tmps).run Tryd.prog w = .ok (.tuple #[.agg cs, v, v']) w := by
    simp [results, h, hp', hv', hw', asAddr, run_loadVar_row w g t 35 cs fr _ hg Tryd.underlying35 rfl (by rw [infoletter, hs])]
  exact bodyPost_ret h1 hd hR
end
theorem stay_get {g : Nat} {a b : World} (h : Stay g a b) (off : Nat) : b.cell? ⟨g, off, none⟩ = a.cell? ⟨g, off, none⟩ := by
  simp only [World.cell?, show b.heap[g]? = a.heap[g]? from h]

set_option maxHeartbeats 1600000 in
theorem great_any (b : Int) (re im : Nat) (w : World) (h0 : 0 ≤ b) (h1 : b ≤ 9223372036854775807) :
    Calls Tryd.prog 30 #[.agg #[.int .i64 b, .complex .f64 re im]] w fun e w' => e = .returned (.agg #[.int .i64 (upI b), .complex .f64 re im]) ∧ Below w.heap.size w w' := by
  have HU := Lib.hid (fun W => upper_any b W h0 h1)
  obtain ⟨u, hu⟩ : ∃ u, upI b = u := ⟨_, rfl⟩
  rw [hu] at HU ⊢
  clear hu h0 h1
  go_enter Tryd.func30, Tryd.ntmps30
  go_wp2_with fail
  obtain ⟨W1, hW1⟩ : ∃ W1, (w.alloc (.cells #[.int .i64 b, .complex .f64 re im] 35)).alloc (.cells #[.int .i64 0, .complex .f64 0 0] 35) = W1 := ⟨_, rfl⟩
  have hb1 : Below w.heap.size w W1 := by rw [← hW1]; exact ((Below.refl _ w).alloc (Nat.le_refl _) _).alloc (by simp) _
  have q0 : W1.heap[w.heap.size]? = some (.cells #[.int .i64 b, .complex .f64 re im] 35 (0, 0)) := by
    rw [← hW1]; exact (Below.heap_alloc _ _ _ (by simp)).trans (World.alloc_heap_new w _)
  have q1 : W1.heap[w.heap.size + 1]? = some (.cells #[.int .i64 0, .complex .f64 0 0] 35 (0, 0)) := by
    rw [← hW1]; have := World.alloc_heap_new (w.alloc (.cells #[.int .i64 b, .complex .f64 re im] 35)) (.cells #[.int .i64 0, .complex .f64 0 0] 35); rwa [World.size_alloc] at this
  have k0 : W1.cell? ⟨w.heap.size, 0, none⟩ = some (.int .i64 b) := by rw [cell_of_row _ _ _ _ _ _ q0]; rfl
  have k1 : W1.cell? ⟨w.heap.size, 1, none⟩ = some (.complex .f64 re im) := by rw [cell_of_row _ _ _ _ _ _ q0]; rfl
  rw [hW1]
  clear hW1
  refine wp_region_mixe (G := Stay w.heap.size) [(0, false), (1, false), (3, false), (4, false), (2, true), (5, false), (6, true)]
    (Stay.refl _) (Stay.trans _) (by kernel_rfl) rfl (by kernel_rfl) (by kernel_rfl) ?_
  refine mixe_one rfl rfl ?_
  go_big_quiet_step ((intro _; rfl))
  refine wpQuiet_nil ?_
  refine mixe_one rfl rfl ?_
  go_big_quiet_step ((intro hh; rw [stay_get hh, World.cell?_drew, k0]; exact ⟨rfl, rfl⟩))
  refine wpQuiet_nil ?_
  refine mixe_one rfl rfl ?_
  go_big_quiet_step ((intro _; rfl))
  refine wpQuiet_nil ?_
  refine mixe_one rfl rfl ?_
  go_big_quiet_step ((intro hh; rw [stay_get hh, World.cell?_drew, k1]; exact ⟨rfl, rfl⟩))
  refine wpQuiet_nil ?_
  refine mixe_call rfl ?_
  go_wp2_with fail
  refine (HU.out _).mono ?_
  rintro e w' ⟨rfl, h⟩
  subst h
  go_wp2_with fail
  refine ⟨Stay.refl _ _, ?_⟩
  refine mixe_one rfl rfl ?_
  go_big_quiet_step ((intro _; rfl))
  refine wpQuiet_nil ?_
  refine mixe_call rfl ?_
  go_wp2_with (refine wpList_store_row rfl _ _ _ rfl (w.heap.size + 1) #[.int .i64 u, .complex .f64 re im] rfl rfl _ _ q1 infoletter rfl (by simp [Value.oneCell']) ?_)
  have q2 := setRow_heap W1.drew (w.heap.size + 1) _ #[.int .i64 u, .complex .f64 re im] _ _ q1
  refine ⟨setRow_other _ _ _ _ (by omega), ?_⟩
  refine NoPanic.normal ?_
  have hbF := Lib.hid (below_setRow (g := w.heap.size + 1) hb1.drew (by omega) #[.int .i64 u, .complex .f64 re im])
  have HQ2 := Lib.hid q2
  clear q1 q2 q0 k0 k1 hb1
  go_wp2
  exact letter_ret rfl rfl HQ2.out rfl rfl ⟨rfl, hbF.out⟩

theorem eq_part (d : Nat) (t : TypeId) (k : FloatKind) (a b a' b' : Nat) (w : World) (h : Tryd.prog.underlying t = some (.complex .f64)) : (Op.equalIn (d + 1) t (.complex .f64 a b) (.complex .f64 a' b')).run Tryd.prog w = .ok (feq a a' && feq b b') w := by
  simp [Op.equalIn, run_underlying h, Op.floatEq, feq]
/-- two letters are the same: in base, and in both parts of their signs -/
theorem eq_letters (a b : Int) (r i r' i' : Nat) (w : World) : (Op.equalIn 10000 35 (.agg #[.int .i64 a, .complex .f64 r i]) (.agg #[.int .i64 b, .complex .f64 r' i'])).run Tryd.prog w = .ok (a == b && (feq r r' && feq i i')) w := by
  have hS : Tryd.prog.underlying 35 = some (.struct (Tryd.prog.fieldsOf 35)) := by kernel_rfl
  have hp : Tryd.prog.stoodInHeld 35 = false := by kernel_rfl
  rw [show (10000 : Nat) = 9999 + 1 from rfl, run_equalIn_agg w 9999 35 _ _ hS hp]
  have u3 := Tryd.underlying3
  have u27 := Tryd.underlying33
  have hz := fun w => eq_part 9998 33 .f64 r i r' i' w u27
  simp only [Program.fieldsOf, Tryd.underlying35]
  go_simp
  cases h1 : a == b <;> cases h2 : (feq r r' && feq i i') <;> simp_all
theorem run_store_float (P : Program) (w : World) (a : Addr) (m : Mode) (k : FloatKind) (b : Nat) : (store a (.float k b) m).run P w = stored P w a (.float k b) m := run_store P w a _ m rfl
theorem run_store_complex (P : Program) (w : World) (a : Addr) (m : Mode) (k : FloatKind) (x y : Nat) : (store a (.complex k x y) m).run P w = stored P w a (.complex k x y) m := run_store P w a _ m rfl
theorem below_dN (w : World) (m : Nat) : Below w.heap.size w (w.drewN m) := ⟨rfl, rfl, rfl, Nat.le_refl _, fun _ _ => rfl⟩
theorem below_drewN9 {B : Nat} {a w : World} (h : Below B a w) (n : Nat) : Below B a (w.drewN n) := ⟨h.os, h.tape, h.output, h.size, h.block⟩
end Go.Proofs.YtjolbdfkkhphiaaDoor
