/- Texts of this seat, one behind the other: VietJ, VietK, VietL. -/
import Derived.Test.YtncpokioagpclaaGreatDoorZ14
import Derived.Test.YtncpokioagpclaaGreatDoorZ12
namespace Go.Proofs.YtncpokioagpclaaGreatDoor
set_option linter.unusedVariables false
set_option linter.unusedSimpArgs false
set_option linter.unnecessarySimpa false
open Go.RowKit Go.Shelf

set_option maxHeartbeats 800000 in
theorem upper_any (s : Int) (w : World) (h0 : 0 ≤ s) (h1 : s ≤ 9223372036854775807) : Calls Tryz.prog 125 #[.int .i64 s] w fun e w' => e = .returned (.int .i64 (upI s)) ∧ w' = w := by
  by_cases h : s < 256
  · have h2 : IntKind.i64.wrap (s - 32) = s - 32 := by rw [IntKind.wrap_i64]; omega
    go_enter Tryz.func125, Tryz.ntmps125
    go_wp2
    go_ret
    exact ⟨ret_int (by unfold upI; split <;> omega), rfl⟩
  · have h2 : IntKind.i64.wrap (s - 1) = s - 1 := by rw [IntKind.wrap_i64]; omega
    go_enter Tryz.func125, Tryz.ntmps125
    go_wp2
    go_ret
    exact ⟨ret_int (by unfold upI; split <;> omega), rfl⟩

/-- what a callee that only makes memory of its own leaves as it lay -/
structure Own9 (a b : World) : Prop where
  below : Below a.heap.size a b
  kp : KpV a b
  others : KeepsOthers a b
theorem Own9.of {a b : World} (h : Below a.heap.size a b) : Own9 a b :=
  ⟨h, fun k cs fr e => (h.block k (Array.getElem?_eq_some_iff.1 e).1).trans e, ⟨h.size, fun k o e _ => (h.block k (Array.getElem?_eq_some_iff.1 e).1).trans e⟩⟩

theorem stay_get {g : Nat} {a b : World} (h : Stay g a b) (off : Nat) : b.cell? ⟨g, off, none⟩ = a.cell? ⟨g, off, none⟩ := by
  simp only [World.cell?, show b.heap[g]? = a.heap[g]? from h]

set_option maxHeartbeats 1600000 in
theorem great_any (b : Int) (re im : Nat) (w : World) (h0 : 0 ≤ b) (h1 : b ≤ 9223372036854775807) :
    Calls Tryz.prog 124 #[.agg #[.int .i64 b, .complex .f64 re im]] w fun e w' => e = .returned (.agg #[.int .i64 (upI b), .complex .f64 re im]) ∧ Below w.heap.size w w' := by
  have HU := Lib.hid (fun W => upper_any b W h0 h1)
  obtain ⟨u, hu⟩ : ∃ u, upI b = u := ⟨_, rfl⟩
  rw [hu] at HU ⊢
  clear hu h0 h1
  go_enter Tryz.func124, Tryz.ntmps124
  go_wp2_with fail
  obtain ⟨W1, hW1⟩ : ∃ W1, (w.alloc (.cells #[.int .i64 b, .complex .f64 re im] 141)).alloc (.cells #[.int .i64 0, .complex .f64 0 0] 141) = W1 := ⟨_, rfl⟩
  have hb1 : Below w.heap.size w W1 := by rw [← hW1]; exact ((Below.refl _ w).alloc (Nat.le_refl _) _).alloc (by simp) _
  have q0 : W1.heap[w.heap.size]? = some (.cells #[.int .i64 b, .complex .f64 re im] 141 (0, 0)) := by
    rw [← hW1]; exact (Below.heap_alloc _ _ _ (by simp)).trans (World.alloc_heap_new w _)
  have q1 : W1.heap[w.heap.size + 1]? = some (.cells #[.int .i64 0, .complex .f64 0 0] 141 (0, 0)) := by
    rw [← hW1]; have := World.alloc_heap_new (w.alloc (.cells #[.int .i64 b, .complex .f64 re im] 141)) (.cells #[.int .i64 0, .complex .f64 0 0] 141); rwa [World.size_alloc] at this
  have k0 : W1.cell? ⟨w.heap.size, 0, none⟩ = some (.int .i64 b) := by rw [cell_of_row _ _ _ _ _ _ q0]; rfl
  have k1 : W1.cell? ⟨w.heap.size, 1, none⟩ = some (.complex .f64 re im) := by rw [cell_of_row _ _ _ _ _ _ q0]; rfl
  rw [hW1]
  clear hW1
  refine wp_region_mixe (G := Stay w.heap.size) [(0, false), (1, false), (3, false), (4, false), (2, true), (5, false), (6, true)]
    (Stay.refl _) (Stay.trans _) (by kernel_rfl) rfl (by kernel_rfl) (by kernel_rfl) ?_
  refine mixe_one rfl rfl ?_
  go_big_quiet_step ((intro _; rfl))
  refine wpQuiet_nil ?_
  refine mixe_one rfl rfl ?_
  go_big_quiet_step ((intro hh; rw [stay_get hh, World.cell?_drew, k0]; exact ⟨rfl, rfl⟩))
  refine wpQuiet_nil ?_
  refine mixe_one rfl rfl ?_
  go_big_quiet_step ((intro _; rfl))
  refine wpQuiet_nil ?_
  refine mixe_one rfl rfl ?_
  go_big_quiet_step ((intro hh; rw [stay_get hh, World.cell?_drew, k1]; exact ⟨rfl, rfl⟩))
  refine wpQuiet_nil ?_
  refine mixe_call rfl ?_
  go_wp2_with fail
  refine (HU.out _).mono ?_
  rintro e w' ⟨rfl, h⟩
  subst h
  go_wp2_with fail
  refine ⟨Stay.refl _ _, ?_⟩
  refine mixe_one rfl rfl ?_
  go_big_quiet_step ((intro _; rfl))
  refine wpQuiet_nil ?_
  refine mixe_call rfl ?_
  go_wp2_with (refine wpList_store_row rfl _ _ _ rfl (w.heap.size + 1) #[.int .i64 u, .complex .f64 re im] rfl rfl _ _ q1 infoletter rfl (by simp [Value.oneCell']) ?_)
  have q2 := setRow_heap W1.drew (w.heap.size + 1) _ #[.int .i64 u, .complex .f64 re im] _ _ q1
  refine ⟨setRow_other _ _ _ _ (by omega), ?_⟩
  refine NoPanic.normal ?_
  have hbF := Lib.hid (below_setRow (g := w.heap.size + 1) hb1.drew (by omega) #[.int .i64 u, .complex .f64 re im])
  have HQ2 := Lib.hid q2
  clear q1 q2 q0 k0 k1 hb1
  go_wp2
  exact letter_ret rfl rfl HQ2.out rfl rfl ⟨rfl, hbF.out⟩

theorem eq_part (d : Nat) (t : TypeId) (k : FloatKind) (a b a' b' : Nat) (w : World) (h : Tryz.prog.underlying t = some (.complex .f64)) : (Op.equalIn (d + 1) t (.complex .f64 a b) (.complex .f64 a' b')).run Tryz.prog w = .ok (feq a a' && feq b b') w := by
  simp [Op.equalIn, run_underlying h, Op.floatEq, feq]
/-- two letters are the same: in base, and in both parts of their signs -/
theorem eq_letters (a b : Int) (r i r' i' : Nat) (w : World) : (Op.equalIn 10000 141 (.agg #[.int .i64 a, .complex .f64 r i]) (.agg #[.int .i64 b, .complex .f64 r' i'])).run Tryz.prog w = .ok (a == b && (feq r r' && feq i i')) w := by
  have hS : Tryz.prog.underlying 141 = some (.struct (Tryz.prog.fieldsOf 141)) := by kernel_rfl
  have hp : Tryz.prog.stoodInHeld 141 = false := by kernel_rfl
  rw [show (10000 : Nat) = 9999 + 1 from rfl, run_equalIn_agg w 9999 141 _ _ hS hp]
  have u3 := Tryz.underlying3
  have u27 := Tryz.underlying139
  have hz := fun w => eq_part 9998 139 .f64 r i r' i' w u27
  simp only [Program.fieldsOf, Tryz.underlying141]
  go_simp
  cases h1 : a == b <;> cases h2 : (feq r r' && feq i i') <;> simp_all
end Go.Proofs.YtncpokioagpclaaGreatDoor
namespace Go.Proofs.YtncpokioagpclaaGreatDoor
set_option linter.unusedVariables false
set_option linter.unusedSimpArgs false
set_option linter.unnecessarySimpa false
open Go.RowKit Go.Shelf
attribute [local go_sem] Oper.semAt_some run_store_complex

theorem held_own {β : Type} (B : Nat) (t : TypeId) (f : β → Array Value) : Own (fun s W => Held W B (f s) t) := fun s X Y row hs hg hrow =>
  hs.kept hg (fun e' => by obtain ⟨o, ho, hc⟩ := hrow B e'.symm; rw [show X.heap[B]? = _ from hs] at ho; cases ho; cases hc)

/-- what Join answers -/
def joinF (b : Int) (re im : Nat) : Option Nat := findP (jnP b re im)
def jS (k : Option Nat) : Int := match k with | some k => LS k | none => 0

/-- none of these fits -/
def NoneYet (p : Nat → Bool) (pre : List (Fin 74)) : Prop := pre.findSome? (px p) = none
/-- letter k is the first of these that fits -/
def Found (p : Nat → Bool) (pre : List (Fin 74)) (k : Nat) : Prop := pre.findSome? (px p) = some k
theorem find_snoc {p : Nat → Bool} {pre : List (Fin 74)} {x : Fin 74} (h : NoneYet p pre) : (pre ++ [x]).findSome? (px p) = px p x := by
  unfold NoneYet at h
  rw [List.findSome?_append, h]
  simp only [Option.none_or, List.findSome?_cons, List.findSome?_nil]
  cases px p x <;> rfl
theorem find_pre {p : Nat → Bool} {pre : List (Fin 74)} {k : Nat} (hp : pre <+: List.finRange 74) (h : Found p pre k) : findP p = some k := by
  unfold Found at h
  obtain ⟨s, hs⟩ := hp
  unfold findP
  rw [← hs, List.findSome?_append, h]
  rfl
set_option maxRecDepth 100000 in
set_option maxHeartbeats 8000000 in
theorem join_any (b : Int) (re im : Nat) (w : World) (hR : RowsV w) :
    Calls Tryz.prog 135 #[.agg #[.int .i64 b, .complex .f64 re im]] w fun e w' => e = .returned (.tuple #[.int .i64 (jS (joinF b re im)), .bool (joinF b re im).isSome]) ∧ Below w.heap.size w w' := by
  refine (callsIn_wide (n := 3)).1 ?_
  have HR := Lib.hid hR
  have hEQ := fun bx rx ix => eq_letters b bx re im rx ix
  have HEQ := Lib.hid hEQ
  clear hR hEQ
  refine callsIn_of_wp_marks Tryz.func135 rfl trivial ?_ rfl
  simp only [Tryz.ntmps135, List.size_toArray, List.length_cons, List.length_nil, Nat.reduceAdd, Nat.reduceSub, Array.replicate_succ, Array.replicate_zero, List.push_toArray, List.append_toArray, List.nil_append, List.cons_append]
  gi_wp2
  have qB := ((Held.new w #[.int .i64 b, .complex .f64 re im] 141).alloc (.cells #[.int .i64 0] 3)).alloc (.cells #[.bool false] 4)
  have qI := (Boxed.new (w.alloc (.cells #[.int .i64 b, .complex .f64 re im] 141)) 3 (.int .i64 0)).alloc (.cells #[.bool false] 4)
  have qO := Boxed.new ((w.alloc (.cells #[.int .i64 b, .complex .f64 re im] 141)).alloc (.cells #[.int .i64 0] 3)) 4 (.bool false)
  simp only [World.size_alloc] at qI qO
  have hB0 : Below w.heap.size w (((w.alloc (.cells #[.int .i64 b, .complex .f64 re im] 141)).alloc (.cells #[.int .i64 0] 3)).alloc (.cells #[.bool false] 4)) := (((Below.refl _ w).alloc (Nat.le_refl _) _).alloc (by simp) _).alloc (by simp; omega) _
  have hsz : (((w.alloc (.cells #[.int .i64 b, .complex .f64 re im] 141)).alloc (.cells #[.int .i64 0] 3)).alloc (.cells #[.bool false] 4)).heap.size = w.heap.size + 3 := by simp
  obtain ⟨W0, hW0⟩ : ∃ W0, ((w.alloc (.cells #[.int .i64 b, .complex .f64 re im] 141)).alloc (.cells #[.int .i64 0] 3)).alloc (.cells #[.bool false] 4) = W0 := ⟨_, rfl⟩
  rw [hW0] at qB qI qO hB0 hsz ⊢
  clear hW0
  refine wpIn_rangeFunc_ownH rfl (by decide) (gf := 123) (lb := #[]) rfl trivial (enters_of Tryz.func123 (by kernel_rfl) rfl)
    (small_stops Fence.wide (3 - 1) trivial rfl (by decide) W0 (HR.out.below hB0)) KpV.trans (fun W l o o' h1 h2 h3 h4 => KpV.put (w := W0) W l o o' h1 h2 h3 h4) (Below.refl _ _) (fun _ => rfl)
    (fun pre W => ((Held W w.heap.size #[.int .i64 b, .complex .f64 re im] 141 ∧ Boxed W (w.heap.size + 1) 3 (.int .i64 0)) ∧ Boxed W (w.heap.size + 1 + 1) 4 (.bool false)) ∧ NoneYet (jnP b re im) pre ∧ Below w.heap.size w W)
    (fun c pre W => (c = .ret ∧ ∃ k, Found (jnP b re im) pre k ∧ Boxed W (w.heap.size + 1) 3 (.int .i64 (LS k)) ∧ Boxed W (w.heap.size + 1 + 1) 4 (.bool true)) ∧ Below w.heap.size w W)
    (OwnFrom.and (OwnFrom.and (OwnFrom.and (Own.from (held_own _ _ _) _) (Own.from (boxed_own _ _ _) _)) (Own.from (boxed_own _ _ _) _)) (OwnFrom.and (ownFrom_pure _ _) (ownFrom_below (Nat.le_refl _) (by omega))))
    (fun c => OwnFrom.and (Own.from (fun s X Y row hs hg hr => ⟨hs.1, hs.2.choose, hs.2.choose_spec.1, boxed_own _ 3 (fun (_ : Unit) => Value.int .i64 (LS hs.2.choose)) () X Y row hs.2.choose_spec.2.1 hg hr, boxed_own _ 4 (fun (_ : Unit) => Value.bool true) () X Y row hs.2.choose_spec.2.2 hg hr⟩) _) (ownFrom_below (Nat.le_refl _) (by omega)))
    ⟨⟨⟨qB, qI⟩, qO⟩, rfl, hB0⟩
    (fun x a' W => ∃ Bx, w.heap.size + 1 + 1 < Bx ∧ Held W Bx #[.int .i64 (LB x.val), .complex .f64 (fl (LM x.val)) (fl (LT x.val))] 141 ∧ a' = { tmps := #[.agg #[.int .i64 b, .complex .f64 re im], .pointer (some ⟨w.heap.size, 0, none⟩), .pointer (some ⟨w.heap.size + 1, 0, none⟩), .pointer (some ⟨w.heap.size + 1 + 1, 0, none⟩), .pointer (some ⟨Bx, 0, none⟩), .int .i64 (LS x.val), .agg #[.int .i64 (LB x.val), .complex .f64 (fl (LM x.val)) (fl (LT x.val))], .int .i64 (LS x.val), undef, undef, undef, undef, undef, undef, undef, undef, undef, undef, undef], defers := [] })
    (fun x a' _ X Y row hs hg hr => by obtain ⟨Bx, h1, h2, h3⟩ := hs; exact ⟨Bx, h1, held_own Bx 141 (fun (_ : Unit) => #[.int .i64 (LB x.val), .complex .f64 (fl (LM x.val)) (fl (LT x.val))]) () X Y row h2 hg (fun r e => (hr r e).2), h3⟩)
    ?assign ?body ?done ?stop
  case assign =>
    rintro l pre x W K ⟨⟨⟨q1, q2⟩, q3⟩, hf, hB1⟩ hK
    simp only [encV]
    gi_wp2
    exact hK _ _ ((KeepsOthers.alloc _ _).from _) (KpV.alloc _ _) ⟨⟨⟨q1.alloc _, q2.alloc _⟩, q3.alloc _⟩, hf, hB1.alloc hB1.size _⟩ ⟨W.heap.size, q3.lt, Held.new W _ _, rfl⟩
  case body =>
    rintro l pre x a' W hl ⟨r, hr⟩ ⟨⟨⟨q1, q2⟩, q3⟩, hf, hB1⟩ ⟨Bx, hBx, qX, rfl⟩ hlt
    have hpx := fun (y : Fin 74) => find_snoc (x := y) hf
    have k0 := q1.cell 0
    have k1 := q1.cell 1
    have x0 := qX.cell 0
    have x1 := qX.cell 1
    have f1 := q2.frozen
    have f2 := q3.frozen
    have k2 := q2.cell
    have k3 := q3.cell
    have hxl := x.isLt
    have hg1 := letter_great x.val hxl
    have hs1 := letter_small x.val (by omega)
    obtain ⟨bx, hbx⟩ : ∃ v, LB x.val = v := ⟨_, rfl⟩
    obtain ⟨rx, hrx⟩ : ∃ v, fl (LM x.val) = v := ⟨_, rfl⟩
    obtain ⟨ix, hix⟩ : ∃ v, fl (LT x.val) = v := ⟨_, rfl⟩
    obtain ⟨sx, hsx⟩ : ∃ v, LS x.val = v := ⟨_, rfl⟩
    have hP1 : jnP b re im x.val = (b == bx && (feq re rx && feq im ix)) := by unfold jnP; rw [hbx, hrx, hix]
    have hP2 : jnP b re im (x.val + 74) = (b == upI bx && (feq re rx && feq im ix)) := by unfold jnP; rw [hg1.1, hg1.2.1, hg1.2.2.1, hbx, hrx, hix]
    have hpx := hpx x
    rw [hbx] at hs1
    rw [hsx] at hs1 hg1
    simp only [hbx, hrx, hix, hsx] at x0 x1 qX ⊢
    have e1 := HEQ.out bx rx ix
    have e2 := HEQ.out (upI bx) rx ix
    rw [← hP1] at e1
    rw [← hP2] at e2
    have GR := Lib.hid (fun W => great_any bx rx ix W (by omega) (by omega))
    have UP := Lib.hid (fun W => upper_any sx W (by omega) (by omega))
    have hLS2 := hg1.2.2.2
    obtain ⟨ub, hub⟩ : ∃ v, upI bx = v := ⟨_, rfl⟩
    obtain ⟨us, hus⟩ : ∃ v, upI sx = v := ⟨_, rfl⟩
    rw [hub] at e2 GR
    rw [hus] at UP hLS2
    have HQX := Lib.hid qX
    have HL2 := Lib.hid hLS2
    have HS := Lib.hid hsx
    have HQ := Lib.hid (show (Held W w.heap.size #[.int .i64 b, .complex .f64 re im] 141 ∧ Boxed W (w.heap.size + 1) 3 (.int .i64 0)) ∧ Boxed W (w.heap.size + 1 + 1) 4 (.bool false) from ⟨⟨q1, q2⟩, q3⟩)
    have hnn : ∀ (W' : World), Below W.heap.size W W' → (Held W' w.heap.size #[.int .i64 b, .complex .f64 re im] 141 ∧ Boxed W' (w.heap.size + 1) 3 (.int .i64 0)) ∧ Boxed W' (w.heap.size + 1 + 1) 4 (.bool false) := fun W' h => ⟨⟨q1.below h q1.lt, (h.block _ q2.lt).trans q2⟩, (h.block _ q3.lt).trans q3⟩
    have HNN := Lib.hid hnn
    have HB1 := Lib.hid hB1
    have hlW := hB1.size
    have hXl := qX.lt
    clear hg1 hs1 hP1 hP2 hbx hrx hix hsx hub hus q1 q2 q3 hr qX hLS2 hnn hB1 hxl
    unfold px at hpx
    cases hp1 : jnP b re im x.val with
    | true =>
      rw [hp1] at hpx e1
      have HPX := Lib.hid (show Found (jnP b re im) (pre ++ [x]) x.val from hpx)
      clear hpx hp1 e2 hf
      gi_wp2
      have q2 := HQ.out.1.2
      have q3 := HQ.out.2
      exact ⟨((KeepsOthers.setCell _ _ _).trans (KeepsOthers.setCell _ _ _)).from _, ⟨rfl, x.val, HPX.out, by rw [HS.out]; exact (q2.set _).other (by omega) _, (q3.other (by omega) _).set _⟩,
        (HB1.out.setCell (p := ⟨w.heap.size + 1, 0, none⟩) (by simp) _).setCell (p := ⟨w.heap.size + 1 + 1, 0, none⟩) (by simp; omega) _⟩
    | false =>
      rw [hp1] at hpx e1
      simp only [Bool.false_eq_true, if_false] at hpx
      cases hp2 : jnP b re im (x.val + 74) with
      | true =>
        rw [hp2] at hpx e2
        have HPX := Lib.hid (show Found (jnP b re im) (pre ++ [x]) (x.val + 74) from hpx)
        clear hpx hp1 hp2 hf
        gi_wp2_with fail
        refine ⟨trivial, ?_⟩
        refine (CallsIn.inRound l (callsIn_wide.2 (GR.out _))).mono ?_
        rintro e W2 ⟨rfl, hb2⟩
        have hQ2 := HNN.out W2 hb2
        have k22 := hQ2.1.2.cell
        have k32 := hQ2.2.cell
        have f12 := hQ2.1.2.frozen
        have f22 := hQ2.2.frozen
        have HQ2 := Lib.hid hQ2
        have HB2 := Lib.hid hb2
        have hs2 := hb2.size
        clear hb2 hQ2 k0 k1 k2 k3 f1 f2 x0 x1
        gi_wp2_with fail
        refine ⟨trivial, ?_⟩
        refine (CallsIn.inRound l (callsIn_wide.2 (UP.out _))).mono ?_
        rintro e W3 ⟨rfl, h⟩
        subst h
        gi_wp2
        have q2 := HQ2.out.1.2
        have q3 := HQ2.out.2
        exact ⟨((Own9.of HB2.out).others.trans ((KeepsOthers.setCell _ _ _).trans (KeepsOthers.setCell _ _ _))).from _, ⟨rfl, x.val + 74, HPX.out, by rw [HL2.out]; exact (q2.set _).other (by omega) _, (q3.other (by omega) _).set _⟩,
          ((HB1.out.trans (HB2.out.mono HB1.out.size)).setCell (p := ⟨w.heap.size + 1, 0, none⟩) (by simp) _).setCell (p := ⟨w.heap.size + 1 + 1, 0, none⟩) (by simp; omega) _⟩
      | false =>
        rw [hp2] at hpx e2
        have HPX := Lib.hid (show NoneYet (jnP b re im) (pre ++ [x]) from hpx)
        clear hpx hp1 hp2 hf
        gi_wp2_with fail
        refine ⟨trivial, ?_⟩
        refine (CallsIn.inRound l (callsIn_wide.2 (GR.out _))).mono ?_
        rintro e W2 ⟨rfl, hb2⟩
        have HB2 := Lib.hid hb2
        have hs2 := hb2.size
        clear hb2 k0 k1 k2 k3 f1 f2 x0 x1
        gi_wp2
        exact ⟨(Own9.of HB2.out).others.from _, (Own9.of HB2.out).kp, HNN.out _ HB2.out, HPX.out, HB1.out.trans (HB2.out.mono HB1.out.size)⟩
  case done =>
    rintro D ys W hD rfl ⟨⟨⟨q1, q2⟩, q3⟩, hf, hB1⟩ hK
    have k2 := q2.cell
    have k3 := q3.cell
    have f1 := q2.frozen
    have f2 := q3.frozen
    have hDW := (Array.getElem?_eq_some_iff.1 hK).1
    have hjf : joinF b re im = none := hf
    have HB1 := Lib.hid hB1
    have HK := Lib.hid hK
    have HQ := Lib.hid (And.intro q2 q3)
    clear hf hB1 q1 q2 q3 hK
    gi_wp2
    have hK' := ((KeepsOthers.setCell W ⟨w.heap.size + 1, 0, none⟩ (.int .i64 0)).trans (KeepsOthers.setCell _ ⟨w.heap.size + 1 + 1, 0, none⟩ (.bool false))).same D _ HK.out rfl
    refine ⟨by simp, .inl ⟨_, _, rfl, run_takeDeferred hK', ?_⟩⟩
    have b2 := (HQ.out.1.set (.int .i64 0)).other (B' := w.heap.size + 1 + 1) (by omega) (.bool false)
    have b3 := (HQ.out.2.other (B' := w.heap.size + 1) (by omega) (.int .i64 0)).set (.bool false)
    have c2 := (b2.kept (grownBy_putObj' _ D (.deferred none)) (by intro e; injection e with e; omega)).cell
    have c3 := (b3.kept (grownBy_putObj' _ D (.deferred none)) (by intro e; injection e with e; omega)).cell
    have hBF := Lib.hid (((HB1.out.setCell (p := ⟨w.heap.size + 1, 0, none⟩) (by simp) (.int .i64 0)).setCell (p := ⟨w.heap.size + 1 + 1, 0, none⟩) (by simp; omega) (.bool false)).trans (belowK_b (w := w) (Nat.le_refl _) _ D _ (.deferred none) (by omega) hK' rfl rfl))
    clear b2 b3 hK'
    refine ⟨.tuple #[.int .i64 0, .bool false], ?_, by rw [hjf]; rfl, hBF.out⟩
    simp [results, Tryz.f135, go_sem, c2, c3]
  case stop =>
    rintro D c pre W hD hpre ⟨⟨rfl, k, hk, q2, q3⟩, hB1⟩ hK
    have hDW := (Array.getElem?_eq_some_iff.1 hK).1
    have hjf : joinF b re im = some k := find_pre hpre hk
    gi_wp2
    refine ⟨by simp, .inl ⟨_, _, rfl, run_takeDeferred hK, ?_⟩⟩
    have hne : ∀ B t v, Boxed W B t v → some B ≠ some D := fun B t v h e => by
      injection e with e; subst e
      rw [show W.heap[B]? = _ from h] at hK; cases hK
    have c2 := (q2.kept (grownBy_putObj' _ D (.deferred none)) (hne _ _ _ q2)).cell
    have c3 := (q3.kept (grownBy_putObj' _ D (.deferred none)) (hne _ _ _ q3)).cell
    refine ⟨.tuple #[.int .i64 (LS k), .bool true], ?_, by rw [hjf]; rfl, hB1.trans (belowK_b (w := w) (Nat.le_refl _) W D _ _ (by omega) hK rfl rfl)⟩
    simp [results, Tryz.f135, go_sem, c2, c3]
end Go.Proofs.YtncpokioagpclaaGreatDoor
namespace Go.Proofs.YtncpokioagpclaaGreatDoor
set_option linter.unusedVariables false
set_option linter.unusedSimpArgs false
set_option linter.unnecessarySimpa false
open Go.RowKit Go.Shelf
attribute [local go_sem] Oper.semAt_some run_store_complex

set_option maxRecDepth 100000 in
set_option maxHeartbeats 8000000 in
theorem split_any (s : Int) (w : World) (hR : RowsV w) :
    Calls Tryz.prog 89 #[.int .i64 s] w fun e w' => e = .returned (.tuple #[.agg (lV (splitF s)), .bool (splitF s).isSome]) ∧ Below w.heap.size w w' := by
  refine (callsIn_wide (n := 3)).1 ?_
  have HR := Lib.hid hR
  clear hR
  refine callsIn_of_wp_marks Tryz.func89 rfl trivial ?_ rfl
  simp only [Tryz.ntmps89, List.size_toArray, List.length_cons, List.length_nil, Nat.reduceAdd, Nat.reduceSub, Array.replicate_succ, Array.replicate_zero, List.push_toArray, List.append_toArray, List.nil_append, List.cons_append]
  gi_wp2
  have qB := ((Boxed.new w 3 (.int .i64 s)).alloc (.cells #[.int .i64 0, .complex .f64 0 0] 141)).alloc (.cells #[.bool false] 4)
  have qI := (Held.new (w.alloc (.cells #[.int .i64 s] 3)) #[.int .i64 0, .complex .f64 0 0] 141).alloc (.cells #[.bool false] 4)
  have qO := Boxed.new ((w.alloc (.cells #[.int .i64 s] 3)).alloc (.cells #[.int .i64 0, .complex .f64 0 0] 141)) 4 (.bool false)
  simp only [World.size_alloc] at qI qO
  have hB0 : Below w.heap.size w (((w.alloc (.cells #[.int .i64 s] 3)).alloc (.cells #[.int .i64 0, .complex .f64 0 0] 141)).alloc (.cells #[.bool false] 4)) := (((Below.refl _ w).alloc (Nat.le_refl _) _).alloc (by simp) _).alloc (by simp; omega) _
  have hsz : (((w.alloc (.cells #[.int .i64 s] 3)).alloc (.cells #[.int .i64 0, .complex .f64 0 0] 141)).alloc (.cells #[.bool false] 4)).heap.size = w.heap.size + 3 := by simp
  obtain ⟨W0, hW0⟩ : ∃ W0, ((w.alloc (.cells #[.int .i64 s] 3)).alloc (.cells #[.int .i64 0, .complex .f64 0 0] 141)).alloc (.cells #[.bool false] 4) = W0 := ⟨_, rfl⟩
  rw [hW0] at qB qI qO hB0 hsz ⊢
  clear hW0
  refine wpIn_rangeFunc_ownH rfl (by decide) (gf := 123) (lb := #[]) rfl trivial (enters_of Tryz.func123 (by kernel_rfl) rfl)
    (small_stops Fence.wide (3 - 1) trivial rfl (by decide) W0 (HR.out.below hB0)) KpV.trans (fun W l o o' h1 h2 h3 h4 => KpV.put (w := W0) W l o o' h1 h2 h3 h4) (Below.refl _ _) (fun _ => rfl)
    (fun pre W => ((Boxed W w.heap.size 3 (.int .i64 s) ∧ Held W (w.heap.size + 1) #[.int .i64 0, .complex .f64 0 0] 141) ∧ Boxed W (w.heap.size + 1 + 1) 4 (.bool false)) ∧ NoneYet (spP s) pre ∧ Below w.heap.size w W)
    (fun c pre W => (c = .ret ∧ ∃ k, Found (spP s) pre k ∧ Held W (w.heap.size + 1) (letV k) 141 ∧ Boxed W (w.heap.size + 1 + 1) 4 (.bool true)) ∧ Below w.heap.size w W)
    (OwnFrom.and (OwnFrom.and (OwnFrom.and (Own.from (boxed_own _ _ _) _) (Own.from (held_own _ _ _) _)) (Own.from (boxed_own _ _ _) _)) (OwnFrom.and (ownFrom_pure _ _) (ownFrom_below (Nat.le_refl _) (by omega))))
    (fun c => OwnFrom.and (Own.from (fun s X Y row hs hg hr => ⟨hs.1, hs.2.choose, hs.2.choose_spec.1, held_own _ 141 (fun (_ : Unit) => letV hs.2.choose) () X Y row hs.2.choose_spec.2.1 hg hr, boxed_own _ 4 (fun (_ : Unit) => Value.bool true) () X Y row hs.2.choose_spec.2.2 hg hr⟩) _) (ownFrom_below (Nat.le_refl _) (by omega)))
    ⟨⟨⟨qB, qI⟩, qO⟩, rfl, hB0⟩
    (fun x a' W => ∃ Bx, w.heap.size + 1 + 1 < Bx ∧ Held W Bx #[.int .i64 (LB x.val), .complex .f64 (fl (LM x.val)) (fl (LT x.val))] 141 ∧ a' = { tmps := #[.int .i64 s, .pointer (some ⟨w.heap.size, 0, none⟩), .pointer (some ⟨w.heap.size + 1, 0, none⟩), .pointer (some ⟨w.heap.size + 1 + 1, 0, none⟩), .pointer (some ⟨Bx, 0, none⟩), .int .i64 (LS x.val), .agg #[.int .i64 (LB x.val), .complex .f64 (fl (LM x.val)) (fl (LT x.val))], .int .i64 (LS x.val), undef, undef, undef, undef, undef, undef, undef, undef, undef, undef, undef, undef], defers := [] })
    (fun x a' _ X Y row hs hg hr => by obtain ⟨Bx, h1, h2, h3⟩ := hs; exact ⟨Bx, h1, held_own Bx 141 (fun (_ : Unit) => #[.int .i64 (LB x.val), .complex .f64 (fl (LM x.val)) (fl (LT x.val))]) () X Y row h2 hg (fun r e => (hr r e).2), h3⟩)
    ?assign ?body ?done ?stop
  case assign =>
    rintro l pre x W K ⟨⟨⟨q1, q2⟩, q3⟩, hf, hB1⟩ hK
    simp only [encV]
    gi_wp2
    exact hK _ _ ((KeepsOthers.alloc _ _).from _) (KpV.alloc _ _) ⟨⟨⟨q1.alloc _, q2.alloc _⟩, q3.alloc _⟩, hf, hB1.alloc hB1.size _⟩ ⟨W.heap.size, q3.lt, Held.new W _ _, rfl⟩
  case body =>
    rintro l pre x a' W hl ⟨r, hr⟩ ⟨⟨⟨q1, q2⟩, q3⟩, hf, hB1⟩ ⟨Bx, hBx, qX, rfl⟩ hlt
    have hpx := fun (y : Fin 74) => find_snoc (x := y) hf
    have k0 := q1.cell
    have k1 := q2.cell 0
    have k1' := q2.cell 1
    have k3 := q3.cell
    have x0 := qX.cell 0
    have x1 := qX.cell 1
    have f1 := q2.frozen 0
    have f1' := q2.frozen 1
    have f2 := q3.frozen
    have hxl := x.isLt
    have hg1 := letter_great x.val hxl
    have hs1 := letter_small x.val (by omega)
    have hV1 : letV x.val = #[.int .i64 (LB x.val), .complex .f64 (fl (LM x.val)) (fl (LT x.val))] := rfl
    have hV2 : letV (x.val + 74) = #[.int .i64 (upI (LB x.val)), .complex .f64 (fl (LM x.val)) (fl (LT x.val))] := by unfold letV; rw [hg1.1, hg1.2.1, hg1.2.2.1]
    obtain ⟨bx, hbx⟩ : ∃ v, LB x.val = v := ⟨_, rfl⟩
    obtain ⟨rx, hrx⟩ : ∃ v, fl (LM x.val) = v := ⟨_, rfl⟩
    obtain ⟨ix, hix⟩ : ∃ v, fl (LT x.val) = v := ⟨_, rfl⟩
    obtain ⟨sx, hsx⟩ : ∃ v, LS x.val = v := ⟨_, rfl⟩
    have hP1 : jnP 0 0 0 0 = jnP 0 0 0 0 := rfl
    have hP1 : spP s x.val = (s == sx) := by unfold spP; rw [hsx]
    have hP2 : spP s (x.val + 74) = (s == upI sx) := by unfold spP; rw [hg1.2.2.2, hsx]
    have hpx := hpx x
    rw [hbx] at hs1
    rw [hsx] at hs1
    simp only [hbx, hrx, hix, hsx] at x0 x1 qX hV1 hV2 ⊢
    have GR := Lib.hid (fun W => great_any bx rx ix W (by omega) (by omega))
    have UP := Lib.hid (fun W => upper_any sx W (by omega) (by omega))
    obtain ⟨ub, hub⟩ : ∃ v, upI bx = v := ⟨_, rfl⟩
    obtain ⟨us, hus⟩ : ∃ v, upI sx = v := ⟨_, rfl⟩
    rw [hub] at GR hV2
    rw [hus] at UP hP2
    have HV1 := Lib.hid hV1
    have HV2 := Lib.hid hV2
    have HQ := Lib.hid (show (Boxed W w.heap.size 3 (.int .i64 s) ∧ Held W (w.heap.size + 1) #[.int .i64 0, .complex .f64 0 0] 141) ∧ Boxed W (w.heap.size + 1 + 1) 4 (.bool false) from ⟨⟨q1, q2⟩, q3⟩)
    have hnn : ∀ (W' : World), Below W.heap.size W W' → (Boxed W' w.heap.size 3 (.int .i64 s) ∧ Held W' (w.heap.size + 1) #[.int .i64 0, .complex .f64 0 0] 141) ∧ Boxed W' (w.heap.size + 1 + 1) 4 (.bool false) := fun W' h => ⟨⟨(h.block _ q1.lt).trans q1, q2.below h q2.lt⟩, (h.block _ q3.lt).trans q3⟩
    have HNN := Lib.hid hnn
    have HB1 := Lib.hid hB1
    have hlW := hB1.size
    have hXl := qX.lt
    clear hg1 hs1 hbx hrx hix hsx hub hus q1 q2 q3 hr qX hV1 hV2 hnn hB1 hxl
    unfold px at hpx
    cases hp1 : spP s x.val with
    | true =>
      rw [hp1] at hpx
      have e1 : (s == sx) = true := by rw [← hP1, hp1]
      have HPX := Lib.hid (show Found (spP s) (pre ++ [x]) x.val from hpx)
      clear hpx hp1 hP1 hP2 hf
      gi_wp2
      have q2 := HQ.out.1.2
      have q3 := HQ.out.2
      exact ⟨(((KeepsOthers.setCell _ _ _).trans (KeepsOthers.setCell _ _ _)).trans (KeepsOthers.setCell _ _ _)).from _, ⟨rfl, x.val, HPX.out, by rw [HV1.out]; exact (q2.set2 _ _).otherK (by simp) _, ((q3.other (by omega) _).kept (grownBy_setCellK _ _ _) (by simp)).set _⟩,
        ((HB1.out.setCell (p := ⟨w.heap.size + 1, 0, none⟩) (by simp) _).setCell (p := ⟨w.heap.size + 1, 1, none⟩) (by simp) _).setCell (p := ⟨w.heap.size + 1 + 1, 0, none⟩) (by simp; omega) _⟩
    | false =>
      rw [hp1] at hpx
      have e1 : (s == sx) = false := by rw [← hP1, hp1]
      simp only [Bool.false_eq_true, if_false] at hpx
      cases hp2 : spP s (x.val + 74) with
      | true =>
        rw [hp2] at hpx
        have e2 : (s == us) = true := by rw [← hP2, hp2]
        have HPX := Lib.hid (show Found (spP s) (pre ++ [x]) (x.val + 74) from hpx)
        clear hpx hp1 hp2 hP1 hP2 hf
        gi_wp2_with fail
        refine ⟨trivial, ?_⟩
        refine (CallsIn.inRound l (callsIn_wide.2 (UP.out _))).mono ?_
        rintro e W3 ⟨rfl, h⟩
        subst h
        gi_wp2_with fail
        refine ⟨trivial, ?_⟩
        refine (CallsIn.inRound l (callsIn_wide.2 (GR.out _))).mono ?_
        rintro e W2 ⟨rfl, hb2⟩
        have hQ2 := HNN.out W2 hb2
        have k22 := hQ2.1.2.cell 0
        have k23 := hQ2.1.2.cell 1
        have k32 := hQ2.2.cell
        have f12 := hQ2.1.2.frozen 0
        have f13 := hQ2.1.2.frozen 1
        have f22 := hQ2.2.frozen
        have HQ2 := Lib.hid hQ2
        have HB2 := Lib.hid hb2
        have hs2 := hb2.size
        clear hb2 hQ2 k0 k1 k1' k3 f1 f1' f2 x0 x1
        gi_wp2
        have q2 := HQ2.out.1.2
        have q3 := HQ2.out.2
        exact ⟨((Own9.of HB2.out).others.trans (((KeepsOthers.setCell _ _ _).trans (KeepsOthers.setCell _ _ _)).trans (KeepsOthers.setCell _ _ _))).from _, ⟨rfl, x.val + 74, HPX.out, by rw [HV2.out]; exact (q2.set2 _ _).otherK (by simp) _, ((q3.other (by omega) _).kept (grownBy_setCellK _ _ _) (by simp)).set _⟩,
          (((HB1.out.trans (HB2.out.mono HB1.out.size)).setCell (p := ⟨w.heap.size + 1, 0, none⟩) (by simp) _).setCell (p := ⟨w.heap.size + 1, 1, none⟩) (by simp) _).setCell (p := ⟨w.heap.size + 1 + 1, 0, none⟩) (by simp; omega) _⟩
      | false =>
        rw [hp2] at hpx
        have e2 : (s == us) = false := by rw [← hP2, hp2]
        have HPX := Lib.hid (show NoneYet (spP s) (pre ++ [x]) from hpx)
        clear hpx hp1 hp2 hP1 hP2 hf
        gi_wp2_with fail
        refine ⟨trivial, ?_⟩
        refine (CallsIn.inRound l (callsIn_wide.2 (UP.out _))).mono ?_
        rintro e W3 ⟨rfl, h⟩
        subst h
        gi_wp2
        exact ⟨KeepsFrom.refl _ _, KpV.refl _, HQ.out, HPX.out, HB1.out⟩
  case done =>
    rintro D ys W hD rfl ⟨⟨⟨q1, q2⟩, q3⟩, hf, hB1⟩ hK
    have k2 := q2.cell 0
    have k2' := q2.cell 1
    have k3 := q3.cell
    have f1 := q2.frozen 0
    have f1' := q2.frozen 1
    have f2 := q3.frozen
    have hDW := (Array.getElem?_eq_some_iff.1 hK).1
    have hjf : splitF s = none := hf
    have HB1 := Lib.hid hB1
    have HK := Lib.hid hK
    have HQ := Lib.hid (And.intro q2 q3)
    clear hf hB1 q1 q2 q3 hK
    gi_wp2
    have hK' := (((KeepsOthers.setCell W ⟨w.heap.size + 1, 0, none⟩ (.int .i64 0)).trans (KeepsOthers.setCell _ ⟨w.heap.size + 1, 1, none⟩ (.complex .f64 0 0))).trans (KeepsOthers.setCell _ ⟨w.heap.size + 1 + 1, 0, none⟩ (.bool false))).same D _ HK.out rfl
    refine ⟨by simp, .inl ⟨_, _, rfl, run_takeDeferred hK', ?_⟩⟩
    have b2 : Held _ _ _ _ := (HQ.out.1.set2 (.int .i64 0) (.complex .f64 0 0)).otherK (p := ⟨w.heap.size + 1 + 1, 0, none⟩) (by simp) (.bool false)
    have b3 := ((HQ.out.2.other (B' := w.heap.size + 1) (by omega) (.int .i64 0)).kept (grownBy_setCellK _ ⟨w.heap.size + 1, 1, none⟩ (.complex .f64 0 0)) (by simp)).set (.bool false)
    have c2 := b2.kept (grownBy_putObj' _ D (.deferred none)) (by intro e; injection e with e; omega)
    have c3 := (b3.kept (grownBy_putObj' _ D (.deferred none)) (by intro e; injection e with e; omega)).cell
    have hBF := Lib.hid ((((HB1.out.setCell (p := ⟨w.heap.size + 1, 0, none⟩) (by simp) (.int .i64 0)).setCell (p := ⟨w.heap.size + 1, 1, none⟩) (by simp) (.complex .f64 0 0)).setCell (p := ⟨w.heap.size + 1 + 1, 0, none⟩) (by simp; omega) (.bool false)).trans (belowK_b (w := w) (Nat.le_refl _) _ D _ (.deferred none) (by omega) hK' rfl rfl))
    have d0 := c2.cell 0
    have d1 := c2.cell 1
    clear b2 b3 hK' c2
    refine ⟨.tuple #[.agg noV, .bool false], ?_, by rw [hjf]; rfl, hBF.out⟩
    simp [results, Tryz.f89, go_sem, c3, d0, d1, noV]
  case stop =>
    rintro D c pre W hD hpre ⟨⟨rfl, k, hk, q2, q3⟩, hB1⟩ hK
    have hDW := (Array.getElem?_eq_some_iff.1 hK).1
    have hjf : splitF s = some k := find_pre hpre hk
    gi_wp2
    refine ⟨by simp, .inl ⟨_, _, rfl, run_takeDeferred hK, ?_⟩⟩
    have hne : ∀ B cs t, Held W B cs t → some B ≠ some D := fun B cs t h e => by
      injection e with e; subst e
      rw [show W.heap[B]? = _ from h] at hK; cases hK
    have c2 := q2.kept (grownBy_putObj' _ D (.deferred none)) (hne _ _ _ q2)
    have c3 := (q3.kept (grownBy_putObj' _ D (.deferred none)) (hne _ _ _ q3)).cell
    have d0 := c2.cell 0
    have d1 := c2.cell 1
    refine ⟨.tuple #[.agg (letV k), .bool true], ?_, by rw [hjf]; rfl, hB1.trans (belowK_b (w := w) (Nat.le_refl _) W D _ _ (by omega) hK rfl rfl)⟩
    simp [results, Tryz.f89, go_sem, c3, d0, d1, letV]
end Go.Proofs.YtncpokioagpclaaGreatDoor
