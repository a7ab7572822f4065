/- Texts of this seat, one behind the other: StrI, StrW, CdLr, CdLx. -/
import Derived.Test.YtapnefjiecabpaaGreatDoorZ37
import Derived.Test.YtapnefjiecabpaaGreatDoorZ38
import Derived.Test.YtapnefjiecabpaaGreatDoorZ27
import Derived.Handy
import Derived.Test.YtapnefjiecabpaaGreatDoorZ35
import Derived.Test.YtapnefjiecabpaaGreatDoorZ30
namespace Go.Proofs.YtapnefjiecabpaaGreatDoor
set_option linter.unusedVariables false
set_option linter.unusedSimpArgs false
set_option linter.unnecessarySimpa false
open Go.RowKit
/-- a fault, as the program hands it on -/
def fltV (f : Flt) : Value := .agg #[.int .i64 f.side, .int .i64 f.at_, .int .i64 f.err]
structure StrApi where
  OK : World → Prop
  keep : ∀ {w w' : World}, OK w → Below w.heap.size w w' → OK w'
  name : ∀ (s : ByteArray) (w : World), s.size ≤ 1000 → OK w → ∀ o : Option Nat, nameB (lowT s) = o → Calls Tryz.prog 34 #[.string s] w fun e w' => e = .returned (nameV o) ∧ Below w.heap.size w w'
  rows : ∀ {w : World}, OK w → RowsV w
  all : ∀ (w : World) (k1 k2 : Nat) (pol : Int) (n : Nat) (A : Option Addr) (c : Nat) (us : List Int) (B : Nat) (x : List Int) (f : Flt), k1 ≤ 6 → k2 ≤ 6 → 0 ≤ pol → pol ≤ 2 → OK w → us.length = n → Rd w B A (us.map (Value.int .u8)) → B ≤ w.heap.size → n ≤ c → c ≤ maxLen → n ≤ 1000 → (∀ u ∈ us, 0 ≤ u ∧ u ≤ 255) → allS k1 k2 pol us = (x, f) →
    Calls Tryz.prog 32 #[.string (nmB k1), .string (nmB k2), .int .i64 pol, .slice A n c] w fun e w' => ∃ A' c', e = .returned (.tuple #[.slice A' x.length c', fltV f, .int .i64 0]) ∧ Rd w' w'.heap.size A' (x.map (Value.int .u8)) ∧ x.length ≤ c' ∧ c' ≤ maxLen ∧ Below w.heap.size w w'
  allP : ∀ (w : World) (k1 k2 : Nat) (pol : Int), k1 < 8 → k2 < 8 → ¬ (0 ≤ pol ∧ pol ≤ 2) → OK w → Calls Tryz.prog 32 #[.string (nmB k1), .string (nmB k2), .int .i64 pol, .slice none 0 0] w fun e w' => e = .returned (.tuple #[.slice none 0 0, fltV F0, .int .i64 9]) ∧ Below w.heap.size w w'
  /-- a new one -/
  Fr : World → Nat → Prop
  frB : ∀ {w w' : World} {q : Nat}, Fr w q → Below w.heap.size w w' → Fr w' q
  fault : ∀ {w : World} {q : Nat}, Fr w q → Calls Tryz.prog 36 #[.pointer (some ⟨q, 0, none⟩)] w fun e w' => e = .returned (fltV F0) ∧ Below w.heap.size w w'
  owed : ∀ {w : World} {q : Nat}, Fr w q → Calls Tryz.prog 37 #[.pointer (some ⟨q, 0, none⟩)] w fun e w' => e = .returned (.int .i64 0) ∧ Below w.heap.size w w'
  /-- one that is fed: it writes G, looks at F -/
  St : Nat → Nat → Int → (Nat → Prop) → (Nat → Prop) → World → Nat → SSt → Prop
  foot : ∀ {k1 k2 : Nat} {pol : Int} {G F : Nat → Prop} {w : World} {q : Nat} {s : SSt}, St k1 k2 pol G F w q s → (∀ b, G b → F b) ∧ ∀ b, F b → b < w.heap.size
  stay : ∀ {k1 k2 : Nat} {pol : Int} {G F : Nat → Prop} {w w' : World} {q : Nat} {s : SSt}, St k1 k2 pol G F w q s → w.heap.size ≤ w'.heap.size → (∀ b, F b → w'.heap[b]? = w.heap[b]?) → St k1 k2 pol G F w' q s
  openY : ∀ (w : World) (a b : ByteArray) (pol : Int) (k1 k2 : Nat), a.size ≤ 1000 → b.size ≤ 1000 → nameB (lowT a) = some k1 → nameB (lowT b) = some k2 → 0 ≤ pol → pol ≤ 2 → OK w →
    Calls Tryz.prog 35 #[.string a, .string b, .int .i64 pol] w fun e w' => ∃ q, e = .returned (.tuple #[.pointer (some ⟨q, 0, none⟩), .int .i64 0]) ∧ Fr w' q ∧ (k1 ≤ 6 → k2 ≤ 6 → ∃ G F, St k1 k2 pol G F w' q S0 ∧ ∀ b, F b → w.heap.size ≤ b) ∧ Below w.heap.size w w'
  openP : ∀ (w : World) (a b : ByteArray) (pol : Int) (k1 k2 : Nat), a.size ≤ 1000 → b.size ≤ 1000 → nameB (lowT a) = some k1 → nameB (lowT b) = some k2 → ¬ (0 ≤ pol ∧ pol ≤ 2) → OK w →
    Calls Tryz.prog 35 #[.string a, .string b, .int .i64 pol] w fun e w' => e = .returned (.tuple #[.pointer none, .int .i64 9]) ∧ Below w.heap.size w w'
  openN : ∀ (w : World) (a b : ByteArray) (pol : Int), a.size ≤ 1000 → b.size ≤ 1000 → (nameB (lowT a) = none ∨ nameB (lowT b) = none) → OK w →
    Calls Tryz.prog 35 #[.string a, .string b, .int .i64 pol] w fun e w' => e = .returned (.tuple #[.pointer none, .int .i64 6]) ∧ Below w.heap.size w w'
  feed : ∀ {k1 k2 : Nat} {pol : Int} {G F : Nat → Prop} {w : World} {q : Nat} {s : SSt} (n : Nat) (A : Option Addr) (c : Nat) (us : List Int) (room : Int) (out : List Int) (used err : Int) (s' : SSt), St k1 k2 pol G F w q s → k1 ≤ 6 → k2 ≤ 6 → (∀ w', Mid G w w' → OK w') → us.length = n → Rdx (fun b => ¬ G b) w A (us.map (Value.int .u8)) → n ≤ c → c ≤ maxLen → n ≤ 1000 → (∀ u ∈ us, 0 ≤ u ∧ u ≤ 255) → s.d.a ≤ 1000 → s.e.a ≤ 1000 → s.o.length ≤ 100000 → room ≤ 100000 → feedS k1 k2 pol room s us = (out, used, err, s') →
    Calls Tryz.prog 38 #[.pointer (some ⟨q, 0, none⟩), .slice A n c, .int .i64 room] w fun e w' => ∃ A' c' G' F', e = .returned (.tuple #[.slice A' out.length c', .int .i64 used, .int .i64 err]) ∧ Rdx (fun b => ¬ G' b) w' A' (out.map (Value.int .u8)) ∧ St k1 k2 pol G' F' w' q s' ∧ (∀ b, G' b → G b ∨ w.heap.size ≤ b) ∧ Mid G w w'
  flush : ∀ {k1 k2 : Nat} {pol : Int} {G F : Nat → Prop} {w : World} {q : Nat} {s : SSt} (room : Int) (out : List Int) (err : Int) (s' : SSt), St k1 k2 pol G F w q s → k1 ≤ 6 → k2 ≤ 6 → (∀ w', Mid G w w' → OK w') → s.d.a ≤ 1000 → s.e.a ≤ 1000 → s.o.length ≤ 100000 → room ≤ 100000 → flushS k1 k2 pol room s = (out, err, s') →
    Calls Tryz.prog 39 #[.pointer (some ⟨q, 0, none⟩), .int .i64 room] w fun e w' => ∃ A' c' G' F', e = .returned (.tuple #[.slice A' out.length c', .int .i64 err]) ∧ Rdx (fun b => ¬ G' b) w' A' (out.map (Value.int .u8)) ∧ St k1 k2 pol G' F' w' q s' ∧ (∀ b, G' b → G b ∨ w.heap.size ≤ b) ∧ Mid G w w'
end Go.Proofs.YtapnefjiecabpaaGreatDoor
namespace Go.Proofs.YtapnefjiecabpaaGreatDoor
set_option linter.unusedVariables false
set_option linter.unusedSimpArgs false
set_option linter.unnecessarySimpa false
open Go.RowKit
theorem below_allocS (w : World) (o : Obj) : Below w.heap.size w (w.alloc o) := (Below.refl _ w).alloc (Nat.le_refl _) o
theorem below_drewS (B : Nat) (w : World) (m : Nat) : Below B w (w.drewN m) := ⟨rfl, rfl, rfl, Nat.le_refl _, fun _ _ => rfl⟩
theorem tis_name : nameB (lowT ⟨#[116, 105, 115, 54, 50, 48]⟩) = some 5 := by rw [lowT_ascii _ (by decide +kernel)]; decide +kernel
theorem utf_name : nameB (lowT ⟨#[117, 116, 102, 56]⟩) = some 0 := by rw [lowT_ascii _ (by decide +kernel)]; decide +kernel
theorem rdx_of {X : Nat → Prop} {w : World} {B : Nat} {A : Option Addr} {xs : List Value} (h : Rd w B A xs) (hB : B ≤ w.heap.size) (hX : ∀ b, b < B → X b) : Rdx X w A xs := by
  rcases h with h | ⟨b, off, h1, h2, h3⟩
  · exact .inl h
  · exact .inr ⟨b, off, h1, by omega, hX b h2, h3⟩
theorem rdx_rd {X : Nat → Prop} {w : World} {A : Option Addr} {xs : List Value} (h : Rdx X w A xs) : Rd w w.heap.size A xs := by
  rcases h with h | ⟨b, off, h1, h2, _, h3⟩
  · exact .inl h
  · exact .inr ⟨b, off, h1, h2, h3⟩
theorem rdx_new8 {X : Nat → Prop} (w : World) (zs : List Int) (cs : Array Value) (hc : cs.toList = zs.map (Value.int .u8)) (hX : X w.heap.size) : Rdx X (w.alloc (.cells cs 5)) (some ⟨w.heap.size, 0, none⟩) (zs.map (Value.int .u8)) := by
  refine .inr ⟨w.heap.size, 0, rfl, by simp, hX, fun j _ => ?_⟩
  rw [Nat.zero_add, (Held.new w cs 5).cell j, ← hc]
  simp
theorem flt_eq1 : ∀ W : World, (binOp .eql 61 (.agg #[.int .i64 1, .int .i64 1, .int .i64 3]) (.agg #[.int .i64 1, .int .i64 1, .int .i64 3])).run Tryz.prog W = .ok (.bool true) W := fun W => by kernel_rfl
theorem flt_eq0 : ∀ W : World, (binOp .eql 61 (.agg #[.int .i64 0, .int .i64 0, .int .i64 0]) (.agg #[.int .i64 0, .int .i64 0, .int .i64 0])).run Tryz.prog W = .ok (.bool true) W := fun W => by kernel_rfl
set_option maxRecDepth 100000 in
set_option maxHeartbeats 3200000 in
theorem awake20_any (I : StrApi) (w : World) (hI : I.OK w) : Calls Tryz.prog 29 #[] w fun e w' => e = .returned (.bool true) ∧ Below w.heap.size w w' := by
  have HI := Lib.hid hI
  have hr0 := rd_new_ints w .u8 [65, 128] 5 #[.int .u8 65, .int .u8 128] rfl
  have hb0 := below_allocS w (.cells #[.int .u8 65, .int .u8 128] 5)
  have C1 := Lib.hid (I.all (w.alloc (.cells #[.int .u8 65, .int .u8 128] 5)) 1 0 0 2 (some ⟨w.heap.size, 0, none⟩) 2 [65, 128] _ [65] ⟨1, 1, 3⟩ (by decide) (by decide) (by decide) (by decide) (I.keep hI hb0) rfl hr0 (by simp) (by decide) (by simp [maxLen]) (by decide) (by decide) ex_all)
  have HB0 := Lib.hid hb0
  clear hI hr0 hb0
  go_enter Tryz.func29, Tryz.ntmps29
  go_wp2_with fail
  refine C1.out.mono ?_
  rintro e w1 ⟨A1, c1, rfl, hr1, hl1, hm1, hb1⟩
  have HB1 := Lib.hid (HB0.out.trans (hb1.mono HB0.out.size))
  have HR1 := Lib.hid hr1
  simp only [fltV]
  obtain ⟨W2, hW2⟩ : ∃ W, w1.alloc (.cells #[.int .i64 1, .int .i64 1, .int .i64 3] 61) = W := ⟨_, rfl⟩
  have hf2 : Held W2 w1.heap.size #[.int .i64 1, .int .i64 1, .int .i64 3] 61 := by rw [← hW2]; exact Held.new w1 _ _
  have hb2 : Below w1.heap.size w1 W2 := by rw [← hW2]; exact below_allocS _ _
  have HF2 := Lib.hid hf2
  have HB2 := Lib.hid (HB1.out.trans (hb2.mono HB1.out.size))
  have HB12 := Lib.hid hb2
  have hs2 : W2.heap.size = w1.heap.size + 1 := by rw [← hW2]; simp
  have HS2 := Lib.hid hs2
  have C2 := Lib.hid (I.openY W2 ⟨#[116, 105, 115, 54, 50, 48]⟩ ⟨#[117, 116, 102, 56]⟩ 1 5 0 (by decide) (by decide) tis_name utf_name (by decide) (by decide) (I.keep HI.out HB2.out))
  have HW2 := Lib.hid hW2
  clear hr1 hl1 hm1 hb1 C1 hf2 hb2 hs2 hW2
  go_wp2_with fail
  rw [HW2.out]
  refine C2.out.mono ?_
  rintro e w3 ⟨q, rfl, -, hst, hb3⟩
  obtain ⟨G3, F3, hst3, hF3⟩ := hst (by decide) (by decide)
  have hft3 := I.foot hst3
  have HG3 := Lib.hid (show ∀ b, G3 b → W2.heap.size ≤ b from fun b hb => hF3 b (hft3.1 b hb))
  have hb4 := below_allocS w3 (.cells #[.int .u8 161, .int .u8 219] 5)
  have hst4 := I.stay hst3 hb4.size fun b hb => hb4.block b (hft3.2 b hb)
  have HB24 := Lib.hid (hb3.trans (hb4.mono hb3.size))
  have HB4 := Lib.hid (HB2.out.trans (HB24.out.mono HB2.out.size))
  have C3 := Lib.hid (I.feed 2 (some ⟨w3.heap.size, 0, none⟩) 2 [161, 219] 16 _ _ _ _ hst4 (by decide) (by decide) (fun W hm => I.keep HI.out (HB4.out.trans (hm.below (fun b hb => Nat.le_trans HB2.out.size (HG3.out b hb)) HB4.out.size))) rfl (rdx_new8 w3 [161, 219] #[.int .u8 161, .int .u8 219] rfl (fun hg => Nat.lt_irrefl _ (hft3.2 _ (hft3.1 _ hg)))) (by decide) (by simp [maxLen]) (by decide) (by decide) (by decide) (by decide) (by decide) (by decide) ex_feed)
  clear hst hst3 hF3 hft3 hb3 hb4 hst4 C2 HW2
  go_wp2_with fail
  refine C3.out.mono ?_
  rintro e w5 ⟨A5, c5, G5, F5, rfl, hr5, hst5, hg5, hm5⟩
  have hs24 := HB24.out.size
  have HG5 := Lib.hid (show ∀ b, G5 b → W2.heap.size ≤ b from fun b hb => (hg5 b hb).elim (fun h => HG3.out b h) (fun h => Nat.le_trans hs24 h))
  have HB25 := Lib.hid (HB24.out.trans (hm5.below HG3.out hs24))
  have HB5 := Lib.hid (HB2.out.trans (HB25.out.mono HB2.out.size))
  have HR5 := Lib.hid hr5
  have C4 := Lib.hid (I.flush 16 _ _ _ hst5 (by decide) (by decide) (fun W hm => I.keep HI.out (HB5.out.trans (hm.below (fun b hb => Nat.le_trans HB2.out.size (HG5.out b hb)) HB5.out.size))) (by decide) (by decide) (by decide) (by decide) ex_flush)
  clear hr5 hst5 hg5 hm5 C3 hs24
  go_wp2_with fail
  refine C4.out.mono ?_
  rintro e w6 ⟨A6, c6, G6, F6, rfl, hr6, hst6, hg6, hm6⟩
  have hs25 := HB25.out.size
  have HG6 := Lib.hid (show ∀ b, G6 b → W2.heap.size ≤ b from fun b hb => (hg6 b hb).elim (fun h => HG5.out b h) (fun h => Nat.le_trans hs25 h))
  have HB26 := Lib.hid (HB25.out.trans (hm6.below HG5.out hs25))
  have HB6 := Lib.hid (HB2.out.trans (HB26.out.mono HB2.out.size))
  have HR56 := Lib.hid (HR5.out.step (Y := fun b => ¬ G6 b) hm6.size fun b hl hx => ⟨fun h => by rcases hg6 b h with h1 | h1; exact hx h1; omega, hm6.block b hl hx⟩)
  have C5 := Lib.hid (I.feed 0 none 0 [] 16 _ _ _ _ hst6 (by decide) (by decide) (fun W hm => I.keep HI.out (HB6.out.trans (hm.below (fun b hb => Nat.le_trans HB2.out.size (HG6.out b hb)) HB6.out.size))) rfl (.inl rfl) (by decide) (by simp [maxLen]) (by decide) (by simp) (by decide) (by decide) (by decide) (by decide) (ex_closed 5 0 1 16 _ [] rfl))
  clear hr6 hst6 hg6 hm6 C4 hs25
  go_wp2_with fail
  refine C5.out.mono ?_
  rintro e w7 ⟨A7, c7, G7, F7, rfl, -, -, -, hm7⟩
  have hs26 := HB26.out.size
  have HB27 := Lib.hid (HB26.out.trans (hm7.below HG6.out hs26))
  have hrx := HR56.out.step (Y := fun _ => True) hm7.size fun b hl hx => ⟨trivial, hm7.block b hl hx⟩
  have hcv5 := run_str (P := Tryz.prog) w7 22 9 5 Tryz.underlying22 Tryz.underlying5 Tryz.underlying9 _ A5 [224, 184, 129, 239, 191, 189] 6 c5 rfl (rdx_rd hrx)
  have hr17 := HR1.out.below ((HB12.out.trans (HB27.out.mono HB12.out.size))) (Nat.le_refl _)
  have hcv1 := run_str (P := Tryz.prog) w7 22 9 5 Tryz.underlying22 Tryz.underlying5 Tryz.underlying9 _ A1 [65] 1 c1 rfl hr17
  have hf7 : Held w7 w1.heap.size _ _ := HF2.out.below HB27.out (by rw [HS2.out]; omega)
  have z0 := hf7.cell 0
  have z1 := hf7.cell 1
  have z2 := hf7.cell 2
  have hq := flt_eq1
  have HB7 := Lib.hid (HB2.out.trans (HB27.out.mono HB2.out.size))
  have e1 : ((strOfNums [65]).toList == [65]) = true := by decide +kernel
  have e5 : ((strOfNums [224, 184, 129, 239, 191, 189]).toList == [224, 184, 129, 239, 191, 189]) = true := by decide +kernel
  obtain ⟨s1, hs1⟩ : ∃ s, strOfNums [65] = s := ⟨_, rfl⟩
  obtain ⟨s5, hs5⟩ : ∃ s, strOfNums [224, 184, 129, 239, 191, 189] = s := ⟨_, rfl⟩
  rw [hs1] at hcv1 e1
  rw [hs5] at hcv5 e5
  clear hm7 hrx hr17 hf7 hs26 hs1 hs5 C5
  go_wp2_with fail
  go_ret
  exact ⟨rfl, HB7.out⟩
end Go.Proofs.YtapnefjiecabpaaGreatDoor
namespace Go.Proofs.YtapnefjiecabpaaGreatDoor
set_option linter.unusedVariables false
set_option linter.unusedSimpArgs false
set_option linter.unnecessarySimpa false
open Go.RowKit
theorem cascii_any (c : Int) (w : World) (h0 : 0 ≤ c) (h1 : c ≤ 255) :
    Calls Tryz.prog 112 #[.int .u8 c] w fun e w' => e = .returned (.tuple #[.int .i64 (if c < 128 then c else 0), .bool (decide (c < 128))]) ∧ w = w' := by
  by_cases hc : c < 128
  · have h2 : ¬ 128 ≤ c := by omega
    have hw : wrap64 c = c := by unfold wrap64; omega
    have hw2 : IntKind.i64.wrap c = c := by rw [IntKind.wrap_i64]; omega
    rw [if_pos hc, decide_eq_true hc]
    go_enter Tryz.func112, Tryz.ntmps112
    go_wp2
    go_ret2
    exact ⟨rfl, rfl⟩
  · have h2 : 128 ≤ c := by omega
    rw [if_neg hc, decide_eq_false hc]
    go_enter Tryz.func112, Tryz.ntmps112
    go_wp2
    go_ret2
    exact ⟨rfl, rfl⟩
theorem asR_min (K : Nat) (h : 128 ≤ K) : asR (min (K + 1) 128) = asR (min K 128) := by rw [Nat.min_eq_right h, Nat.min_eq_right (by omega)]
set_option maxRecDepth 100000 in
set_option maxHeartbeats 3200000 in
theorem singles_as (w : World) : Calls Tryz.prog 111 #[.func (.func 112) #[] #[]] w fun e w' => ∃ v, e = .returned v ∧ OwnRs w.heap.size w' v (asR 128) ∧ Below w.heap.size w w' := by
  have HB0 := Lib.hid (Below.refl w.heap.size w)
  go_enter Tryz.func111, Tryz.ntmps111
  go_wp2
  go_loopw [3, 7] (fun v i wr => ∃ K : Nat, K ≤ 256 ∧ i = .int .i64 K ∧ Hid (OwnRs w.heap.size wr v (asR (min K 128))) ∧ Hid (Below w.heap.size w wr)) (fun _ i _ => 256 - (intOf i).toNat)
  case atStart => exact ⟨0, by omega, rfl, Lib.hid (OwnRs.nil _ _), HB0⟩
  case round =>
    obtain ⟨K, hK, rfl, ho, hb⟩ := hrel
    by_cases hKn : K = 256
    · subst hKn
      go_wp2_with fail
      go_ret
      exact ⟨_, rfl, ho.out, hb.out⟩
    have hK' : K < 256 := by omega
    have k3 : (0 : Int) ≤ K := by omega
    have k4 : (K : Int) < 256 := by omega
    have hwr := hb.out.size
    have hal : (asR (min K 128)).length ≤ 128 := by rw [asR_len]; omega
    obtain ⟨A3, c3, hv3, _⟩ := ho.out.form
    have k5 : IntKind.u8.wrap (K : Int) = K := by rw [IntKind.wrap_u8]; omega
    have k6 : (K : Int) % 256 = K := by omega
    have D1 := Lib.hid (cascii_any (K : Int) wr k3 (by omega))
    by_cases hc : K < 128
    · have hc' : (K : Int) < 128 := by omega
      rw [if_pos hc', decide_eq_true hc'] at D1
      have HB := Lib.hid hb.out
      have HS := Lib.hid (show asR (min (K + 1) 128) = asR (min K 128) ++ [([(K : Int)], [(K : Int)])] by rw [Nat.min_eq_left (by omega), Nat.min_eq_left (by omega), asR_succ])
      obtain ⟨acc, hacc⟩ : ∃ acc, asR (min K 128) = acc := ⟨_, rfl⟩
      rw [hacc] at ho HS hal hv3
      subst hv3
      have HAL := Lib.hid (show acc.length ≤ 1048576 by omega)
      clear hc hc' hacc hal hKn hb
      go_wp2_with (first | (go_at_call 112; refine D1.out.mono ?_; rintro e w5 ⟨rfl, rfl⟩) | (at_builtin; refine wpList_appRl rfl _ _ rfl w.heap.size (.slice A3 acc.length c3) acc (K : Int) (K : Int) rfl ho.out rfl HAL.out hwr ?_))
      intro v' w4 HN HBB
      have HB4 := Lib.hid (HBB.out w.heap.size w (Nat.le_refl _) HB.out)
      have HN2 : Hid (OwnRs w.heap.size w4 v' (asR (min (K + 1) 128))) := by rw [HS.out]; exact HN
      clear HN
      go_wp2_with fail
      go_roundw
      case rel => exact ⟨K + 1, by omega, by go_num, HN2, HB4⟩
      case measure => simp [intOf]; omega
    · have hc' : ¬ (K : Int) < 128 := by omega
      rw [if_neg hc', decide_eq_false hc'] at D1
      have HN2 := Lib.hid (asR_min K (by omega))
      have HB4 := Lib.hid hb.out
      clear hc hc' hal hKn hb hv3
      go_wp2_with (go_at_call 112; refine D1.out.mono ?_; rintro e w' ⟨rfl, rfl⟩)
      go_roundw
      case rel => exact ⟨K + 1, by omega, by go_num, by rw [HN2.out]; exact ho, HB4⟩
      case measure => simp [intOf]; omega
set_option maxRecDepth 100000 in
set_option maxHeartbeats 3200000 in
theorem singles_th (w : World) : Calls Tryz.prog 111 #[.func (.func 57) #[] #[]] w fun e w' => ∃ v, e = .returned v ∧ OwnRs w.heap.size w' v (thR 256) ∧ Below w.heap.size w w' := by
  have HB0 := Lib.hid (Below.refl w.heap.size w)
  go_enter Tryz.func111, Tryz.ntmps111
  go_wp2
  go_loopw [3, 7] (fun v i wr => ∃ K : Nat, K ≤ 256 ∧ i = .int .i64 K ∧ Hid (OwnRs w.heap.size wr v (thR K)) ∧ Hid (Below w.heap.size w wr)) (fun _ i _ => 256 - (intOf i).toNat)
  case atStart => exact ⟨0, by omega, rfl, Lib.hid (OwnRs.nil _ _), HB0⟩
  case round =>
    obtain ⟨K, hK, rfl, ho, hb⟩ := hrel
    by_cases hKn : K = 256
    · subst hKn
      go_wp2_with fail
      go_ret
      exact ⟨_, rfl, ho.out, hb.out⟩
    have hK' : K < 256 := by omega
    have k3 : (0 : Int) ≤ K := by omega
    have k4 : (K : Int) < 256 := by omega
    have hwr := hb.out.size
    have hal : (thR K).length ≤ 256 := by have := thR_le K; omega
    obtain ⟨A3, c3, hv3, _⟩ := ho.out.form
    have k5 : IntKind.u8.wrap (K : Int) = K := by rw [IntKind.wrap_u8]; omega
    have k6 : (K : Int) % 256 = K := by omega
    have D1 := Lib.hid (decode_any (K : Int) wr k3 (by omega))
    obtain ⟨d, t, hd⟩ : ∃ d t, scF (K : Int) = (d, t) := ⟨_, _, rfl⟩
    rw [hd] at D1
    cases t with
    | false =>
      have HN2 := Lib.hid (thR_no K (by rw [hd]))
      have HB4 := Lib.hid hb.out
      clear hd hal hKn hb hv3
      go_wp2_with (go_at_call 57; refine D1.out.mono ?_; rintro e w' ⟨rfl, rfl⟩)
      go_roundw
      case rel => exact ⟨K + 1, by omega, by go_num, by rw [HN2.out]; exact ho, HB4⟩
      case measure => simp [intOf]; omega
    | true =>
      have HB := Lib.hid hb.out
      have HS := Lib.hid (show thR (K + 1) = thR K ++ [([(K : Int)], [d])] by rw [thR_yes K (by rw [hd]), hd])
      obtain ⟨acc, hacc⟩ : ∃ acc, thR K = acc := ⟨_, rfl⟩
      rw [hacc] at ho HS hal hv3
      subst hv3
      have HAL := Lib.hid (show acc.length ≤ 1048576 by omega)
      clear hd hacc hal hKn hb
      go_wp2_with (first | (go_at_call 57; refine D1.out.mono ?_; rintro e w5 ⟨rfl, rfl⟩) | (at_builtin; refine wpList_appRl rfl _ _ rfl w.heap.size (.slice A3 acc.length c3) acc (K : Int) d rfl ho.out rfl HAL.out hwr ?_))
      intro v' w4 HN HBB
      have HB4 := Lib.hid (HBB.out w.heap.size w (Nat.le_refl _) HB.out)
      have HN2 : Hid (OwnRs w.heap.size w4 v' (thR (K + 1))) := by rw [HS.out]; exact HN
      clear HN
      go_wp2_with fail
      go_roundw
      case rel => exact ⟨K + 1, by omega, by go_num, HN2, HB4⟩
      case measure => simp [intOf]; omega
set_option maxRecDepth 100000 in
set_option maxHeartbeats 1600000 in
theorem rules_1 (w : World) (hT : Tabs w) : Calls Tryz.prog 79 #[.int .i64 1] w fun e w' => ∃ v, e = .returned v ∧ OwnRs w.heap.size w' v (cdR 1) ∧ Below w.heap.size w w' := by
  go_enter Tryz.func79, Tryz.ntmps79
  go_wp2_with fail
  refine (singles_as w).mono ?_
  rintro e w2 ⟨v2, rfl, ho2, hb2⟩
  have HO2 := Lib.hid ho2
  have HB2 := Lib.hid hb2
  clear ho2 hb2 hT
  go_wp2_with fail
  go_ret
  exact ⟨_, rfl, HO2.out, HB2.out⟩
set_option maxRecDepth 100000 in
set_option maxHeartbeats 1600000 in
theorem rules_2 (w : World) (hT : Tabs w) : Calls Tryz.prog 79 #[.int .i64 2] w fun e w' => ∃ v, e = .returned v ∧ OwnRs w.heap.size w' v (cdR 2) ∧ Below w.heap.size w w' := by
  go_enter Tryz.func79, Tryz.ntmps79
  go_wp2_with fail
  refine (vrules_any w hT.vis).mono ?_
  rintro e w2 ⟨v2, rfl, ho2, hb2⟩
  have HO2 := Lib.hid ho2
  have HB2 := Lib.hid hb2
  clear ho2 hb2 hT
  go_wp2_with fail
  go_ret
  exact ⟨_, rfl, HO2.out, HB2.out⟩
set_option maxRecDepth 100000 in
set_option maxHeartbeats 1600000 in
theorem rules_3 (w : World) (hT : Tabs w) : Calls Tryz.prog 79 #[.int .i64 3] w fun e w' => ∃ v, e = .returned v ∧ OwnRs w.heap.size w' v (cdR 3) ∧ Below w.heap.size w w' := by
  go_enter Tryz.func79, Tryz.ntmps79
  go_wp2_with fail
  refine (trules_any w hT.tc).mono ?_
  rintro e w2 ⟨v2, rfl, ho2, hb2⟩
  have HO2 := Lib.hid ho2
  have HB2 := Lib.hid hb2
  clear ho2 hb2 hT
  go_wp2_with fail
  go_ret
  exact ⟨_, rfl, HO2.out, HB2.out⟩
set_option maxRecDepth 100000 in
set_option maxHeartbeats 1600000 in
theorem rules_4 (w : World) (hT : Tabs w) : Calls Tryz.prog 79 #[.int .i64 4] w fun e w' => ∃ v, e = .returned v ∧ OwnRs w.heap.size w' v (cdR 4) ∧ Below w.heap.size w w' := by
  go_enter Tryz.func79, Tryz.ntmps79
  go_wp2_with fail
  refine (vnrules_any w hT.vn).mono ?_
  rintro e w2 ⟨v2, rfl, ho2, hb2⟩
  have HO2 := Lib.hid ho2
  have HB2 := Lib.hid hb2
  clear ho2 hb2 hT
  go_wp2_with fail
  go_ret
  exact ⟨_, rfl, HO2.out, HB2.out⟩
set_option maxRecDepth 100000 in
set_option maxHeartbeats 1600000 in
theorem rules_5 (w : World) (hT : Tabs w) : Calls Tryz.prog 79 #[.int .i64 5] w fun e w' => ∃ v, e = .returned v ∧ OwnRs w.heap.size w' v (cdR 5) ∧ Below w.heap.size w w' := by
  go_enter Tryz.func79, Tryz.ntmps79
  go_wp2_with fail
  refine (singles_th w).mono ?_
  rintro e w2 ⟨v2, rfl, ho2, hb2⟩
  have HO2 := Lib.hid ho2
  have HB2 := Lib.hid hb2
  clear ho2 hb2 hT
  go_wp2_with fail
  go_ret
  exact ⟨_, rfl, HO2.out, HB2.out⟩
set_option maxRecDepth 100000 in
set_option maxHeartbeats 1600000 in
theorem rules_6 (w : World) (hT : Tabs w) : Calls Tryz.prog 79 #[.int .i64 6] w fun e w' => ∃ v, e = .returned v ∧ OwnRs w.heap.size w' v (cdR 6) ∧ Below w.heap.size w w' := by
  go_enter Tryz.func79, Tryz.ntmps79
  go_wp2_with fail
  refine (tmrules_any w hT.tm).mono ?_
  rintro e w2 ⟨v2, rfl, ho2, hb2⟩
  have HO2 := Lib.hid ho2
  have HB2 := Lib.hid hb2
  clear ho2 hb2 hT
  go_wp2_with fail
  go_ret
  exact ⟨_, rfl, HO2.out, HB2.out⟩
theorem crules_any (k : Nat) (h1 : 1 ≤ k) (h6 : k ≤ 6) (w : World) (hT : Tabs w) : Calls Tryz.prog 79 #[.int .i64 (k : Int)] w fun e w' => ∃ v, e = .returned v ∧ OwnRs w.heap.size w' v (cdR k) ∧ Below w.heap.size w w' := by
  match k, h1, h6 with
  | 1, _, _ => exact rules_1 w hT
  | 2, _, _ => exact rules_2 w hT
  | 3, _, _ => exact rules_3 w hT
  | 4, _, _ => exact rules_4 w hT
  | 5, _, _ => exact rules_5 w hT
  | 6, _, _ => exact rules_6 w hT
theorem cdR_ne (k : Nat) (h1 : 1 ≤ k) (h6 : k ≤ 6) : 0 < (cdR k).length ∧ (cdR k).length ≤ 1024 := by
  match k, h1, h6 with
  | 1, _, _ => decide +kernel
  | 2, _, _ => decide +kernel
  | 3, _, _ => decide +kernel
  | 4, _, _ => decide +kernel
  | 5, _, _ => decide +kernel
  | 6, _, _ => decide +kernel
set_option maxRecDepth 100000 in
theorem slice_nil (g n c : Nat) : ∀ W : World, (binOp .eql 41 (.slice (Option.some ⟨g, 0, none⟩) n c) (.slice none 0 0)).run Tryz.prog W = .ok (.bool false) W := by
  intro W; simp only [binOp]; rfl
theorem OwnRs.some {base : Nat} {w : World} {v : Value} {rs : List Rl} (h : OwnRs base w v rs) (hp : 0 < rs.length) : ∃ g c, v = .slice (Option.some ⟨g, 0, none⟩) rs.length c := by
  obtain ⟨xs, ho, -⟩ := h
  rcases ho.2 with ⟨rfl, h2⟩ | ⟨g, cap, cur, h1, -⟩
  · have := ho.1
    omega
  · exact ⟨g, cap, h1⟩
set_option maxRecDepth 100000 in
set_option maxHeartbeats 1600000 in
theorem cof_any (k : Nat) (h1 : 1 ≤ k) (h6 : k ≤ 6) (w : World) (hT : Tabs w) : Calls Tryz.prog 48 #[.int .i64 (k : Int)] w fun e w' => ∃ T, e = .returned (.pointer (some ⟨T, 0, none⟩)) ∧ TabAt w' w'.heap.size T (cdR k) ∧ Stab w.heap.size w'.heap.size w' (fun W => TabAt W w'.heap.size T (cdR k)) ∧ w.heap.size ≤ T ∧ Below w.heap.size w w' := by
  have C1 := Lib.hid (crules_any k h1 h6 w hT)
  have HP := Lib.hid (cdR_p h1 h6)
  have HNE := Lib.hid (cdR_ne k h1 h6)
  clear hT
  go_enter Tryz.func48, Tryz.ntmps48
  go_wp2_with fail
  refine C1.out.mono ?_
  rintro e w1 ⟨v1, rfl, ho1, hb1⟩
  obtain ⟨g, c, rfl⟩ := ho1.some HNE.out.1
  obtain ⟨rs, hrs⟩ : ∃ rs, cdR k = rs := ⟨_, rfl⟩
  have HRS := Lib.hid hrs
  rw [hrs] at ho1 HP HNE ⊢
  have C2 := Lib.hid (tab_of_okS rs.length _ c rs w1.heap.size w1 ho1.at (Nat.le_refl _) HNE.out.2 HP.out.right HP.out.closed)
  obtain ⟨n, hn⟩ : ∃ n, rs.length = n := ⟨_, rfl⟩
  rw [hn] at C2 ⊢
  have HB1 := Lib.hid hb1
  have hnil := slice_nil g n c
  clear ho1 hb1 C1 hrs hn
  go_wp2_with fail
  refine C2.out.mono ?_
  rintro e w2 ⟨T, rfl, h2, h3, h4, h5⟩
  have HA := Lib.hid h2
  have HS := Lib.hid h3
  have HL := Lib.hid h4
  have HB2 := Lib.hid (HB1.out.trans (h5.mono HB1.out.size))
  clear h2 h3 h4 h5 C2
  go_wp2_with fail
  go_ret
  rw [HRS.out]
  exact ⟨T, rfl, HA.out, HS.out.mono HB1.out.size (Nat.le_refl _), Nat.le_trans HB1.out.size HL.out, HB2.out⟩
end Go.Proofs.YtapnefjiecabpaaGreatDoor
namespace Go.Proofs.YtapnefjiecabpaaGreatDoor
set_option linter.unusedVariables false
set_option linter.unusedSimpArgs false
set_option linter.unnecessarySimpa false
open Go.RowKit Go.Lib
/-- what the package looks at, but for ISCII's tables -/
structure CodOK (w : World) : Prop where
  tabs : Tabs w
  case : CaseVar 5 caseA w
  utf : Lib.Utf8Tabs 7 8 w
theorem CodOK.below {w w' : World} (h : CodOK w) (hb : Below w.heap.size w w') : CodOK w' := ⟨h.tabs.below hb, CaseVar_below h.case hb, Utf8Tabs_below h.utf hb⟩
theorem EAtF.lowL {L L' : Nat} {X : Nat → Prop} {w : World} {B p T : Nat} {rs : List Rl} {R : List Value} {q : List Int} {at_ st : Int} {ah : List Int} (h : EAtF L X w B p rs T R q at_ st ah) (hl : L' ≤ L) : EAtF L' X w B p rs T R q at_ st ah :=
  { h with tab := by obtain ⟨T0, ⟨a, b⟩, c⟩ := h.tab; exact ⟨T0, ⟨by omega, b.mono hl (Nat.le_refl _)⟩, c⟩ }
theorem find_nm (k : Nat) (hk : k < 8) (w : World) (h : CodOK w) : Calls Tryz.prog 45 #[.string (nmB k)] w fun e w' => e = .returned (.tuple #[.int .i64 (k : Int), .bool true]) ∧ Below w.heap.size w w' := by
  obtain ⟨h1, h2, h3⟩ := nm_low k hk
  exact cfind_any (nmB k) w h3 h.case h.utf (some k) (by rw [lowT_ascii _ h2]; exact h1)
set_option maxRecDepth 100000 in
set_option maxHeartbeats 1600000 in
theorem cdecode_any (k : Nat) (h1 : 1 ≤ k) (h6 : k ≤ 6) (w : World) (h : CodOK w) : Calls Tryz.prog 13 #[.string (nmB k)] w fun e w' => ∃ V, e = .returned (.tuple #[V, .int .i64 0]) ∧ DT k w.heap.size w'.heap.size w' V ∧ Below w.heap.size w w' := by
  have C1 := Lib.hid (find_nm k (by omega) w h)
  have HO := Lib.hid h
  obtain ⟨s, hs⟩ : ∃ s, nmB k = s := ⟨_, rfl⟩
  rw [hs] at C1 ⊢
  have hk0 : ¬ (k : Int) = 0 := by omega
  have hk7 : ¬ (k : Int) = 7 := by omega
  have e0 : ((k : Int) == 0) = false := by simpa using hk0
  have e7 : ((k : Int) == 7) = false := by simpa using hk7
  clear h hs
  go_enter Tryz.func13, Tryz.ntmps13
  go_wp2_with fail
  refine C1.out.mono ?_
  rintro e w1 ⟨rfl, hb1⟩
  have C2 := Lib.hid (cof_any k h1 h6 w1 (HO.out.below hb1).tabs)
  have HB1 := Lib.hid hb1
  clear hb1 C1
  go_wp2_with fail
  refine C2.out.mono ?_
  rintro e w2 ⟨T, rfl, ha, hst, hl, hb2⟩
  have C3 := Lib.hid (mdecode_anyS w2 w1.heap.size w2.heap.size T (cdR k) hst hl (Nat.le_refl _) hb2.size)
  have HB2 := Lib.hid (HB1.out.trans (hb2.mono HB1.out.size))
  have HS2 := Lib.hid hb2.size
  clear ha hst hl hb2 C2
  go_wp2_with fail
  refine C3.out.mono ?_
  rintro e w3 ⟨p, R, B', rfl, hT, hp, hB, hm, hb3⟩
  have HT := Lib.hid hT
  have HP := Lib.hid hp
  have HB' := Lib.hid hB
  have HM := Lib.hid hm
  have HB3 := Lib.hid (HB2.out.trans (hb3.mono HB2.out.size))
  clear hT hp hB hm hb3 C3
  go_wp2_with fail
  go_ret2
  have hs1 := HB1.out.size
  have hs2 := HS2.out
  have hB := HB'.out
  exact ⟨_, rfl, ⟨p, R, B', rfl, HT.out.mono (by omega) (Nat.le_refl _), by omega, HP.out, HM.out.lt, Nat.le_refl _, HM.out⟩, HB3.out⟩
set_option maxRecDepth 100000 in
set_option maxHeartbeats 1600000 in
theorem cencode_any (k : Nat) (h1 : 1 ≤ k) (h6 : k ≤ 6) (w : World) (h : CodOK w) : Calls Tryz.prog 26 #[.string (nmB k)] w fun e w' => ∃ V, e = .returned (.tuple #[V, .int .i64 0]) ∧ ET k w.heap.size w'.heap.size w' V ∧ Below w.heap.size w w' := by
  have C1 := Lib.hid (find_nm k (by omega) w h)
  have HO := Lib.hid h
  obtain ⟨s, hs⟩ : ∃ s, nmB k = s := ⟨_, rfl⟩
  rw [hs] at C1 ⊢
  have hk0 : ¬ (k : Int) = 0 := by omega
  have hk7 : ¬ (k : Int) = 7 := by omega
  have e0 : ((k : Int) == 0) = false := by simpa using hk0
  have e7 : ((k : Int) == 7) = false := by simpa using hk7
  clear h hs
  go_enter Tryz.func26, Tryz.ntmps26
  go_wp2_with fail
  refine C1.out.mono ?_
  rintro e w1 ⟨rfl, hb1⟩
  have C2 := Lib.hid (cof_any k h1 h6 w1 (HO.out.below hb1).tabs)
  have HB1 := Lib.hid hb1
  clear hb1 C1
  go_wp2_with fail
  refine C2.out.mono ?_
  rintro e w2 ⟨T, rfl, ha, hst, hl, hb2⟩
  have C3 := Lib.hid (mencode_anyF w2 w1.heap.size w2.heap.size T (cdR k) hst hl (Nat.le_refl _))
  have HB2 := Lib.hid (HB1.out.trans (hb2.mono HB1.out.size))
  have HS2 := Lib.hid hb2.size
  clear ha hst hl hb2 C2
  go_wp2_with fail
  refine C3.out.mono ?_
  rintro e w3 ⟨p, T', R, rfl, hp, hE, hb3⟩
  have HP := Lib.hid hp
  have HE := Lib.hid hE
  have HB3 := Lib.hid (HB2.out.trans (hb3.mono HB2.out.size))
  clear hp hE hb3 C3
  go_wp2_with fail
  go_ret2
  have hs1 := HB1.out.size
  have hs2 := HS2.out
  have hE := HE.out (fun _ => False) fun b hb => hb.elim
  exact ⟨_, rfl, ⟨p, T', _, R, rfl, by omega, hE.lt, Nat.le_refl _, hE.lowL (by omega)⟩, HB3.out⟩
end Go.Proofs.YtapnefjiecabpaaGreatDoor
