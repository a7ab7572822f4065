/- Texts of this seat, one behind the other: CdM, CdW. -/
import Derived.Test.YtmenjcdmdmngcaaGreatDoorZ21
import Derived.Test.YtmenjcdmdmngcaaGreatDoorZ29
import Derived.Test.YtmenjcdmdmngcaaGreatDoorZ31
import Derived.Test.YtmenjcdmdmngcaaGreatDoorZ27
import Derived.Test.YtmenjcdmdmngcaaGreatDoorZ7
namespace Go.Proofs.YtmenjcdmdmngcaaGreatDoor
set_option linter.unusedVariables false
set_option linter.unusedSimpArgs false
set_option linter.unnecessarySimpa false
open Go.RowKit
theorem lrules19_any (k : Nat) (h1 : 1 ≤ k) (h2 : k ≤ 6) (w : World) (hT : Tabs w) : Calls Tryz.prog 24 #[.int .i64 (k : Int)] w fun e w' => ∃ v, e = .returned v ∧ OwnRs w.heap.size w' v (cdR k) ∧ Below w.heap.size w w' := by
  match k, h1, h2 with
  | 1, _, _ => exact lrules19_1 w hT
  | 2, _, _ => exact lrules19_2 w hT
  | 3, _, _ => exact lrules19_3 w hT
  | 4, _, _ => exact lrules19_4 w hT
  | 5, _, _ => exact lrules19_5 w hT
  | 6, _, _ => exact lrules19_6 w hT
/-- a machine that nothing waits in, at the end: Held of each sort of them -/
def DHeld (w : World) (V : Value) : Prop :=
  (∃ p, V = .iface 69 (.pointer (some ⟨p, 0, none⟩)) ∧ Calls Tryz.prog 161 #[.pointer (some ⟨p, 0, none⟩)] w fun e w' => e = .returned (.int .i64 0) ∧ Below w.heap.size w w') ∨
  (∃ p, V = .iface 75 (.pointer (some ⟨p, 0, none⟩)) ∧ Calls Tryz.prog 169 #[.pointer (some ⟨p, 0, none⟩)] w fun e w' => e = .returned (.int .i64 0) ∧ Below w.heap.size w w') ∨
  (∃ p, V = .iface 117 (.agg #[.pointer (some ⟨p, 0, none⟩)]) ∧ Calls Tryz.prog 198 #[.pointer (some ⟨p, 0, none⟩)] w fun e w' => e = .returned (.int .i64 0) ∧ Below w.heap.size w w')
def EHeld (w : World) (V : Value) : Prop :=
  (∃ p, V = .iface 85 (.pointer (some ⟨p, 0, none⟩)) ∧ Calls Tryz.prog 182 #[.pointer (some ⟨p, 0, none⟩)] w fun e w' => e = .returned (.int .i64 0) ∧ Below w.heap.size w w') ∨
  (∃ p, V = .iface 88 (.pointer (some ⟨p, 0, none⟩)) ∧ Calls Tryz.prog 187 #[.pointer (some ⟨p, 0, none⟩)] w fun e w' => e = .returned (.int .i64 0) ∧ Below w.heap.size w w') ∨
  (∃ p, V = .iface 90 (.pointer (some ⟨p, 0, none⟩)) ∧ Calls Tryz.prog 191 #[.pointer (some ⟨p, 0, none⟩)] w fun e w' => e = .returned (.int .i64 0) ∧ Below w.heap.size w w')
/-- it is a machine -/
def IsM (V : Value) : Prop := ∃ T x, V = .iface T x
/-- letters made small, of ASCII -/
def lowC (c : UInt8) : UInt8 := if 65 ≤ c ∧ c ≤ 90 then c + 32 else c
def lowB (s : ByteArray) : ByteArray := ⟨(s.data.toList.map lowC).toArray⟩
def isAscii (s : ByteArray) : Bool := s.data.toList.all fun c => decide (c < 128)
/-- what a small name means -/
def nameB (s : ByteArray) : Option Nat :=
  if s.toList = "utf-8".toUTF8.toList ∨ s.toList = "utf8".toUTF8.toList then some 0
  else if s.toList = "ascii".toUTF8.toList ∨ s.toList = "us-ascii".toUTF8.toList then some 1
  else if s.toList = "viscii".toUTF8.toList ∨ s.toList = "viscii1.1-1".toUTF8.toList then some 2
  else if s.toList = "tcvn3".toUTF8.toList ∨ s.toList = "tcvn".toUTF8.toList ∨ s.toList = "abc".toUTF8.toList then some 3
  else if s.toList = "vni".toUTF8.toList ∨ s.toList = "vni-win".toUTF8.toList then some 4
  else if s.toList = "tis-620".toUTF8.toList ∨ s.toList = "tis620".toUTF8.toList ∨ s.toList = "iso-8859-11".toUTF8.toList then some 5
  else if s.toList = "tscii".toUTF8.toList then some 6
  else if s.toList = "iscii".toUTF8.toList ∨ s.toList = "iscii-91".toUTF8.toList then some 7
  else none
def nameV (o : Option Nat) : Value := match o with | some k => .tuple #[.string (nmB k), .int .i64 0] | none => .tuple #[.string ⟨#[]⟩, .int .i64 6]
/-- package codec's contracts. N: the codecs whose machines are told of. A machine lies in blocks from S to L, and such as it made since -/
structure CodApi where
  OK : World → Prop
  N : Nat → Prop
  keep : ∀ {w w' : World}, OK w → Below w.heap.size w w' → OK w'
  tabs : ∀ {w : World}, OK w → Tabs w
  names : ∀ w : World, OK w → Calls Tryz.prog 32 #[] w fun e w' => ∃ A c, e = .returned (.slice A 8 c) ∧ Below w.heap.size w w'
  name : ∀ (w : World) (s : ByteArray), s.size ≤ 1000 → OK w → ∃ t : ByteArray, (isAscii s = true → t = lowB s) ∧ Calls Tryz.prog 12 #[.string s] w fun e w' => e = .returned (nameV (nameB t)) ∧ Below w.heap.size w w'
  table : ∀ (w : World) (k : Nat), 1 ≤ k → k ≤ 6 → OK w → Calls Tryz.prog 23 #[.string (nmB k)] w fun e w' => ∃ T, e = .returned (.pointer (some ⟨T, 0, none⟩)) ∧ TabAt w' w'.heap.size T (cdR k) ∧ Below w.heap.size w w'
  notab : ∀ (w : World) (s : ByteArray), s = nmB 0 ∨ s = nmB 7 ∨ s = ⟨#[120]⟩ → OK w → Calls Tryz.prog 23 #[.string s] w fun e w' => e = .returned (.pointer none) ∧ Below w.heap.size w w'
  D : Nat → Nat → Nat → World → Value → Prop
  dfoot : ∀ {k S L : Nat} {w : World} {V : Value}, D k S L w V → S ≤ L ∧ L ≤ w.heap.size ∧ IsM V
  dstay : ∀ {k S L : Nat} {w w' : World} {V : Value}, D k S L w V → w.heap.size ≤ w'.heap.size → (∀ b, S ≤ b → b < L → w'.heap[b]? = w.heap[b]?) → D k S L w' V
  decode : ∀ (w : World) (k : Nat), k < 8 → N k → OK w → Calls Tryz.prog 15 #[.string (nmB k)] w fun e w' => ∃ V, e = .returned (.tuple #[V, .int .i64 0]) ∧ D k w.heap.size w'.heap.size w' V ∧ Below w.heap.size w w'
  dall : ∀ {k S L : Nat} {w : World} {V : Value} (n : Nat) (A : Option Addr) (c : Nat) (us : List Int) (ts : List Tk), D k S L w V → k < 8 → N k → (∀ w', MidR S L w w' → OK w') → us.length = n → Us (fun b => b < S ∨ L ≤ b) w (.slice A n c) us → n ≤ 20000 → (k = 0 → ∀ u ∈ us, 0 ≤ u ∧ u ≤ 255) → decL k us = ts →
    Calls Tryz.prog 16 #[V, .slice A n c] w fun e w' => ∃ v, e = .returned v ∧ OwnTkB w.heap.size w' v ts ∧ (∀ w2, w'.heap.size ≤ w2.heap.size → (∀ b, b < w'.heap.size → v.ownBlock ≠ some b → w2.heap[b]? = w'.heap[b]?) → DHeld w2 V) ∧ MidR S L w w'
  E : Nat → Nat → Nat → World → Value → Prop
  efoot : ∀ {k S L : Nat} {w : World} {V : Value}, E k S L w V → S ≤ L ∧ L ≤ w.heap.size ∧ IsM V
  estay : ∀ {k S L : Nat} {w w' : World} {V : Value}, E k S L w V → w.heap.size ≤ w'.heap.size → (∀ b, S ≤ b → b < L → w'.heap[b]? = w.heap[b]?) → E k S L w' V
  encode : ∀ (w : World) (k : Nat), k < 8 → N k → OK w → Calls Tryz.prog 20 #[.string (nmB k)] w fun e w' => ∃ V, e = .returned (.tuple #[V, .int .i64 0]) ∧ E k w.heap.size w'.heap.size w' V ∧ Below w.heap.size w w'
  encode8 : ∀ (w : World), N 0 → OK w → Calls Tryz.prog 20 #[.string ⟨#[117, 116, 102, 56]⟩] w fun e w' => ∃ V, e = .returned (.tuple #[V, .int .i64 0]) ∧ E 0 w.heap.size w'.heap.size w' V ∧ Below w.heap.size w w'
  eall : ∀ {k S L : Nat} {w : World} {V : Value} (n : Nat) (A : Option Addr) (c : Nat) (us : List Int) (ts : List Tk), E k S L w V → k < 8 → N k → (∀ w', MidR S L w w' → OK w') → us.length = n → Us (fun b => b < S ∨ L ≤ b) w (.slice A n c) us → n ≤ 20000 → encK k us = ts →
    Calls Tryz.prog 16 #[V, .slice A n c] w fun e w' => ∃ v, e = .returned v ∧ OwnTkB w.heap.size w' v ts ∧ (∀ w2, w'.heap.size ≤ w2.heap.size → (∀ b, b < w'.heap.size → v.ownBlock ≠ some b → w2.heap[b]? = w'.heap[b]?) → EHeld w2 V) ∧ MidR S L w w'
section
variable {I : CodApi} {k S L : Nat} {w w' : World} {V : Value}
theorem dB (h : I.D k S L w V) (hb : Below w.heap.size w w') : I.D k S L w' V := I.dstay h hb.size fun b h1 h2 => hb.block b (Nat.lt_of_lt_of_le h2 (I.dfoot h).2.1)
theorem eB (h : I.E k S L w V) (hb : Below w.heap.size w w') : I.E k S L w' V := I.estay h hb.size fun b h1 h2 => hb.block b (Nat.lt_of_lt_of_le h2 (I.efoot h).2.1)
/-- another machine's blocks are written -/
theorem dM (h : I.D k S L w V) {S' L' : Nat} (hm : MidR S' L' w w') (h2 : L ≤ S' ∨ L' ≤ S) : I.D k S L w' V := I.dstay h hm.size fun b h3 h4 => hm.block b (Nat.lt_of_lt_of_le h4 (I.dfoot h).2.1) (by omega)
theorem eM (h : I.E k S L w V) {S' L' : Nat} (hm : MidR S' L' w w') (h2 : L ≤ S' ∨ L' ≤ S) : I.E k S L w' V := I.estay h hm.size fun b h3 h4 => hm.block b (Nat.lt_of_lt_of_le h4 (I.efoot h).2.1) (by omega)
end

set_option maxRecDepth 100000 in
theorem isM_nil {V : Value} (h : IsM V) : ∀ W : World, (binOp .eql 34 V .nilIface).run Tryz.prog W = .ok (.bool false) W := by
  obtain ⟨T, x, rfl⟩ := h
  intro W; simp only [binOp]; rfl
set_option maxRecDepth 100000 in
theorem isM_guard {V : Value} (h : IsM V) : ∀ (a b : Operand) (W : World), (eqGuard .eql 34 a b V .nilIface).run Tryz.prog W = .ok () W := by
  obtain ⟨T, x, rfl⟩ := h
  intro a b W; rfl
end Go.Proofs.YtmenjcdmdmngcaaGreatDoor
namespace Go.Proofs.YtmenjcdmdmngcaaGreatDoor
set_option linter.unusedVariables false
set_option linter.unusedSimpArgs false
set_option linter.unnecessarySimpa false
open Go.RowKit
theorem dec5_two : decL 5 [161, 219] = [⟨0, 1, [3585], 0⟩, ⟨1, 1, [], 3⟩] := by
  rw [decL_t (by decide) (by decide)]
  rw [rewA_cons (o := [3585]) (s := 1) (e := 0) (by simp) (by decide +kernel) (by omega)]
  show _ :: rewA (cdR 5) 1 [219] = _
  rw [rewA_cons (o := []) (s := 1) (e := 3) (by simp) (by decide +kernel) (by omega)]
  show _ :: _ :: rewA (cdR 5) 2 [] = _
  rw [rewA_nil]
theorem below_allocC (w : World) (o : Obj) : Below w.heap.size w (w.alloc o) := (Below.refl _ w).alloc (Nat.le_refl _) o
set_option maxRecDepth 100000 in
set_option maxHeartbeats 3200000 in
theorem awake19_any (I : CodApi) (h5 : I.N 5) (w : World) (hI : I.OK w) : Calls Tryz.prog 10 #[] w fun e w' => e = .returned (.bool true) ∧ Below w.heap.size w w' := by
  obtain ⟨t1, ht1, hc1⟩ := I.name w ⟨#[65, 66, 67]⟩ (by decide) hI
  have hn1 : nameB t1 = some 3 := by rw [ht1 (by decide +kernel)]; decide +kernel
  rw [hn1] at hc1
  have HI := Lib.hid hI
  have C1 : Hid (Calls Tryz.prog 12 #[.string ⟨#[65, 66, 67]⟩] w fun e w' => e = .returned (.tuple #[.string (nmB 3), .int .i64 0]) ∧ Below w.heap.size w w') := hc1
  clear hc1 ht1 hn1 hI
  go_enter Tryz.func10, Tryz.ntmps10
  go_wp2_with fail
  refine C1.out.mono ?_
  rintro e w1 ⟨rfl, hb1⟩
  have HI1 := Lib.hid (I.keep HI.out hb1)
  have HB1 := Lib.hid hb1
  obtain ⟨t2, ht2, hc2⟩ := I.name w1 ⟨#[108, 97, 116, 105, 110, 45, 49]⟩ (by decide) HI1.out
  have hn2 : nameB t2 = none := by rw [ht2 (by decide +kernel)]; decide +kernel
  rw [hn2] at hc2
  have C2 : Hid (Calls Tryz.prog 12 #[.string ⟨#[108, 97, 116, 105, 110, 45, 49]⟩] w1 fun e w' => e = .returned (.tuple #[.string ⟨#[]⟩, .int .i64 6]) ∧ Below w1.heap.size w1 w') := hc2
  clear hc2 ht2 hn2 hb1 C1
  go_wp2_with fail
  refine C2.out.mono ?_
  rintro e w2 ⟨rfl, hb2⟩
  have HI2 := Lib.hid (I.keep HI1.out hb2)
  have HB2 := Lib.hid (HB1.out.trans (hb2.mono HB1.out.size))
  have C3 := Lib.hid (I.decode w2 5 (by decide) h5 HI2.out)
  clear hb2 C2 HI1 HB1
  go_wp2_with fail
  refine C3.out.mono ?_
  rintro e w3 ⟨V, rfl, hd3, hb3⟩
  have hnil := isM_nil (I.dfoot hd3).2.2
  have hgd := isM_guard (I.dfoot hd3).2.2
  have HI3 := Lib.hid (I.keep HI2.out hb3)
  have HB3 := Lib.hid (HB2.out.trans (hb3.mono HB2.out.size))
  have hu4 := (us_newL w3 w3.heap.size rfl [161, 219] #[.int .i64 161, .int .i64 219] rfl 2 rfl (by simp [maxLen])).step (Y := fun b => b < w2.heap.size ∨ w3.heap.size ≤ b) (Nat.le_refl _) (fun b _ h => ⟨.inr (by omega), rfl⟩)
  have C4 := Lib.hid (I.dall (w := w3.alloc (.cells #[.int .i64 161, .int .i64 219] 3)) 2 _ 2 [161, 219] _ (dB hd3 (below_allocC _ _)) (by decide) h5 (fun W hm => I.keep HI2.out ((hb3.trans ((below_allocC _ _).mono hb3.size)).trans (hm.below (Nat.le_refl _) (by have := hb3.size; simp; omega)))) rfl hu4 (by decide) (by decide) dec5_two)
  have HS2 := Lib.hid HB2.out.size
  have HS3 := Lib.hid hb3.size
  have HA3 := Lib.hid (below_allocC w3 (.cells #[.int .i64 161, .int .i64 219] 3))
  have HB23 := Lib.hid hb3
  clear hb3 hd3 hu4 C3 HB2
  go_wp2_with fail
  refine C4.out.mono ?_
  rintro e w4 ⟨v4, rfl, ho4, -, hm4⟩
  obtain ⟨A4, c4, rfl, hat4⟩ := ho4.form
  have HAT4 := Lib.hid hat4
  have HB4 := Lib.hid (HB3.out.trans ((HA3.out.mono HB3.out.size).trans (hm4.below HS2.out (by have := HB3.out.size; simp; omega))))
  have HI4 := Lib.hid (I.keep HI.out HB4.out)
  have hs4 := HB4.out.size
  clear ho4 hat4 hm4 C4
  go_wp2_with fail
  refine (unitsT_any 2 A4 c4 _ w4.heap.size w4 HAT4.out (Nat.le_refl _) (by decide) [3585] ⟨1, 1, [], 3⟩ 1 0 rfl rfl rfl rfl).mono ?_
  rintro e w5 ⟨A5, c5, A6, c6, rfl, hu5, hu6, hb5⟩
  have HB5 := Lib.hid (HB4.out.trans (hb5.mono HB4.out.size))
  have HI5 := Lib.hid (I.keep HI4.out hb5)
  have HU5 := Lib.hid hu5
  clear hu5 hu6 hb5
  have hq3 : ((nmB 3).toList == [116, 99, 118, 110, 51]) = true := by decide +kernel
  go_wp2_with fail
  obtain ⟨W6, hW6⟩ : ∃ W6, w5.alloc (.cells #[.int .i64 1, .int .i64 1, .slice A6 0 c6, .int .i64 3] 47) = W6 := ⟨_, rfl⟩
  have hb6 : Below w5.heap.size w5 W6 := by rw [← hW6]; exact below_allocC _ _
  have hc6 : W6.cell? ⟨w5.heap.size, 0, none⟩ = some (.int .i64 1) := by rw [← hW6]; exact (Held.new w5 #[.int .i64 1, .int .i64 1, .slice A6 0 c6, .int .i64 3] 47).cell 0
  have hs6 : W6.heap.size = w5.heap.size + 1 := by rw [← hW6]; simp
  rw [hW6]
  rw [show w5.heap.size + 1 = W6.heap.size from hs6.symm]
  have hu7 : RI (W6.alloc (.cells #[.int .i64 3585] 3)) (some ⟨W6.heap.size, 0, none⟩) [3585] := rd_new_ints W6 .i64 [3585] _ #[.int .i64 3585] rfl
  have hu5 : RI (W6.alloc (.cells #[.int .i64 3585] 3)) A5 [3585] := by
    obtain ⟨A', c', e, _, _, h⟩ := HU5.out
    injection e with e1 e2 e3
    subst e1
    exact ((h.rd (Nat.le_refl _)).below hb6 hb6.size).below (below_allocC _ _) (below_allocC _ _).size
  refine (units_any 1 1 A5 _ c5 1 [3585] [3585] _ rfl rfl rfl hu5 hu7 (by simp)).mono ?_
  rintro e w8 ⟨rfl, hb8⟩
  have hb68 : Below W6.heap.size W6 w8 := (below_allocC _ _).trans (hb8.mono (by simp))
  have hb58 : Below w5.heap.size w5 w8 := hb6.trans (hb68.mono (by omega))
  have hc8 : w8.cell? ⟨w5.heap.size, 0, none⟩ = some (.int .i64 1) := (hb68.cell (p := ⟨w5.heap.size, 0, none⟩) (by show w5.heap.size < W6.heap.size; omega)).trans hc6
  have HB8 := Lib.hid (HB5.out.trans (hb58.mono HB5.out.size))
  have C9 := Lib.hid (I.names w8 (I.keep HI5.out hb58))
  clear hb6 hc6 hs6 hu7 hu5 hb8 hb68 hb58 hW6 hq3
  go_wp2_with fail
  refine C9.out.mono ?_
  rintro e w9 ⟨A9, c9, rfl, hb9⟩
  have HB9 := Lib.hid (HB8.out.trans (hb9.mono HB8.out.size))
  clear hb9 C9
  go_wp2_with fail
  go_ret
  exact ⟨rfl, HB9.out⟩
end Go.Proofs.YtmenjcdmdmngcaaGreatDoor
