/- Texts of this seat, one behind the other: CdL, CdLn, CdLr, CdLx. -/
import Derived.Test.YtmenjcdmdmngcaaGreatDoorZ32
import Derived.Test.YtmenjcdmdmngcaaGreatDoorZ35
import Derived.Test.YtmenjcdmdmngcaaGreatDoorZ33
import Derived.Maps.OwnSet
import Derived.Carry
import Derived.Lib.MapLaws
import Derived.Test.YtmenjcdmdmngcaaGreatDoorZ21
import Derived.Test.YtmenjcdmdmngcaaGreatDoorZ34
namespace Go.Proofs.YtmenjcdmdmngcaaGreatDoor
set_option linter.unusedVariables false
set_option linter.unusedSimpArgs false
set_option linter.unnecessarySimpa false
open Go.RowKit Go.Maps
/-- what a name means among pairs -/
def lookS (ps : List (List UInt8 × Int)) (s : List UInt8) : Option Int := (ps.find? fun p => p.1 == s).map (·.2)
theorem lookS_app (ps : List (List UInt8 × Int)) (p : List UInt8 × Int) (s : List UInt8) (hn : lookS ps p.1 = none) : lookS (ps ++ [p]) s = if s = p.1 then some p.2 else lookS ps s := by
  unfold lookS at *
  rw [List.find?_append]
  by_cases e : s = p.1
  · subst e
    rw [if_pos rfl]
    have h : List.find? (fun q : List UInt8 × Int => q.1 == p.1) ps = none := by simpa using hn
    rw [h]; simp
  · rw [if_neg e]
    cases h : List.find? (fun q : List UInt8 × Int => q.1 == s) ps with
    | some x => simp
    | none => simp [beq_eq_false_iff_ne.2 (Ne.symm e)]
/-- the map's datum has just the pairs -/
structure DictS (D : DataW Unit) (ps : List (List UInt8 × Int)) : Prop where
  is : IsMap D
  has : ∀ s, Maps.has D (.string s) = (lookS ps s).isSome
  val : ∀ s, D.atKey (.string s) (.lit (.int .i64 0)) = .lit (.int .i64 ((lookS ps s).getD 0))
theorem DictS.nil : DictS (.map []) [] := ⟨isMap_empty, fun z => rfl, fun z => rfl⟩
theorem DictS.put {D : DataW Unit} {ps : List (List UInt8 × Int)} (h : DictS D ps) {p : List UInt8 × Int} (hn : lookS ps p.1 = none) : DictS (D.put (.string p.1) (.lit (.int .i64 p.2))) (ps ++ [p]) := by
  have hk : WideAt.IsKeyLit (.string p.1) := trivial
  refine ⟨h.is.put _ _, fun z => ?_, fun z => ?_⟩
  · rw [lookS_app ps p z hn]
    by_cases e : z = p.1
    · subst e; rw [if_pos rfl, has_put_same h.is hk]; rfl
    · rw [if_neg e, has_put_other (by simpa using e), h.has]
  · rw [lookS_app ps p z hn]
    by_cases e : z = p.1
    · subst e; rw [if_pos rfl, atKey_put_same h.is hk]; rfl
    · rw [if_neg e, atKey_put_other (by simpa using e)]; exact h.val z
/-- the other names -/
def othP : List (List UInt8 × Int) := [([117, 116, 102, 56], 0), ([117, 115, 45, 97, 115, 99, 105, 105], 1), ([118, 105, 115, 99, 105, 105, 49, 46, 49, 45, 49], 2), ([116, 99, 118, 110], 3), ([97, 98, 99], 3), ([118, 110, 105, 45, 119, 105, 110], 4), ([116, 105, 115, 54, 50, 48], 5), ([105, 115, 111, 45, 56, 56, 53, 57, 45, 49, 49], 5), ([105, 115, 99, 105, 105, 45, 57, 49], 7)]
theorem nm0 : (nmB 0).toList = [117, 116, 102, 45, 56] := by decide +kernel
theorem nm1 : (nmB 1).toList = [97, 115, 99, 105, 105] := by decide +kernel
theorem nm2 : (nmB 2).toList = [118, 105, 115, 99, 105, 105] := by decide +kernel
theorem nm3 : (nmB 3).toList = [116, 99, 118, 110, 51] := by decide +kernel
theorem nm4 : (nmB 4).toList = [118, 110, 105] := by decide +kernel
theorem nm5 : (nmB 5).toList = [116, 105, 115, 45, 54, 50, 48] := by decide +kernel
theorem nm6 : (nmB 6).toList = [116, 115, 99, 105, 105] := by decide +kernel
theorem nm7 : (nmB 7).toList = [105, 115, 99, 105, 105] := by decide +kernel
/-- what a small name means, by its bytes -/
def nameL (l : List UInt8) : Option Nat :=
  if l = [117, 116, 102, 45, 56] ∨ l = [117, 116, 102, 56] then some 0
  else if l = [97, 115, 99, 105, 105] ∨ l = [117, 115, 45, 97, 115, 99, 105, 105] then some 1
  else if l = [118, 105, 115, 99, 105, 105] ∨ l = [118, 105, 115, 99, 105, 105, 49, 46, 49, 45, 49] then some 2
  else if l = [116, 99, 118, 110, 51] ∨ l = [116, 99, 118, 110] ∨ l = [97, 98, 99] then some 3
  else if l = [118, 110, 105] ∨ l = [118, 110, 105, 45, 119, 105, 110] then some 4
  else if l = [116, 105, 115, 45, 54, 50, 48] ∨ l = [116, 105, 115, 54, 50, 48] ∨ l = [105, 115, 111, 45, 56, 56, 53, 57, 45, 49, 49] then some 5
  else if l = [116, 115, 99, 105, 105] then some 6
  else if l = [105, 115, 99, 105, 105] ∨ l = [105, 115, 99, 105, 105, 45, 57, 49] then some 7
  else none
theorem nameB_L (t : ByteArray) : nameB t = nameL t.toList := by
  unfold nameB nameL
  rw [show "utf-8".toUTF8.toList = [117, 116, 102, 45, 56] by decide +kernel, show "utf8".toUTF8.toList = [117, 116, 102, 56] by decide +kernel,
    show "ascii".toUTF8.toList = [97, 115, 99, 105, 105] by decide +kernel, show "us-ascii".toUTF8.toList = [117, 115, 45, 97, 115, 99, 105, 105] by decide +kernel,
    show "viscii".toUTF8.toList = [118, 105, 115, 99, 105, 105] by decide +kernel, show "viscii1.1-1".toUTF8.toList = [118, 105, 115, 99, 105, 105, 49, 46, 49, 45, 49] by decide +kernel,
    show "tcvn3".toUTF8.toList = [116, 99, 118, 110, 51] by decide +kernel, show "tcvn".toUTF8.toList = [116, 99, 118, 110] by decide +kernel, show "abc".toUTF8.toList = [97, 98, 99] by decide +kernel,
    show "vni".toUTF8.toList = [118, 110, 105] by decide +kernel, show "vni-win".toUTF8.toList = [118, 110, 105, 45, 119, 105, 110] by decide +kernel,
    show "tis-620".toUTF8.toList = [116, 105, 115, 45, 54, 50, 48] by decide +kernel, show "tis620".toUTF8.toList = [116, 105, 115, 54, 50, 48] by decide +kernel, show "iso-8859-11".toUTF8.toList = [105, 115, 111, 45, 56, 56, 53, 57, 45, 49, 49] by decide +kernel,
    show "tscii".toUTF8.toList = [116, 115, 99, 105, 105] by decide +kernel,
    show "iscii".toUTF8.toList = [105, 115, 99, 105, 105] by decide +kernel, show "iscii-91".toUTF8.toList = [105, 115, 99, 105, 105, 45, 57, 49] by decide +kernel]
theorem nameL_first (l : List UInt8) (k : Nat) (hk : k < 8) (h : (nmB k).toList = l) : nameL l = some k := by
  subst h
  match k, hk with
  | 0, _ => decide +kernel
  | 1, _ => decide +kernel
  | 2, _ => decide +kernel
  | 3, _ => decide +kernel
  | 4, _ => decide +kernel
  | 5, _ => decide +kernel
  | 6, _ => decide +kernel
  | 7, _ => decide +kernel
theorem nameL_other (l : List UInt8) (h : ∀ j, j < 8 → (nmB j).toList ≠ l) : nameL l = (lookS othP l).map Int.toNat := by
  have h0 := h 0 (by decide)
  have h1 := h 1 (by decide)
  have h2 := h 2 (by decide)
  have h3 := h 3 (by decide)
  have h4 := h 4 (by decide)
  have h5 := h 5 (by decide)
  have h6 := h 6 (by decide)
  have h7 := h 7 (by decide)
  rw [nm0] at h0
  rw [nm1] at h1
  rw [nm2] at h2
  rw [nm3] at h3
  rw [nm4] at h4
  rw [nm5] at h5
  rw [nm6] at h6
  rw [nm7] at h7
  clear h
  by_cases c0 : l = [117, 116, 102, 56]
  · subst c0; decide +kernel
  by_cases c1 : l = [117, 115, 45, 97, 115, 99, 105, 105]
  · subst c1; decide +kernel
  by_cases c2 : l = [118, 105, 115, 99, 105, 105, 49, 46, 49, 45, 49]
  · subst c2; decide +kernel
  by_cases c3 : l = [116, 99, 118, 110]
  · subst c3; decide +kernel
  by_cases c4 : l = [97, 98, 99]
  · subst c4; decide +kernel
  by_cases c5 : l = [118, 110, 105, 45, 119, 105, 110]
  · subst c5; decide +kernel
  by_cases c6 : l = [116, 105, 115, 54, 50, 48]
  · subst c6; decide +kernel
  by_cases c7 : l = [105, 115, 111, 45, 56, 56, 53, 57, 45, 49, 49]
  · subst c7; decide +kernel
  by_cases c8 : l = [105, 115, 99, 105, 105, 45, 57, 49]
  · subst c8; decide +kernel
  have e1 : nameL l = none := by
    unfold nameL
    simp only [Ne.symm h0, Ne.symm h1, Ne.symm h2, Ne.symm h3, Ne.symm h4, Ne.symm h5, Ne.symm h6, Ne.symm h7, c0, c1, c2, c3, c4, c5, c6, c7, c8, or_self, if_false]
  have e2 : lookS othP l = none := by
    unfold lookS othP
    simp [List.find?, beq_eq_false_iff_ne.2 (Ne.symm c0), beq_eq_false_iff_ne.2 (Ne.symm c1), beq_eq_false_iff_ne.2 (Ne.symm c2), beq_eq_false_iff_ne.2 (Ne.symm c3), beq_eq_false_iff_ne.2 (Ne.symm c4), beq_eq_false_iff_ne.2 (Ne.symm c5), beq_eq_false_iff_ne.2 (Ne.symm c6), beq_eq_false_iff_ne.2 (Ne.symm c7), beq_eq_false_iff_ne.2 (Ne.symm c8)]
  rw [e1, e2]; rfl
/-- made small -/
def lowT (s : ByteArray) : ByteArray := ⟨(Lib.toLowerD s.data.toList).toArray⟩
theorem enc_le4 (r : Int) : (Lib.encodeRune r).length ≤ 4 := by
  unfold Lib.encodeRune Lib.encodeRuneZ
  rw [List.length_map]
  repeat' split
  all_goals simp
theorem low_len4 (f : Int → Int) : ∀ (n : Nat) (l : List UInt8), l.length ≤ n → (Lib.mapD f l).length ≤ 4 * l.length
  | 0, l, hn => by
    obtain rfl : l = [] := List.eq_nil_of_length_eq_zero (by omega)
    simp [Lib.mapD_nil]
  | n + 1, l, hn => by
    by_cases hne : l = []
    · subst hne; simp [Lib.mapD_nil]
    have hw := Lib.decodeL_width l
    have hle := Lib.decodeL_le l hne
    have ih := low_len4 f n (l.drop (Lib.decodeL l).2) (by rw [List.length_drop]; omega)
    rw [List.length_drop] at ih
    rw [Lib.mapD_step f l hne, List.length_append]
    have hh : (if 0 ≤ f (Lib.decodeL l).1 then Lib.encodeRune (f (Lib.decodeL l).1) else []).length ≤ 4 := by
      split
      · exact enc_le4 _
      · simp
    omega
theorem lowT_size (s : ByteArray) : (lowT s).size ≤ 4 * s.size := by
  have h := low_len4 Lib.toLowerU _ s.data.toList (Nat.le_refl _)
  have e : s.data.toList.length = s.size := rfl
  rw [e] at h
  exact h
theorem low_all : ∀ i : Fin 256, Lib.lowerB (UInt8.ofNat i.val) = lowC (UInt8.ofNat i.val) := by decide +kernel
theorem low_same (b : UInt8) : Lib.lowerB b = lowC b := by
  have h := low_all ⟨b.toNat, b.toNat_lt⟩
  simpa using h
theorem lowT_ascii (s : ByteArray) (h : isAscii s = true) : lowT s = lowB s := by
  have ha : ∀ b ∈ s.data.toList, b.toNat < 128 := fun b hb => by
    have := of_decide_eq_true (List.all_eq_true.1 h b hb)
    exact UInt8.lt_iff_toNat_lt.1 this
  unfold lowT lowB Lib.toLowerD
  rw [show Lib.mapD Lib.toLowerU s.data.toList = Lib.toLowerD s.data.toList from rfl, Go.Lib.toLowerD_ascii _ ha]
  have e : Lib.toLowerA s.data.toList = s.data.toList.map lowC := List.map_congr_left fun b _ => low_same b
  rw [e]
/-- 'Op.insert', as a map's literal has it, runs as 'm[k] = v' does -/
theorem wpList_insert_own {H : Type} {P : Program} (w : World) {ops : Array Oper} {rest : List Oper} {o : Oper} {a : Act} {Q : Exit → Act → World → Prop}
    (hg : o.guard = none) (m x v : Operand) (t : TypeId) (hop : o.op = Op.insert t m x v)
    (k e : TypeId) (K : Keyed P k) (ht : P.underlying t = some (.map k e)) (R : Value → Option (DataW H × List MemPlace)) (b n : Nat) (D : DataW H)
    (hm : a.eval m = .map (some b)) (hown : w.ownsMap P k R b n D) (hn : n < maxLen) (key val : Value) (kl : Lit) (hx : a.eval x = key) (hv : a.eval v = val) (hkey : keyOf P k key = some kl)
    (d : DataW H) (ps : List MemPlace) (hval : R val = some (d, ps))
    (hK : ∀ w', w'.ownsMap P k R b (n + 1) (D.put kl d) → w.grownBy w' (some b) → wpList P ops Q rest (a.put o.dst undef) w') :
    wpList P ops Q (o :: rest) a w := by
  refine wpList_plain hg fun K' hK' => ?_
  obtain ⟨w', hrun, r1, r2⟩ := hown.update K ht hn hkey hval
  unfold Oper.wp
  simp [execOp, hop, hm, hx, hv, hrun, Result.andThen]
  exact hK' _ _ (hK w' r1 r2)
theorem lawS : Keyed Tryz.prog 9 := string_keyed Tryz.underlying9
theorem zeroInt (w : World) : (zeroValue 3).run Tryz.prog w = .ok (.int .i64 0) w := by kernel_rfl
/-- a map of names in block g -/
def MapS (w : World) (g n : Nat) (ps : List (List UInt8 × Int)) : Prop := ∃ D : DataW Unit, w.ownsMap Tryz.prog 9 (plainElem Tryz.prog 3) g n D ∧ DictS D ps
set_option maxRecDepth 100000 in
set_option maxHeartbeats 3200000 in
theorem others_any (w : World) : Calls Tryz.prog 57 #[] w fun e w' => ∃ g, e = .returned (.map (some g)) ∧ MapS w' g 9 othP ∧ w.heap.size ≤ g ∧ Below w.heap.size w w' := by
  have hmm := @run_makeMap Tryz.prog
  have HB0 := Lib.hid ((Below.refl w.heap.size w).alloc (Nat.le_refl _) (.map #[] 0))
  have HM0 := Lib.hid (World.ownsMap_made w Tryz.prog 9 (plainElem (H := Unit) Tryz.prog 3))
  have HD0 := Lib.hid DictS.nil
  go_enter Tryz.func57, Tryz.ntmps57
  go_wp2_with (refine wpList_insert_own _ rfl _ _ _ 108 rfl 9 3 lawS Tryz.underlying108 _ w.heap.size 0 (.map []) rfl HM0.out (by decide) _ _ (.string [117, 116, 102, 56]) rfl rfl (WideMaps.keyOf_string_mk Tryz.underlying9 (by decide)) (.lit (.int .i64 0)) [] (plainElem_int Tryz.underlying3 (by decide)) ?_)
  intro w1 hm1 hg1
  have HM1 := Lib.hid hm1
  have HD1 := Lib.hid (HD0.out.put (p := ([117, 116, 102, 56], 0)) (by decide +kernel))
  have HB1 := Lib.hid (HB0.out.grown hg1 (by have := HB0.out.size; omega) (fun k hk => by injection hk with hk; omega))
  clear hm1 hg1
  obtain ⟨D1, hD1⟩ : ∃ D, ((.map []) : DataW Unit).put (.string [117, 116, 102, 56]) (.lit (.int .i64 0)) = D := ⟨_, rfl⟩
  simp only [hD1] at HM1 HD1
  clear hD1
  go_wp2_with (refine wpList_insert_own _ rfl _ _ _ 108 rfl 9 3 lawS Tryz.underlying108 _ w.heap.size 1 D1 rfl HM1.out (by decide) _ _ (.string [117, 115, 45, 97, 115, 99, 105, 105]) rfl rfl (WideMaps.keyOf_string_mk Tryz.underlying9 (by decide)) (.lit (.int .i64 1)) [] (plainElem_int Tryz.underlying3 (by decide)) ?_)
  intro w2 hm2 hg2
  have HM2 := Lib.hid hm2
  have HD2 := Lib.hid (HD1.out.put (p := ([117, 115, 45, 97, 115, 99, 105, 105], 1)) (by decide +kernel))
  have HB2 := Lib.hid (HB1.out.grown hg2 (by have := HB1.out.size; omega) (fun k hk => by injection hk with hk; omega))
  clear hm2 hg2
  obtain ⟨D2, hD2⟩ : ∃ D, (D1 : DataW Unit).put (.string [117, 115, 45, 97, 115, 99, 105, 105]) (.lit (.int .i64 1)) = D := ⟨_, rfl⟩
  simp only [hD2] at HM2 HD2
  clear hD2
  go_wp2_with (refine wpList_insert_own _ rfl _ _ _ 108 rfl 9 3 lawS Tryz.underlying108 _ w.heap.size 2 D2 rfl HM2.out (by decide) _ _ (.string [118, 105, 115, 99, 105, 105, 49, 46, 49, 45, 49]) rfl rfl (WideMaps.keyOf_string_mk Tryz.underlying9 (by decide)) (.lit (.int .i64 2)) [] (plainElem_int Tryz.underlying3 (by decide)) ?_)
  intro w3 hm3 hg3
  have HM3 := Lib.hid hm3
  have HD3 := Lib.hid (HD2.out.put (p := ([118, 105, 115, 99, 105, 105, 49, 46, 49, 45, 49], 2)) (by decide +kernel))
  have HB3 := Lib.hid (HB2.out.grown hg3 (by have := HB2.out.size; omega) (fun k hk => by injection hk with hk; omega))
  clear hm3 hg3
  obtain ⟨D3, hD3⟩ : ∃ D, (D2 : DataW Unit).put (.string [118, 105, 115, 99, 105, 105, 49, 46, 49, 45, 49]) (.lit (.int .i64 2)) = D := ⟨_, rfl⟩
  simp only [hD3] at HM3 HD3
  clear hD3
  go_wp2_with (refine wpList_insert_own _ rfl _ _ _ 108 rfl 9 3 lawS Tryz.underlying108 _ w.heap.size 3 D3 rfl HM3.out (by decide) _ _ (.string [116, 99, 118, 110]) rfl rfl (WideMaps.keyOf_string_mk Tryz.underlying9 (by decide)) (.lit (.int .i64 3)) [] (plainElem_int Tryz.underlying3 (by decide)) ?_)
  intro w4 hm4 hg4
  have HM4 := Lib.hid hm4
  have HD4 := Lib.hid (HD3.out.put (p := ([116, 99, 118, 110], 3)) (by decide +kernel))
  have HB4 := Lib.hid (HB3.out.grown hg4 (by have := HB3.out.size; omega) (fun k hk => by injection hk with hk; omega))
  clear hm4 hg4
  obtain ⟨D4, hD4⟩ : ∃ D, (D3 : DataW Unit).put (.string [116, 99, 118, 110]) (.lit (.int .i64 3)) = D := ⟨_, rfl⟩
  simp only [hD4] at HM4 HD4
  clear hD4
  go_wp2_with (refine wpList_insert_own _ rfl _ _ _ 108 rfl 9 3 lawS Tryz.underlying108 _ w.heap.size 4 D4 rfl HM4.out (by decide) _ _ (.string [97, 98, 99]) rfl rfl (WideMaps.keyOf_string_mk Tryz.underlying9 (by decide)) (.lit (.int .i64 3)) [] (plainElem_int Tryz.underlying3 (by decide)) ?_)
  intro w5 hm5 hg5
  have HM5 := Lib.hid hm5
  have HD5 := Lib.hid (HD4.out.put (p := ([97, 98, 99], 3)) (by decide +kernel))
  have HB5 := Lib.hid (HB4.out.grown hg5 (by have := HB4.out.size; omega) (fun k hk => by injection hk with hk; omega))
  clear hm5 hg5
  obtain ⟨D5, hD5⟩ : ∃ D, (D4 : DataW Unit).put (.string [97, 98, 99]) (.lit (.int .i64 3)) = D := ⟨_, rfl⟩
  simp only [hD5] at HM5 HD5
  clear hD5
  go_wp2_with (refine wpList_insert_own _ rfl _ _ _ 108 rfl 9 3 lawS Tryz.underlying108 _ w.heap.size 5 D5 rfl HM5.out (by decide) _ _ (.string [118, 110, 105, 45, 119, 105, 110]) rfl rfl (WideMaps.keyOf_string_mk Tryz.underlying9 (by decide)) (.lit (.int .i64 4)) [] (plainElem_int Tryz.underlying3 (by decide)) ?_)
  intro w6 hm6 hg6
  have HM6 := Lib.hid hm6
  have HD6 := Lib.hid (HD5.out.put (p := ([118, 110, 105, 45, 119, 105, 110], 4)) (by decide +kernel))
  have HB6 := Lib.hid (HB5.out.grown hg6 (by have := HB5.out.size; omega) (fun k hk => by injection hk with hk; omega))
  clear hm6 hg6
  obtain ⟨D6, hD6⟩ : ∃ D, (D5 : DataW Unit).put (.string [118, 110, 105, 45, 119, 105, 110]) (.lit (.int .i64 4)) = D := ⟨_, rfl⟩
  simp only [hD6] at HM6 HD6
  clear hD6
  go_wp2_with (refine wpList_insert_own _ rfl _ _ _ 108 rfl 9 3 lawS Tryz.underlying108 _ w.heap.size 6 D6 rfl HM6.out (by decide) _ _ (.string [116, 105, 115, 54, 50, 48]) rfl rfl (WideMaps.keyOf_string_mk Tryz.underlying9 (by decide)) (.lit (.int .i64 5)) [] (plainElem_int Tryz.underlying3 (by decide)) ?_)
  intro w7 hm7 hg7
  have HM7 := Lib.hid hm7
  have HD7 := Lib.hid (HD6.out.put (p := ([116, 105, 115, 54, 50, 48], 5)) (by decide +kernel))
  have HB7 := Lib.hid (HB6.out.grown hg7 (by have := HB6.out.size; omega) (fun k hk => by injection hk with hk; omega))
  clear hm7 hg7
  obtain ⟨D7, hD7⟩ : ∃ D, (D6 : DataW Unit).put (.string [116, 105, 115, 54, 50, 48]) (.lit (.int .i64 5)) = D := ⟨_, rfl⟩
  simp only [hD7] at HM7 HD7
  clear hD7
  go_wp2_with (refine wpList_insert_own _ rfl _ _ _ 108 rfl 9 3 lawS Tryz.underlying108 _ w.heap.size 7 D7 rfl HM7.out (by decide) _ _ (.string [105, 115, 111, 45, 56, 56, 53, 57, 45, 49, 49]) rfl rfl (WideMaps.keyOf_string_mk Tryz.underlying9 (by decide)) (.lit (.int .i64 5)) [] (plainElem_int Tryz.underlying3 (by decide)) ?_)
  intro w8 hm8 hg8
  have HM8 := Lib.hid hm8
  have HD8 := Lib.hid (HD7.out.put (p := ([105, 115, 111, 45, 56, 56, 53, 57, 45, 49, 49], 5)) (by decide +kernel))
  have HB8 := Lib.hid (HB7.out.grown hg8 (by have := HB7.out.size; omega) (fun k hk => by injection hk with hk; omega))
  clear hm8 hg8
  obtain ⟨D8, hD8⟩ : ∃ D, (D7 : DataW Unit).put (.string [105, 115, 111, 45, 56, 56, 53, 57, 45, 49, 49]) (.lit (.int .i64 5)) = D := ⟨_, rfl⟩
  simp only [hD8] at HM8 HD8
  clear hD8
  go_wp2_with (refine wpList_insert_own _ rfl _ _ _ 108 rfl 9 3 lawS Tryz.underlying108 _ w.heap.size 8 D8 rfl HM8.out (by decide) _ _ (.string [105, 115, 99, 105, 105, 45, 57, 49]) rfl rfl (WideMaps.keyOf_string_mk Tryz.underlying9 (by decide)) (.lit (.int .i64 7)) [] (plainElem_int Tryz.underlying3 (by decide)) ?_)
  intro w9 hm9 hg9
  have HM9 := Lib.hid hm9
  have HD9 := Lib.hid (HD8.out.put (p := ([105, 115, 99, 105, 105, 45, 57, 49], 7)) (by decide +kernel))
  have HB9 := Lib.hid (HB8.out.grown hg9 (by have := HB8.out.size; omega) (fun k hk => by injection hk with hk; omega))
  clear hm9 hg9
  obtain ⟨D9, hD9⟩ : ∃ D, (D8 : DataW Unit).put (.string [105, 115, 99, 105, 105, 45, 57, 49]) (.lit (.int .i64 7)) = D := ⟨_, rfl⟩
  simp only [hD9] at HM9 HD9
  clear hD9
  go_wp2_with fail
  go_ret
  exact ⟨_, rfl, ⟨D9, HM9.out, HD9.out⟩, Nat.le_refl _, HB9.out⟩
end Go.Proofs.YtmenjcdmdmngcaaGreatDoor
namespace Go.Proofs.YtmenjcdmdmngcaaGreatDoor
set_option linter.unusedVariables false
set_option linter.unusedSimpArgs false
set_option linter.unnecessarySimpa false
open Go.RowKit Go.Maps
set_option maxRecDepth 100000 in
theorem cnames_any (w : World) : Calls Tryz.prog 32 #[] w fun e w' => e = .returned (.slice (some ⟨w.heap.size, 0, none⟩) 8 8) ∧ w' = w.alloc (.cells nmC 9) := by
  go_enter Tryz.func32, Tryz.ntmps32
  go_wp2
  go_ret
  exact ⟨rfl, rfl⟩
/-- where a name stands -/
def idxF (s : ByteArray) : Int := match firstN (fun j => s.toList == (nmB j).toList) 8 with | some k => (k : Int) | none => -1
set_option maxRecDepth 100000 in
set_option maxHeartbeats 3200000 in
theorem cindex_any (s : ByteArray) (w : World) (g : Nat) (hg : g < w.heap.size) (hc : ∀ j, j < 8 → w.cell? ⟨g, j, none⟩ = some (.string (nmB j))) (v : Int) (hv : idxF s = v) :
    Calls Tryz.prog 46 #[.slice (some ⟨g, 0, none⟩) 8 8, .string s] w fun e w' => e = .returned (.int .i64 v) ∧ Below w.heap.size w w' := by
  have HV := Lib.hid hv
  have HC := Lib.hid hc
  have HG := Lib.hid hg
  have HB0 : Hid (Below w.heap.size w w) := Lib.hid (Below.refl _ _)
  have HN0 : Hid (NoneN (fun j => s.toList == (nmB j).toList) 0) := Lib.hid (fun j hj => by omega)
  clear hv hc hg
  go_enter Tryz.func46, Tryz.ntmps46
  go_wp2
  go_loopw [8] (fun i wr => ∃ K : Nat, K ≤ 8 ∧ i = .int .i64 K ∧ Hid (NoneN (fun j => s.toList == (nmB j).toList) K) ∧ Hid (Below w.heap.size w wr)) (fun i _ => 8 - (intOf i).toNat)
  case atStart => exact ⟨0, by omega, rfl, HN0, HB0⟩
  case round =>
    clear HN0 HB0
    obtain ⟨K, hK, rfl, hnone, hb⟩ := hrel
    by_cases hKq : K = 8
    · have hKl : ¬ K < 8 := by omega
      have HNO := Lib.hid (firstN_no (show ∀ j, j < 8 → _ from by rw [← hKq]; exact hnone.out))
      have hvv : (-1 : Int) = v := by rw [← HV.out]; unfold idxF; rw [HNO.out]
      have HV2 := Lib.hid hvv
      clear hKq hvv
      go_wp2_with fail
      go_ret
      exact ⟨by first | rfl | (rw [← HV2.out]; rfl), hb.out⟩
    have hKl : K < 8 := by omega
    have j3 : (0 : Int) ≤ (K : Int) := by omega
    have j4 : (K : Int) < 8 := by omega
    have hx := (hb.out.cell (p := ⟨g, K, none⟩) HG.out).trans (HC.out K hKl)
    cases hbq : (s.toList == (nmB K).toList)
    · have HNX := Lib.hid (hnone.out.next hbq)
      clear hKq
      go_wp2_with fail
      go_roundw
      case rel => exact ⟨K + 1, by omega, by go_num, HNX, hb⟩
      case measure => simp [intOf]; omega
    · have hvv : (K : Int) = v := by
        rw [← HV.out]; unfold idxF; rw [firstN_yes hnone.out hKl hbq]
      have HV2 := Lib.hid hvv
      clear hKq hvv
      go_wp2_with fail
      go_ret
      exact ⟨by first | rfl | (rw [← HV2.out]; rfl), hb.out⟩
theorem firstN_some {p : Nat → Bool} {n k : Nat} (h : firstN p n = some k) : k < n ∧ p k = true := by
  unfold firstN at h
  have h1 := List.find?_some h
  have h2 := List.mem_of_find?_eq_some h
  exact ⟨List.mem_range.1 h2, h1⟩
theorem firstN_none {p : Nat → Bool} {n : Nat} (h : firstN p n = none) (j : Nat) (hj : j < n) : p j = false := by
  unfold firstN at h
  have := List.find?_eq_none.1 h j (List.mem_range.2 hj)
  simpa using this
/-- a name stands at its place, or among the others, or nowhere -/
theorem idx_cases (t : ByteArray) : (∃ k : Nat, k < 8 ∧ idxF t = k ∧ nameB t = some k) ∨ (idxF t = -1 ∧ nameB t = (lookS othP t.data.toList).map Int.toNat) := by
  unfold idxF
  cases h : firstN (fun j => t.toList == (nmB j).toList) 8 with
  | some k =>
    obtain ⟨h1, h2⟩ := firstN_some h
    exact .inl ⟨k, h1, rfl, by rw [nameB_L]; exact nameL_first _ k h1 (eq_of_beq h2).symm⟩
  | none =>
    refine .inr ⟨rfl, ?_⟩
    rw [nameB_L, nameL_other _ fun j hj e => ?_, ByteArray.toList_eq]
    have := firstN_none h j hj
    rw [e] at this
    simp at this
theorem look_range (s : List UInt8) : ∀ v, lookS othP s = some v → 0 ≤ v ∧ v < 8 := by
  intro v hv
  unfold lookS at hv
  rw [Option.map_eq_some_iff] at hv
  obtain ⟨p, hp, rfl⟩ := hv
  have h1 := List.mem_of_find?_eq_some hp
  have h2 : (othP.all fun p => decide (0 ≤ p.2 ∧ p.2 < 8)) = true := by decide
  exact of_decide_eq_true (List.all_eq_true.1 h2 p h1)
/-- what find answers -/
def findV (o : Option Nat) : Value := match o with | some k => .tuple #[.int .i64 (k : Int), .bool true] | none => .tuple #[.int .i64 0, .bool false]
open Go.Lib in
set_option maxRecDepth 100000 in
set_option maxHeartbeats 3200000 in
theorem cfind_any (s : ByteArray) (w : World) (hs : s.size ≤ 1000) (hV : CaseVar 5 caseA w) (hT : Lib.Utf8Tabs 7 8 w) (o : Option Nat) (ho : nameB (lowT s) = o) :
    Calls Tryz.prog 33 #[.string s] w fun e w' => e = .returned (findV o) ∧ Below w.heap.size w w' := by
  have hsz : (lowT s).size ≤ maxLen := by have := lowT_size s; unfold maxLen; omega
  have C1 : Hid (Calls Tryz.prog 56 #[.string s] w fun e w' => e = .returned (.string (lowT s)) ∧ Below w.heap.size w w') := Lib.hid (toLower_any s w (by omega) hV hT)
  obtain ⟨t, ht⟩ : ∃ t, lowT s = t := ⟨_, rfl⟩
  rw [ht] at C1 ho hsz
  have HSZ := Lib.hid hsz
  have HO := Lib.hid ho
  clear hV hT hs hsz ht ho
  go_enter Tryz.func33, Tryz.ntmps33
  go_wp2_with fail
  refine C1.out.mono ?_
  rintro e w1 ⟨rfl, hb1⟩
  have HB1 := Lib.hid hb1
  have hb2 := below_allocC w1 (.cells nmC 9)
  have hcn := fun j h => names_cell w1 j h
  obtain ⟨W2, hW2⟩ : ∃ W, w1.alloc (.cells nmC 9) = W := ⟨_, rfl⟩
  rw [hW2] at hb2 hcn
  have hg2 : w1.heap.size < W2.heap.size := by rw [← hW2]; simp
  have HB2 := Lib.hid (hb1.trans (hb2.mono hb1.size))
  have HW2 := Lib.hid hW2
  rcases idx_cases t with ⟨k, hk8, hi, hn⟩ | ⟨hi, hn⟩
  · have IX := Lib.hid (cindex_any t W2 w1.heap.size hg2 hcn _ hi)
    have HR : Hid (findV o = .tuple #[.int .i64 (k : Int), .bool true]) := Lib.hid (by rw [← HO.out, hn]; rfl)
    have k3 : (0 : Int) ≤ (k : Int) := by omega
    clear hb1 hb2 hcn hW2 hi hn C1
    go_wp2_with (go_at_call 32; refine (cnames_any w1).mono ?_; rintro e wq ⟨rfl, rfl⟩)
    rw [HW2.out]
    refine IX.out.mono ?_
    rintro e w3 ⟨rfl, hb3⟩
    have HB3 := Lib.hid (HB2.out.trans (hb3.mono HB2.out.size))
    clear hb3 IX HW2
    go_wp2_with fail
    go_ret2
    exact ⟨by rw [HR.out]; rfl, HB3.out⟩
  · have IX := Lib.hid (cindex_any t W2 w1.heap.size hg2 hcn _ hi)
    have HN := Lib.hid hn
    clear hb1 hb2 hcn hW2 hi hn C1
    go_wp2_with (go_at_call 32; refine (cnames_any w1).mono ?_; rintro e wq ⟨rfl, rfl⟩)
    rw [HW2.out]
    refine IX.out.mono ?_
    rintro e w3 ⟨rfl, hb3⟩
    have HB3 := Lib.hid (HB2.out.trans (hb3.mono HB2.out.size))
    clear hb3 IX HW2
    go_wp2_with fail
    refine (others_any w3).mono ?_
    rintro e w4 ⟨g, rfl, hm4, hg4, hb4⟩
    have HB4 := Lib.hid (HB3.out.trans (hb4.mono HB3.out.size))
    obtain ⟨D, hD, hd⟩ := hm4
    have HM := Lib.hid hD
    have HKEY := Lib.hid (WideMaps.keyOf_string_mk (P := Tryz.prog) Tryz.underlying9 HSZ.out)
    have HHAS := Lib.hid (hd.has t.data.toList)
    have HVAL := Lib.hid (hd.val t.data.toList)
    have hres : findV o = .tuple #[.int .i64 ((lookS othP t.data.toList).getD 0), .bool (lookS othP t.data.toList).isSome] := by
      rw [← HO.out, HN.out]
      cases hl : lookS othP t.data.toList with
      | none => rfl
      | some v =>
        have h1 := look_range _ v hl
        show Value.tuple #[.int .i64 ((v.toNat : Nat) : Int), .bool true] = _
        rw [Int.toNat_of_nonneg h1.1]
        rfl
    obtain ⟨q, hq⟩ : ∃ q, (lookS othP t.data.toList).getD 0 = q := ⟨_, rfl⟩
    obtain ⟨y, hy⟩ : ∃ y, (lookS othP t.data.toList).isSome = y := ⟨_, rfl⟩
    rw [hq] at HVAL hres
    rw [hy] at HHAS hres
    have HR := Lib.hid hres
    clear hD hd hq hy hres hb4 hg4
    go_wp2_with (at_lookup; refine wpList_lookup_own_ok_int _ rfl _ _ 108 rfl 9 3 .i64 lawS Tryz.underlying108 Tryz.underlying3 (zeroInt _) g 9 D rfl HM.out _ _ rfl HKEY.out ?_; intro cc hat hwc; rw [HHAS.out]; (obtain rfl : q = cc := by rw [HVAL.out] at hat; injection hat with hat; injection hat); clear hat hwc)
    go_ret2
    exact ⟨by rw [HR.out]; rfl, HB4.out⟩
open Go.Lib in
set_option maxRecDepth 100000 in
set_option maxHeartbeats 3200000 in
theorem cname_any (s : ByteArray) (w : World) (hs : s.size ≤ 1000) (hV : CaseVar 5 caseA w) (hT : Lib.Utf8Tabs 7 8 w) (o : Option Nat) (ho : nameB (lowT s) = o) :
    Calls Tryz.prog 12 #[.string s] w fun e w' => e = .returned (nameV o) ∧ Below w.heap.size w w' := by
  have C1 := Lib.hid (cfind_any s w hs hV hT o ho)
  have hlt : ∀ k, o = some k → k < 8 := by
    intro k hk
    rcases idx_cases (lowT s) with ⟨j, hj, _, h2⟩ | ⟨_, h2⟩
    · rw [ho, hk] at h2; injection h2 with h2; omega
    · rw [ho, hk] at h2
      cases hl : lookS othP (lowT s).data.toList with
      | none => rw [hl] at h2; cases h2
      | some v =>
        rw [hl] at h2
        injection h2 with h2
        have h1 := look_range _ v hl
        omega
  clear hV hT hs ho
  cases o with
  | none =>
    go_enter Tryz.func12, Tryz.ntmps12
    go_wp2_with fail
    refine C1.out.mono ?_
    rintro e w1 ⟨rfl, hb1⟩
    have HB1 := Lib.hid hb1
    clear hb1 C1
    simp only [findV]
    go_wp2_with fail
    go_ret2
    exact ⟨rfl, HB1.out⟩
  | some k =>
    have hk8 := hlt k rfl
    have k3 : (0 : Int) ≤ (k : Int) := by omega
    have k4 : (k : Int) < 8 := by omega
    clear hlt
    go_enter Tryz.func12, Tryz.ntmps12
    go_wp2_with fail
    refine C1.out.mono ?_
    rintro e w1 ⟨rfl, hb1⟩
    have HB1 := Lib.hid hb1
    simp only [findV]
    have hc := names_cell w1 k hk8
    have HB2 := Lib.hid (hb1.trans ((below_allocC w1 (.cells nmC 9)).mono hb1.size))
    clear hb1 C1
    go_wp2_with (go_at_call 32; refine (cnames_any w1).mono ?_; rintro e wq ⟨rfl, rfl⟩)
    go_ret2
    exact ⟨rfl, HB2.out⟩
end Go.Proofs.YtmenjcdmdmngcaaGreatDoor
namespace Go.Proofs.YtmenjcdmdmngcaaGreatDoor
set_option linter.unusedVariables false
set_option linter.unusedSimpArgs false
set_option linter.unnecessarySimpa false
open Go.RowKit
theorem cascii_any (c : Int) (w : World) (h0 : 0 ≤ c) (h1 : c ≤ 255) :
    Calls Tryz.prog 87 #[.int .u8 c] w fun e w' => e = .returned (.tuple #[.int .i64 (if c < 128 then c else 0), .bool (decide (c < 128))]) ∧ w = w' := by
  by_cases hc : c < 128
  · have h2 : ¬ 128 ≤ c := by omega
    have hw : wrap64 c = c := by unfold wrap64; omega
    have hw2 : IntKind.i64.wrap c = c := by rw [IntKind.wrap_i64]; omega
    rw [if_pos hc, decide_eq_true hc]
    go_enter Tryz.func87, Tryz.ntmps87
    go_wp2
    go_ret2
    exact ⟨rfl, rfl⟩
  · have h2 : 128 ≤ c := by omega
    rw [if_neg hc, decide_eq_false hc]
    go_enter Tryz.func87, Tryz.ntmps87
    go_wp2
    go_ret2
    exact ⟨rfl, rfl⟩
theorem asR_min (K : Nat) (h : 128 ≤ K) : asR (min (K + 1) 128) = asR (min K 128) := by rw [Nat.min_eq_right h, Nat.min_eq_right (by omega)]
set_option maxRecDepth 100000 in
set_option maxHeartbeats 3200000 in
theorem singles_as (w : World) : Calls Tryz.prog 86 #[.func (.func 87) #[] #[]] w fun e w' => ∃ v, e = .returned v ∧ OwnRs w.heap.size w' v (asR 128) ∧ Below w.heap.size w w' := by
  have HB0 := Lib.hid (Below.refl w.heap.size w)
  go_enter Tryz.func86, Tryz.ntmps86
  go_wp2
  go_loopw [3, 7] (fun v i wr => ∃ K : Nat, K ≤ 256 ∧ i = .int .i64 K ∧ Hid (OwnRs w.heap.size wr v (asR (min K 128))) ∧ Hid (Below w.heap.size w wr)) (fun _ i _ => 256 - (intOf i).toNat)
  case atStart => exact ⟨0, by omega, rfl, Lib.hid (OwnRs.nil _ _), HB0⟩
  case round =>
    obtain ⟨K, hK, rfl, ho, hb⟩ := hrel
    by_cases hKn : K = 256
    · subst hKn
      go_wp2_with fail
      go_ret
      exact ⟨_, rfl, ho.out, hb.out⟩
    have hK' : K < 256 := by omega
    have k3 : (0 : Int) ≤ K := by omega
    have k4 : (K : Int) < 256 := by omega
    have hwr := hb.out.size
    have hal : (asR (min K 128)).length ≤ 128 := by rw [asR_len]; omega
    obtain ⟨A3, c3, hv3, _⟩ := ho.out.form
    have k5 : IntKind.u8.wrap (K : Int) = K := by rw [IntKind.wrap_u8]; omega
    have k6 : (K : Int) % 256 = K := by omega
    have D1 := Lib.hid (cascii_any (K : Int) wr k3 (by omega))
    by_cases hc : K < 128
    · have hc' : (K : Int) < 128 := by omega
      rw [if_pos hc', decide_eq_true hc'] at D1
      have HB := Lib.hid hb.out
      have HS := Lib.hid (show asR (min (K + 1) 128) = asR (min K 128) ++ [([(K : Int)], [(K : Int)])] by rw [Nat.min_eq_left (by omega), Nat.min_eq_left (by omega), asR_succ])
      obtain ⟨acc, hacc⟩ : ∃ acc, asR (min K 128) = acc := ⟨_, rfl⟩
      rw [hacc] at ho HS hal hv3
      subst hv3
      have HAL := Lib.hid (show acc.length ≤ 1048576 by omega)
      clear hc hc' hacc hal hKn hb
      go_wp2_with (first | (go_at_call 87; refine D1.out.mono ?_; rintro e w5 ⟨rfl, rfl⟩) | (at_builtin; refine wpList_appRl rfl _ _ rfl w.heap.size (.slice A3 acc.length c3) acc (K : Int) (K : Int) rfl ho.out rfl HAL.out hwr ?_))
      intro v' w4 HN HBB
      have HB4 := Lib.hid (HBB.out w.heap.size w (Nat.le_refl _) HB.out)
      have HN2 : Hid (OwnRs w.heap.size w4 v' (asR (min (K + 1) 128))) := by rw [HS.out]; exact HN
      clear HN
      go_wp2_with fail
      go_roundw
      case rel => exact ⟨K + 1, by omega, by go_num, HN2, HB4⟩
      case measure => simp [intOf]; omega
    · have hc' : ¬ (K : Int) < 128 := by omega
      rw [if_neg hc', decide_eq_false hc'] at D1
      have HN2 := Lib.hid (asR_min K (by omega))
      have HB4 := Lib.hid hb.out
      clear hc hc' hal hKn hb hv3
      go_wp2_with (go_at_call 87; refine D1.out.mono ?_; rintro e w' ⟨rfl, rfl⟩)
      go_roundw
      case rel => exact ⟨K + 1, by omega, by go_num, by rw [HN2.out]; exact ho, HB4⟩
      case measure => simp [intOf]; omega
set_option maxRecDepth 100000 in
set_option maxHeartbeats 3200000 in
theorem singles_th (w : World) : Calls Tryz.prog 86 #[.func (.func 51) #[] #[]] w fun e w' => ∃ v, e = .returned v ∧ OwnRs w.heap.size w' v (thR 256) ∧ Below w.heap.size w w' := by
  have HB0 := Lib.hid (Below.refl w.heap.size w)
  go_enter Tryz.func86, Tryz.ntmps86
  go_wp2
  go_loopw [3, 7] (fun v i wr => ∃ K : Nat, K ≤ 256 ∧ i = .int .i64 K ∧ Hid (OwnRs w.heap.size wr v (thR K)) ∧ Hid (Below w.heap.size w wr)) (fun _ i _ => 256 - (intOf i).toNat)
  case atStart => exact ⟨0, by omega, rfl, Lib.hid (OwnRs.nil _ _), HB0⟩
  case round =>
    obtain ⟨K, hK, rfl, ho, hb⟩ := hrel
    by_cases hKn : K = 256
    · subst hKn
      go_wp2_with fail
      go_ret
      exact ⟨_, rfl, ho.out, hb.out⟩
    have hK' : K < 256 := by omega
    have k3 : (0 : Int) ≤ K := by omega
    have k4 : (K : Int) < 256 := by omega
    have hwr := hb.out.size
    have hal : (thR K).length ≤ 256 := by have := thR_le K; omega
    obtain ⟨A3, c3, hv3, _⟩ := ho.out.form
    have k5 : IntKind.u8.wrap (K : Int) = K := by rw [IntKind.wrap_u8]; omega
    have k6 : (K : Int) % 256 = K := by omega
    have D1 := Lib.hid (decode_any (K : Int) wr k3 (by omega))
    obtain ⟨d, t, hd⟩ : ∃ d t, scF (K : Int) = (d, t) := ⟨_, _, rfl⟩
    rw [hd] at D1
    cases t with
    | false =>
      have HN2 := Lib.hid (thR_no K (by rw [hd]))
      have HB4 := Lib.hid hb.out
      clear hd hal hKn hb hv3
      go_wp2_with (go_at_call 51; refine D1.out.mono ?_; rintro e w' ⟨rfl, rfl⟩)
      go_roundw
      case rel => exact ⟨K + 1, by omega, by go_num, by rw [HN2.out]; exact ho, HB4⟩
      case measure => simp [intOf]; omega
    | true =>
      have HB := Lib.hid hb.out
      have HS := Lib.hid (show thR (K + 1) = thR K ++ [([(K : Int)], [d])] by rw [thR_yes K (by rw [hd]), hd])
      obtain ⟨acc, hacc⟩ : ∃ acc, thR K = acc := ⟨_, rfl⟩
      rw [hacc] at ho HS hal hv3
      subst hv3
      have HAL := Lib.hid (show acc.length ≤ 1048576 by omega)
      clear hd hacc hal hKn hb
      go_wp2_with (first | (go_at_call 51; refine D1.out.mono ?_; rintro e w5 ⟨rfl, rfl⟩) | (at_builtin; refine wpList_appRl rfl _ _ rfl w.heap.size (.slice A3 acc.length c3) acc (K : Int) d rfl ho.out rfl HAL.out hwr ?_))
      intro v' w4 HN HBB
      have HB4 := Lib.hid (HBB.out w.heap.size w (Nat.le_refl _) HB.out)
      have HN2 : Hid (OwnRs w.heap.size w4 v' (thR (K + 1))) := by rw [HS.out]; exact HN
      clear HN
      go_wp2_with fail
      go_roundw
      case rel => exact ⟨K + 1, by omega, by go_num, HN2, HB4⟩
      case measure => simp [intOf]; omega
set_option maxRecDepth 100000 in
set_option maxHeartbeats 1600000 in
theorem rules_1 (w : World) (hT : Tabs w) : Calls Tryz.prog 60 #[.int .i64 1] w fun e w' => ∃ v, e = .returned v ∧ OwnRs w.heap.size w' v (cdR 1) ∧ Below w.heap.size w w' := by
  go_enter Tryz.func60, Tryz.ntmps60
  go_wp2_with fail
  refine (singles_as w).mono ?_
  rintro e w2 ⟨v2, rfl, ho2, hb2⟩
  have HO2 := Lib.hid ho2
  have HB2 := Lib.hid hb2
  clear ho2 hb2 hT
  go_wp2_with fail
  go_ret
  exact ⟨_, rfl, HO2.out, HB2.out⟩
set_option maxRecDepth 100000 in
set_option maxHeartbeats 1600000 in
theorem rules_2 (w : World) (hT : Tabs w) : Calls Tryz.prog 60 #[.int .i64 2] w fun e w' => ∃ v, e = .returned v ∧ OwnRs w.heap.size w' v (cdR 2) ∧ Below w.heap.size w w' := by
  go_enter Tryz.func60, Tryz.ntmps60
  go_wp2_with fail
  refine (vrules_any w hT.vis).mono ?_
  rintro e w2 ⟨v2, rfl, ho2, hb2⟩
  have HO2 := Lib.hid ho2
  have HB2 := Lib.hid hb2
  clear ho2 hb2 hT
  go_wp2_with fail
  go_ret
  exact ⟨_, rfl, HO2.out, HB2.out⟩
set_option maxRecDepth 100000 in
set_option maxHeartbeats 1600000 in
theorem rules_3 (w : World) (hT : Tabs w) : Calls Tryz.prog 60 #[.int .i64 3] w fun e w' => ∃ v, e = .returned v ∧ OwnRs w.heap.size w' v (cdR 3) ∧ Below w.heap.size w w' := by
  go_enter Tryz.func60, Tryz.ntmps60
  go_wp2_with fail
  refine (trules_any w hT.tc).mono ?_
  rintro e w2 ⟨v2, rfl, ho2, hb2⟩
  have HO2 := Lib.hid ho2
  have HB2 := Lib.hid hb2
  clear ho2 hb2 hT
  go_wp2_with fail
  go_ret
  exact ⟨_, rfl, HO2.out, HB2.out⟩
set_option maxRecDepth 100000 in
set_option maxHeartbeats 1600000 in
theorem rules_4 (w : World) (hT : Tabs w) : Calls Tryz.prog 60 #[.int .i64 4] w fun e w' => ∃ v, e = .returned v ∧ OwnRs w.heap.size w' v (cdR 4) ∧ Below w.heap.size w w' := by
  go_enter Tryz.func60, Tryz.ntmps60
  go_wp2_with fail
  refine (vnrules_any w hT.vn).mono ?_
  rintro e w2 ⟨v2, rfl, ho2, hb2⟩
  have HO2 := Lib.hid ho2
  have HB2 := Lib.hid hb2
  clear ho2 hb2 hT
  go_wp2_with fail
  go_ret
  exact ⟨_, rfl, HO2.out, HB2.out⟩
set_option maxRecDepth 100000 in
set_option maxHeartbeats 1600000 in
theorem rules_5 (w : World) (hT : Tabs w) : Calls Tryz.prog 60 #[.int .i64 5] w fun e w' => ∃ v, e = .returned v ∧ OwnRs w.heap.size w' v (cdR 5) ∧ Below w.heap.size w w' := by
  go_enter Tryz.func60, Tryz.ntmps60
  go_wp2_with fail
  refine (singles_th w).mono ?_
  rintro e w2 ⟨v2, rfl, ho2, hb2⟩
  have HO2 := Lib.hid ho2
  have HB2 := Lib.hid hb2
  clear ho2 hb2 hT
  go_wp2_with fail
  go_ret
  exact ⟨_, rfl, HO2.out, HB2.out⟩
set_option maxRecDepth 100000 in
set_option maxHeartbeats 1600000 in
theorem rules_6 (w : World) (hT : Tabs w) : Calls Tryz.prog 60 #[.int .i64 6] w fun e w' => ∃ v, e = .returned v ∧ OwnRs w.heap.size w' v (cdR 6) ∧ Below w.heap.size w w' := by
  go_enter Tryz.func60, Tryz.ntmps60
  go_wp2_with fail
  refine (tmrules_any w hT.tm).mono ?_
  rintro e w2 ⟨v2, rfl, ho2, hb2⟩
  have HO2 := Lib.hid ho2
  have HB2 := Lib.hid hb2
  clear ho2 hb2 hT
  go_wp2_with fail
  go_ret
  exact ⟨_, rfl, HO2.out, HB2.out⟩
set_option maxRecDepth 100000 in
theorem norules_0 (w : World) : Calls Tryz.prog 60 #[.int .i64 0] w fun e w' => e = .returned (.slice none 0 0) ∧ w = w' := by
  go_enter Tryz.func60, Tryz.ntmps60
  go_wp2
  go_ret
  exact ⟨rfl, rfl⟩
set_option maxRecDepth 100000 in
theorem norules_7 (w : World) : Calls Tryz.prog 60 #[.int .i64 7] w fun e w' => e = .returned (.slice none 0 0) ∧ w = w' := by
  go_enter Tryz.func60, Tryz.ntmps60
  go_wp2
  go_ret
  exact ⟨rfl, rfl⟩
set_option maxRecDepth 100000 in
theorem norules_m (w : World) : Calls Tryz.prog 60 #[.int .i64 (-1)] w fun e w' => e = .returned (.slice none 0 0) ∧ w = w' := by
  go_enter Tryz.func60, Tryz.ntmps60
  go_wp2
  go_ret
  exact ⟨rfl, rfl⟩
theorem crules_any (k : Nat) (h1 : 1 ≤ k) (h6 : k ≤ 6) (w : World) (hT : Tabs w) : Calls Tryz.prog 60 #[.int .i64 (k : Int)] w fun e w' => ∃ v, e = .returned v ∧ OwnRs w.heap.size w' v (cdR k) ∧ Below w.heap.size w w' := by
  match k, h1, h6 with
  | 1, _, _ => exact rules_1 w hT
  | 2, _, _ => exact rules_2 w hT
  | 3, _, _ => exact rules_3 w hT
  | 4, _, _ => exact rules_4 w hT
  | 5, _, _ => exact rules_5 w hT
  | 6, _, _ => exact rules_6 w hT
theorem cdR_ne (k : Nat) (h1 : 1 ≤ k) (h6 : k ≤ 6) : 0 < (cdR k).length ∧ (cdR k).length ≤ 1024 := by
  match k, h1, h6 with
  | 1, _, _ => decide +kernel
  | 2, _, _ => decide +kernel
  | 3, _, _ => decide +kernel
  | 4, _, _ => decide +kernel
  | 5, _, _ => decide +kernel
  | 6, _, _ => decide +kernel
set_option maxRecDepth 100000 in
theorem slice_nil (g n c : Nat) : ∀ W : World, (binOp .eql 54 (.slice (Option.some ⟨g, 0, none⟩) n c) (.slice none 0 0)).run Tryz.prog W = .ok (.bool false) W := by
  intro W; simp only [binOp]; rfl
set_option maxRecDepth 100000 in
theorem nil_nil : ∀ W : World, (binOp .eql 54 (.slice none 0 0) (.slice none 0 0)).run Tryz.prog W = .ok (.bool true) W := by
  intro W; simp only [binOp]; rfl
theorem OwnRs.some {base : Nat} {w : World} {v : Value} {rs : List Rl} (h : OwnRs base w v rs) (hp : 0 < rs.length) : ∃ g c, v = .slice (Option.some ⟨g, 0, none⟩) rs.length c := by
  obtain ⟨xs, ho, -⟩ := h
  rcases ho.2 with ⟨rfl, h2⟩ | ⟨g, cap, cur, h1, -⟩
  · have := ho.1
    omega
  · exact ⟨g, cap, h1⟩
set_option maxRecDepth 100000 in
set_option maxHeartbeats 1600000 in
theorem cof_any (k : Nat) (h1 : 1 ≤ k) (h6 : k ≤ 6) (w : World) (hT : Tabs w) : Calls Tryz.prog 36 #[.int .i64 (k : Int)] w fun e w' => ∃ T, e = .returned (.pointer (some ⟨T, 0, none⟩)) ∧ TabAt w' w'.heap.size T (cdR k) ∧ Stab w.heap.size w'.heap.size w' (fun W => TabAt W w'.heap.size T (cdR k)) ∧ w.heap.size ≤ T ∧ Below w.heap.size w w' := by
  have C1 := Lib.hid (crules_any k h1 h6 w hT)
  have HP := Lib.hid (cdR_p h1 h6)
  have HNE := Lib.hid (cdR_ne k h1 h6)
  clear hT
  go_enter Tryz.func36, Tryz.ntmps36
  go_wp2_with fail
  refine C1.out.mono ?_
  rintro e w1 ⟨v1, rfl, ho1, hb1⟩
  obtain ⟨g, c, rfl⟩ := ho1.some HNE.out.1
  obtain ⟨rs, hrs⟩ : ∃ rs, cdR k = rs := ⟨_, rfl⟩
  have HRS := Lib.hid hrs
  rw [hrs] at ho1 HP HNE ⊢
  have C2 := Lib.hid (tab_of_okS rs.length _ c rs w1.heap.size w1 ho1.at (Nat.le_refl _) HNE.out.2 HP.out.right HP.out.closed)
  obtain ⟨n, hn⟩ : ∃ n, rs.length = n := ⟨_, rfl⟩
  rw [hn] at C2 ⊢
  have HB1 := Lib.hid hb1
  have hnil := slice_nil g n c
  clear ho1 hb1 C1 hrs hn
  go_wp2_with fail
  refine C2.out.mono ?_
  rintro e w2 ⟨T, rfl, h2, h3, h4, h5⟩
  have HA := Lib.hid h2
  have HS := Lib.hid h3
  have HL := Lib.hid h4
  have HB2 := Lib.hid (HB1.out.trans (h5.mono HB1.out.size))
  clear h2 h3 h4 h5 C2
  go_wp2_with fail
  go_ret
  rw [HRS.out]
  exact ⟨T, rfl, HA.out, HS.out.mono HB1.out.size (Nat.le_refl _), Nat.le_trans HB1.out.size HL.out, HB2.out⟩
set_option maxRecDepth 100000 in
theorem cnoof_any (v : Int) (w : World) (hr : Calls Tryz.prog 60 #[.int .i64 v] w fun e w' => e = .returned (.slice none 0 0) ∧ w = w') : Calls Tryz.prog 36 #[.int .i64 v] w fun e w' => e = .returned (.pointer none) ∧ Below w.heap.size w w' := by
  have HR := Lib.hid hr
  have HB := Lib.hid (Below.refl w.heap.size w)
  have hnil := nil_nil
  clear hr
  go_enter Tryz.func36, Tryz.ntmps36
  go_wp2_with fail
  refine HR.out.mono ?_
  rintro e w1 ⟨rfl, rfl⟩
  go_wp2_with fail
  go_ret
  exact ⟨rfl, HB.out⟩
end Go.Proofs.YtmenjcdmdmngcaaGreatDoor
namespace Go.Proofs.YtmenjcdmdmngcaaGreatDoor
set_option linter.unusedVariables false
set_option linter.unusedSimpArgs false
set_option linter.unnecessarySimpa false
open Go.RowKit Go.Lib
/-- what the package looks at, but for ISCII's tables -/
structure CodOK (w : World) : Prop where
  tabs : Tabs w
  case : CaseVar 5 caseA w
  utf : Lib.Utf8Tabs 7 8 w
theorem CodOK.below {w w' : World} (h : CodOK w) (hb : Below w.heap.size w w') : CodOK w' := ⟨h.tabs.below hb, CaseVar_below h.case hb, Utf8Tabs_below h.utf hb⟩
theorem EAtF.lowL {L L' : Nat} {X : Nat → Prop} {w : World} {B p T : Nat} {rs : List Rl} {R : List Value} {q : List Int} {at_ st : Int} {ah : List Int} (h : EAtF L X w B p rs T R q at_ st ah) (hl : L' ≤ L) : EAtF L' X w B p rs T R q at_ st ah :=
  { h with tab := by obtain ⟨T0, ⟨a, b⟩, c⟩ := h.tab; exact ⟨T0, ⟨by omega, b.mono hl (Nat.le_refl _)⟩, c⟩ }
theorem nm_low : ∀ k, k < 8 → nameB (lowB (nmB k)) = some k ∧ isAscii (nmB k) = true ∧ (nmB k).size ≤ 1000 := by
  intro k hk
  have h3 := List.all_eq_true.1 (show ((List.range 8).all fun j => decide (nameB (lowB (nmB j)) = some j ∧ isAscii (nmB j) = true ∧ (nmB j).size ≤ 1000)) = true by decide +kernel) k (List.mem_range.2 hk)
  exact of_decide_eq_true h3
theorem find_nm (k : Nat) (hk : k < 8) (w : World) (h : CodOK w) : Calls Tryz.prog 33 #[.string (nmB k)] w fun e w' => e = .returned (.tuple #[.int .i64 (k : Int), .bool true]) ∧ Below w.heap.size w w' := by
  obtain ⟨h1, h2, h3⟩ := nm_low k hk
  exact cfind_any (nmB k) w h3 h.case h.utf (some k) (by rw [lowT_ascii _ h2]; exact h1)
set_option maxRecDepth 100000 in
set_option maxHeartbeats 1600000 in
theorem cdecode_any (k : Nat) (h1 : 1 ≤ k) (h6 : k ≤ 6) (w : World) (h : CodOK w) : Calls Tryz.prog 15 #[.string (nmB k)] w fun e w' => ∃ V, e = .returned (.tuple #[V, .int .i64 0]) ∧ DT k w.heap.size w'.heap.size w' V ∧ Below w.heap.size w w' := by
  have C1 := Lib.hid (find_nm k (by omega) w h)
  have HO := Lib.hid h
  obtain ⟨s, hs⟩ : ∃ s, nmB k = s := ⟨_, rfl⟩
  rw [hs] at C1 ⊢
  have hk0 : ¬ (k : Int) = 0 := by omega
  have hk7 : ¬ (k : Int) = 7 := by omega
  have e0 : ((k : Int) == 0) = false := by simpa using hk0
  have e7 : ((k : Int) == 7) = false := by simpa using hk7
  clear h hs
  go_enter Tryz.func15, Tryz.ntmps15
  go_wp2_with fail
  refine C1.out.mono ?_
  rintro e w1 ⟨rfl, hb1⟩
  have C2 := Lib.hid (cof_any k h1 h6 w1 (HO.out.below hb1).tabs)
  have HB1 := Lib.hid hb1
  clear hb1 C1
  go_wp2_with fail
  refine C2.out.mono ?_
  rintro e w2 ⟨T, rfl, ha, hst, hl, hb2⟩
  have C3 := Lib.hid (mdecode_anyS w2 w1.heap.size w2.heap.size T (cdR k) hst hl (Nat.le_refl _) hb2.size)
  have HB2 := Lib.hid (HB1.out.trans (hb2.mono HB1.out.size))
  have HS2 := Lib.hid hb2.size
  clear ha hst hl hb2 C2
  go_wp2_with fail
  refine C3.out.mono ?_
  rintro e w3 ⟨p, R, B', rfl, hT, hp, hB, hm, hb3⟩
  have HT := Lib.hid hT
  have HP := Lib.hid hp
  have HB' := Lib.hid hB
  have HM := Lib.hid hm
  have HB3 := Lib.hid (HB2.out.trans (hb3.mono HB2.out.size))
  clear hT hp hB hm hb3 C3
  go_wp2_with fail
  go_ret2
  have hs1 := HB1.out.size
  have hs2 := HS2.out
  have hB := HB'.out
  exact ⟨_, rfl, ⟨p, R, B', rfl, HT.out.mono (by omega) (Nat.le_refl _), by omega, HP.out, HM.out.lt, Nat.le_refl _, HM.out⟩, HB3.out⟩
set_option maxRecDepth 100000 in
set_option maxHeartbeats 1600000 in
theorem cencode_any (k : Nat) (h1 : 1 ≤ k) (h6 : k ≤ 6) (w : World) (h : CodOK w) : Calls Tryz.prog 20 #[.string (nmB k)] w fun e w' => ∃ V, e = .returned (.tuple #[V, .int .i64 0]) ∧ ET k w.heap.size w'.heap.size w' V ∧ Below w.heap.size w w' := by
  have C1 := Lib.hid (find_nm k (by omega) w h)
  have HO := Lib.hid h
  obtain ⟨s, hs⟩ : ∃ s, nmB k = s := ⟨_, rfl⟩
  rw [hs] at C1 ⊢
  have hk0 : ¬ (k : Int) = 0 := by omega
  have hk7 : ¬ (k : Int) = 7 := by omega
  have e0 : ((k : Int) == 0) = false := by simpa using hk0
  have e7 : ((k : Int) == 7) = false := by simpa using hk7
  clear h hs
  go_enter Tryz.func20, Tryz.ntmps20
  go_wp2_with fail
  refine C1.out.mono ?_
  rintro e w1 ⟨rfl, hb1⟩
  have C2 := Lib.hid (cof_any k h1 h6 w1 (HO.out.below hb1).tabs)
  have HB1 := Lib.hid hb1
  clear hb1 C1
  go_wp2_with fail
  refine C2.out.mono ?_
  rintro e w2 ⟨T, rfl, ha, hst, hl, hb2⟩
  have C3 := Lib.hid (mencode_anyF w2 w1.heap.size w2.heap.size T (cdR k) hst hl (Nat.le_refl _))
  have HB2 := Lib.hid (HB1.out.trans (hb2.mono HB1.out.size))
  have HS2 := Lib.hid hb2.size
  clear ha hst hl hb2 C2
  go_wp2_with fail
  refine C3.out.mono ?_
  rintro e w3 ⟨p, T', R, rfl, hp, hE, hb3⟩
  have HP := Lib.hid hp
  have HE := Lib.hid hE
  have HB3 := Lib.hid (HB2.out.trans (hb3.mono HB2.out.size))
  clear hp hE hb3 C3
  go_wp2_with fail
  go_ret2
  have hs1 := HB1.out.size
  have hs2 := HS2.out
  have hE := HE.out (fun _ => False) fun b hb => hb.elim
  exact ⟨_, rfl, ⟨p, T', _, R, rfl, by omega, hE.lt, Nat.le_refl _, hE.lowL (by omega)⟩, HB3.out⟩
theorem idx_nm : ∀ k, k < 8 → idxF (nmB k) = (k : Int) := by
  intro k hk
  have h3 := List.all_eq_true.1 (show ((List.range 8).all fun j => decide (idxF (nmB j) = (j : Int))) = true by decide +kernel) k (List.mem_range.2 hk)
  exact of_decide_eq_true h3
set_option maxRecDepth 100000 in
set_option maxHeartbeats 1600000 in
theorem ctable_any (s : ByteArray) (v : Int) (hv : idxF s = v) (w : World) (Q : Ending → World → Prop)
    (hof : ∀ w1, Below w.heap.size w w1 → w.heap.size ≤ w1.heap.size → Calls Tryz.prog 36 #[.int .i64 v] w1 fun e w2 => ∃ p, e = .returned (.pointer p) ∧ Q e w2) : Calls Tryz.prog 23 #[.string s] w fun e w' => Q e w' := by
  have hb2 := below_allocC w (.cells nmC 9)
  have hcn := fun j h => names_cell w j h
  obtain ⟨W2, hW2⟩ : ∃ W, w.alloc (.cells nmC 9) = W := ⟨_, rfl⟩
  rw [hW2] at hb2 hcn
  have hg2 : w.heap.size < W2.heap.size := by rw [← hW2]; simp
  have HW2 := Lib.hid hW2
  have HB2 := Lib.hid hb2
  have IX := Lib.hid (cindex_any s W2 w.heap.size hg2 hcn v hv)
  have HF := Lib.hid hof
  clear hb2 hcn hW2 hv hof hg2
  go_enter Tryz.func23, Tryz.ntmps23
  go_wp2_with (go_at_call 32; refine (cnames_any w).mono ?_; rintro e wq ⟨rfl, rfl⟩)
  rw [HW2.out]
  refine IX.out.mono ?_
  rintro e w3 ⟨rfl, hb3⟩
  have hb := HB2.out.trans (hb3.mono HB2.out.size)
  have C := Lib.hid (HF.out w3 hb hb.size)
  clear hb hb3 IX HW2
  go_wp2_with fail
  refine C.out.mono ?_
  rintro e w4 ⟨p, rfl, hq⟩
  have HQ := Lib.hid hq
  clear hq
  go_wp2_with fail
  exact HQ.out
theorem cnotab_any (s : ByteArray) (hs : s = nmB 0 ∨ s = nmB 7 ∨ s = ⟨#[120]⟩) (w : World) : Calls Tryz.prog 23 #[.string s] w fun e w' => e = .returned (.pointer none) ∧ Below w.heap.size w w' := by
  have key : ∀ v, Calls Tryz.prog 60 #[.int .i64 v] w (fun e w' => e = .returned (.slice none 0 0) ∧ w = w') → True := fun _ _ => trivial
  rcases hs with rfl | rfl | rfl
  · exact ctable_any _ 0 (idx_nm 0 (by decide)) w _ fun w1 hb hs => (cnoof_any 0 w1 (norules_0 w1)).mono fun e w2 ⟨h1, h2⟩ => ⟨none, h1, h1, hb.trans (h2.mono hs)⟩
  · exact ctable_any _ 7 (idx_nm 7 (by decide)) w _ fun w1 hb hs => (cnoof_any 7 w1 (norules_7 w1)).mono fun e w2 ⟨h1, h2⟩ => ⟨none, h1, h1, hb.trans (h2.mono hs)⟩
  · exact ctable_any _ (-1) (by decide +kernel) w _ fun w1 hb hs => (cnoof_any (-1) w1 (norules_m w1)).mono fun e w2 ⟨h1, h2⟩ => ⟨none, h1, h1, hb.trans (h2.mono hs)⟩
theorem ctab_any (k : Nat) (h1 : 1 ≤ k) (h6 : k ≤ 6) (w : World) (h : CodOK w) : Calls Tryz.prog 23 #[.string (nmB k)] w fun e w' => ∃ T, e = .returned (.pointer (some ⟨T, 0, none⟩)) ∧ TabAt w' w'.heap.size T (cdR k) ∧ Below w.heap.size w w' :=
  ctable_any _ (k : Int) (idx_nm k (by omega)) w _ fun w1 hb hs => (cof_any k h1 h6 w1 (h.below hb).tabs).mono fun e w2 ⟨T, e1, e2, _, _, e5⟩ => ⟨_, e1, T, e1, e2, hb.trans (e5.mono hs)⟩
def theCod : CodApi where
  OK := CodOK
  N := fun k => 1 ≤ k ∧ k ≤ 6
  keep := fun h hb => h.below hb
  tabs := fun h => h.tabs
  names := fun w _ => (cnames_any w).mono fun e w' ⟨h1, h2⟩ => ⟨_, _, h1, by subst h2; exact below_allocC _ _⟩
  name := fun w s hs h => ⟨lowT s, lowT_ascii s, cname_any s w hs h.case h.utf _ rfl⟩
  table := fun w k h1 h6 h => ctab_any k h1 h6 w h
  notab := fun w s hs h => cnotab_any s hs w
  D := DT
  dfoot := fun h => h.foot
  dstay := fun h hs hk => h.stay hs hk
  decode := fun w k _ hk h => cdecode_any k hk.1 hk.2 w h
  dall := fun n A c us ts h _ hk _ hn hu h9 _ hv => h.all n A c us ts hk.1 hk.2 hn hu h9 hv
  E := ET
  efoot := fun h => h.foot
  estay := fun h hs hk => h.stay hs hk
  encode := fun w k _ hk h => cencode_any k hk.1 hk.2 w h
  encode8 := fun w hk => absurd hk (by decide)
  eall := fun n A c us ts h _ hk _ hn hu h9 hv => h.all n A c us ts hk.1 hk.2 hn hu h9 hv
end Go.Proofs.YtmenjcdmdmngcaaGreatDoor
