/- Texts of this seat, one behind the other: CdL, CdLn. -/
import Derived.Test.YtncpokioagpclaaGreatDoorZ34
import Derived.Test.YtncpokioagpclaaGreatDoorZ5
import Derived.Test.YtncpokioagpclaaGreatDoorZ39
import Derived.Maps.OwnSet
import Derived.Carry
import Derived.Lib.MapLaws
namespace Go.Proofs.YtncpokioagpclaaGreatDoor
set_option linter.unusedVariables false
set_option linter.unusedSimpArgs false
set_option linter.unnecessarySimpa false
open Go.RowKit Go.Maps
/-- what a name means among pairs -/
def lookS (ps : List (List UInt8 × Int)) (s : List UInt8) : Option Int := (ps.find? fun p => p.1 == s).map (·.2)
theorem lookS_app (ps : List (List UInt8 × Int)) (p : List UInt8 × Int) (s : List UInt8) (hn : lookS ps p.1 = none) : lookS (ps ++ [p]) s = if s = p.1 then some p.2 else lookS ps s := by
  unfold lookS at *
  rw [List.find?_append]
  by_cases e : s = p.1
  · subst e
    rw [if_pos rfl]
    have h : List.find? (fun q : List UInt8 × Int => q.1 == p.1) ps = none := by simpa using hn
    rw [h]; simp
  · rw [if_neg e]
    cases h : List.find? (fun q : List UInt8 × Int => q.1 == s) ps with
    | some x => simp
    | none => simp [beq_eq_false_iff_ne.2 (Ne.symm e)]
/-- the map's datum has just the pairs -/
structure DictS (D : DataW Unit) (ps : List (List UInt8 × Int)) : Prop where
  is : IsMap D
  has : ∀ s, Maps.has D (.string s) = (lookS ps s).isSome
  val : ∀ s, D.atKey (.string s) (.lit (.int .i64 0)) = .lit (.int .i64 ((lookS ps s).getD 0))
theorem DictS.nil : DictS (.map []) [] := ⟨isMap_empty, fun z => rfl, fun z => rfl⟩
theorem DictS.put {D : DataW Unit} {ps : List (List UInt8 × Int)} (h : DictS D ps) {p : List UInt8 × Int} (hn : lookS ps p.1 = none) : DictS (D.put (.string p.1) (.lit (.int .i64 p.2))) (ps ++ [p]) := by
  have hk : WideAt.IsKeyLit (.string p.1) := trivial
  refine ⟨h.is.put _ _, fun z => ?_, fun z => ?_⟩
  · rw [lookS_app ps p z hn]
    by_cases e : z = p.1
    · subst e; rw [if_pos rfl, has_put_same h.is hk]; rfl
    · rw [if_neg e, has_put_other (by simpa using e), h.has]
  · rw [lookS_app ps p z hn]
    by_cases e : z = p.1
    · subst e; rw [if_pos rfl, atKey_put_same h.is hk]; rfl
    · rw [if_neg e, atKey_put_other (by simpa using e)]; exact h.val z
/-- the other names -/
def othP : List (List UInt8 × Int) := [([117, 116, 102, 56], 0), ([117, 115, 45, 97, 115, 99, 105, 105], 1), ([118, 105, 115, 99, 105, 105, 49, 46, 49, 45, 49], 2), ([116, 99, 118, 110], 3), ([97, 98, 99], 3), ([118, 110, 105, 45, 119, 105, 110], 4), ([116, 105, 115, 54, 50, 48], 5), ([105, 115, 111, 45, 56, 56, 53, 57, 45, 49, 49], 5), ([105, 115, 99, 105, 105, 45, 57, 49], 7)]
theorem nm0 : (nmB 0).toList = [117, 116, 102, 45, 56] := by decide +kernel
theorem nm1 : (nmB 1).toList = [97, 115, 99, 105, 105] := by decide +kernel
theorem nm2 : (nmB 2).toList = [118, 105, 115, 99, 105, 105] := by decide +kernel
theorem nm3 : (nmB 3).toList = [116, 99, 118, 110, 51] := by decide +kernel
theorem nm4 : (nmB 4).toList = [118, 110, 105] := by decide +kernel
theorem nm5 : (nmB 5).toList = [116, 105, 115, 45, 54, 50, 48] := by decide +kernel
theorem nm6 : (nmB 6).toList = [116, 115, 99, 105, 105] := by decide +kernel
theorem nm7 : (nmB 7).toList = [105, 115, 99, 105, 105] := by decide +kernel
/-- what a small name means, by its bytes -/
def nameL (l : List UInt8) : Option Nat :=
  if l = [117, 116, 102, 45, 56] ∨ l = [117, 116, 102, 56] then some 0
  else if l = [97, 115, 99, 105, 105] ∨ l = [117, 115, 45, 97, 115, 99, 105, 105] then some 1
  else if l = [118, 105, 115, 99, 105, 105] ∨ l = [118, 105, 115, 99, 105, 105, 49, 46, 49, 45, 49] then some 2
  else if l = [116, 99, 118, 110, 51] ∨ l = [116, 99, 118, 110] ∨ l = [97, 98, 99] then some 3
  else if l = [118, 110, 105] ∨ l = [118, 110, 105, 45, 119, 105, 110] then some 4
  else if l = [116, 105, 115, 45, 54, 50, 48] ∨ l = [116, 105, 115, 54, 50, 48] ∨ l = [105, 115, 111, 45, 56, 56, 53, 57, 45, 49, 49] then some 5
  else if l = [116, 115, 99, 105, 105] then some 6
  else if l = [105, 115, 99, 105, 105] ∨ l = [105, 115, 99, 105, 105, 45, 57, 49] then some 7
  else none
theorem nameB_L (t : ByteArray) : nameB t = nameL t.toList := by
  unfold nameB nameL
  rw [show "utf-8".toUTF8.toList = [117, 116, 102, 45, 56] by decide +kernel, show "utf8".toUTF8.toList = [117, 116, 102, 56] by decide +kernel,
    show "ascii".toUTF8.toList = [97, 115, 99, 105, 105] by decide +kernel, show "us-ascii".toUTF8.toList = [117, 115, 45, 97, 115, 99, 105, 105] by decide +kernel,
    show "viscii".toUTF8.toList = [118, 105, 115, 99, 105, 105] by decide +kernel, show "viscii1.1-1".toUTF8.toList = [118, 105, 115, 99, 105, 105, 49, 46, 49, 45, 49] by decide +kernel,
    show "tcvn3".toUTF8.toList = [116, 99, 118, 110, 51] by decide +kernel, show "tcvn".toUTF8.toList = [116, 99, 118, 110] by decide +kernel, show "abc".toUTF8.toList = [97, 98, 99] by decide +kernel,
    show "vni".toUTF8.toList = [118, 110, 105] by decide +kernel, show "vni-win".toUTF8.toList = [118, 110, 105, 45, 119, 105, 110] by decide +kernel,
    show "tis-620".toUTF8.toList = [116, 105, 115, 45, 54, 50, 48] by decide +kernel, show "tis620".toUTF8.toList = [116, 105, 115, 54, 50, 48] by decide +kernel, show "iso-8859-11".toUTF8.toList = [105, 115, 111, 45, 56, 56, 53, 57, 45, 49, 49] by decide +kernel,
    show "tscii".toUTF8.toList = [116, 115, 99, 105, 105] by decide +kernel,
    show "iscii".toUTF8.toList = [105, 115, 99, 105, 105] by decide +kernel, show "iscii-91".toUTF8.toList = [105, 115, 99, 105, 105, 45, 57, 49] by decide +kernel]
theorem nameL_first (l : List UInt8) (k : Nat) (hk : k < 8) (h : (nmB k).toList = l) : nameL l = some k := by
  subst h
  match k, hk with
  | 0, _ => decide +kernel
  | 1, _ => decide +kernel
  | 2, _ => decide +kernel
  | 3, _ => decide +kernel
  | 4, _ => decide +kernel
  | 5, _ => decide +kernel
  | 6, _ => decide +kernel
  | 7, _ => decide +kernel
theorem nameL_other (l : List UInt8) (h : ∀ j, j < 8 → (nmB j).toList ≠ l) : nameL l = (lookS othP l).map Int.toNat := by
  have h0 := h 0 (by decide)
  have h1 := h 1 (by decide)
  have h2 := h 2 (by decide)
  have h3 := h 3 (by decide)
  have h4 := h 4 (by decide)
  have h5 := h 5 (by decide)
  have h6 := h 6 (by decide)
  have h7 := h 7 (by decide)
  rw [nm0] at h0
  rw [nm1] at h1
  rw [nm2] at h2
  rw [nm3] at h3
  rw [nm4] at h4
  rw [nm5] at h5
  rw [nm6] at h6
  rw [nm7] at h7
  clear h
  by_cases c0 : l = [117, 116, 102, 56]
  · subst c0; decide +kernel
  by_cases c1 : l = [117, 115, 45, 97, 115, 99, 105, 105]
  · subst c1; decide +kernel
  by_cases c2 : l = [118, 105, 115, 99, 105, 105, 49, 46, 49, 45, 49]
  · subst c2; decide +kernel
  by_cases c3 : l = [116, 99, 118, 110]
  · subst c3; decide +kernel
  by_cases c4 : l = [97, 98, 99]
  · subst c4; decide +kernel
  by_cases c5 : l = [118, 110, 105, 45, 119, 105, 110]
  · subst c5; decide +kernel
  by_cases c6 : l = [116, 105, 115, 54, 50, 48]
  · subst c6; decide +kernel
  by_cases c7 : l = [105, 115, 111, 45, 56, 56, 53, 57, 45, 49, 49]
  · subst c7; decide +kernel
  by_cases c8 : l = [105, 115, 99, 105, 105, 45, 57, 49]
  · subst c8; decide +kernel
  have e1 : nameL l = none := by
    unfold nameL
    simp only [Ne.symm h0, Ne.symm h1, Ne.symm h2, Ne.symm h3, Ne.symm h4, Ne.symm h5, Ne.symm h6, Ne.symm h7, c0, c1, c2, c3, c4, c5, c6, c7, c8, or_self, if_false]
  have e2 : lookS othP l = none := by
    unfold lookS othP
    simp [List.find?, beq_eq_false_iff_ne.2 (Ne.symm c0), beq_eq_false_iff_ne.2 (Ne.symm c1), beq_eq_false_iff_ne.2 (Ne.symm c2), beq_eq_false_iff_ne.2 (Ne.symm c3), beq_eq_false_iff_ne.2 (Ne.symm c4), beq_eq_false_iff_ne.2 (Ne.symm c5), beq_eq_false_iff_ne.2 (Ne.symm c6), beq_eq_false_iff_ne.2 (Ne.symm c7), beq_eq_false_iff_ne.2 (Ne.symm c8)]
  rw [e1, e2]; rfl
/-- made small -/
def lowT (s : ByteArray) : ByteArray := ⟨(Lib.toLowerD s.data.toList).toArray⟩
theorem enc_le4 (r : Int) : (Lib.encodeRune r).length ≤ 4 := by
  unfold Lib.encodeRune Lib.encodeRuneZ
  rw [List.length_map]
  repeat' split
  all_goals simp
theorem low_len4 (f : Int → Int) : ∀ (n : Nat) (l : List UInt8), l.length ≤ n → (Lib.mapD f l).length ≤ 4 * l.length
  | 0, l, hn => by
    obtain rfl : l = [] := List.eq_nil_of_length_eq_zero (by omega)
    simp [Lib.mapD_nil]
  | n + 1, l, hn => by
    by_cases hne : l = []
    · subst hne; simp [Lib.mapD_nil]
    have hw := Lib.decodeL_width l
    have hle := Lib.decodeL_le l hne
    have ih := low_len4 f n (l.drop (Lib.decodeL l).2) (by rw [List.length_drop]; omega)
    rw [List.length_drop] at ih
    rw [Lib.mapD_step f l hne, List.length_append]
    have hh : (if 0 ≤ f (Lib.decodeL l).1 then Lib.encodeRune (f (Lib.decodeL l).1) else []).length ≤ 4 := by
      split
      · exact enc_le4 _
      · simp
    omega
theorem lowT_size (s : ByteArray) : (lowT s).size ≤ 4 * s.size := by
  have h := low_len4 Lib.toLowerU _ s.data.toList (Nat.le_refl _)
  have e : s.data.toList.length = s.size := rfl
  rw [e] at h
  exact h
theorem low_all : ∀ i : Fin 256, Lib.lowerB (UInt8.ofNat i.val) = lowC (UInt8.ofNat i.val) := by decide +kernel
theorem low_same (b : UInt8) : Lib.lowerB b = lowC b := by
  have h := low_all ⟨b.toNat, b.toNat_lt⟩
  simpa using h
theorem lowT_ascii (s : ByteArray) (h : isAscii s = true) : lowT s = lowB s := by
  have ha : ∀ b ∈ s.data.toList, b.toNat < 128 := fun b hb => by
    have := of_decide_eq_true (List.all_eq_true.1 h b hb)
    exact UInt8.lt_iff_toNat_lt.1 this
  unfold lowT lowB Lib.toLowerD
  rw [show Lib.mapD Lib.toLowerU s.data.toList = Lib.toLowerD s.data.toList from rfl, Go.Lib.toLowerD_ascii _ ha]
  have e : Lib.toLowerA s.data.toList = s.data.toList.map lowC := List.map_congr_left fun b _ => low_same b
  rw [e]
/-- 'Op.insert', as a map's literal has it, runs as 'm[k] = v' does -/
theorem wpList_insert_own {H : Type} {P : Program} (w : World) {ops : Array Oper} {rest : List Oper} {o : Oper} {a : Act} {Q : Exit → Act → World → Prop}
    (hg : o.guard = none) (m x v : Operand) (t : TypeId) (hop : o.op = Op.insert t m x v)
    (k e : TypeId) (K : Keyed P k) (ht : P.underlying t = some (.map k e)) (R : Value → Option (DataW H × List MemPlace)) (b n : Nat) (D : DataW H)
    (hm : a.eval m = .map (some b)) (hown : w.ownsMap P k R b n D) (hn : n < maxLen) (key val : Value) (kl : Lit) (hx : a.eval x = key) (hv : a.eval v = val) (hkey : keyOf P k key = some kl)
    (d : DataW H) (ps : List MemPlace) (hval : R val = some (d, ps))
    (hK : ∀ w', w'.ownsMap P k R b (n + 1) (D.put kl d) → w.grownBy w' (some b) → wpList P ops Q rest (a.put o.dst undef) w') :
    wpList P ops Q (o :: rest) a w := by
  refine wpList_plain hg fun K' hK' => ?_
  obtain ⟨w', hrun, r1, r2⟩ := hown.update K ht hn hkey hval
  unfold Oper.wp
  simp [execOp, hop, hm, hx, hv, hrun, Result.andThen]
  exact hK' _ _ (hK w' r1 r2)
theorem lawS : Keyed Tryz.prog 9 := string_keyed Tryz.underlying9
theorem zeroInt (w : World) : (zeroValue 3).run Tryz.prog w = .ok (.int .i64 0) w := by kernel_rfl
/-- a map of names in block g -/
def MapS (w : World) (g n : Nat) (ps : List (List UInt8 × Int)) : Prop := ∃ D : DataW Unit, w.ownsMap Tryz.prog 9 (plainElem Tryz.prog 3) g n D ∧ DictS D ps
set_option maxRecDepth 100000 in
set_option maxHeartbeats 3200000 in
theorem others_any (w : World) : Calls Tryz.prog 77 #[] w fun e w' => ∃ g, e = .returned (.map (some g)) ∧ MapS w' g 9 othP ∧ w.heap.size ≤ g ∧ Below w.heap.size w w' := by
  have hmm := @run_makeMap Tryz.prog
  have HB0 := Lib.hid ((Below.refl w.heap.size w).alloc (Nat.le_refl _) (.map #[] 0))
  have HM0 := Lib.hid (World.ownsMap_made w Tryz.prog 9 (plainElem (H := Unit) Tryz.prog 3))
  have HD0 := Lib.hid DictS.nil
  go_enter Tryz.func77, Tryz.ntmps77
  go_wp2_with (refine wpList_insert_own _ rfl _ _ _ 153 rfl 9 3 lawS Tryz.underlying153 _ w.heap.size 0 (.map []) rfl HM0.out (by decide) _ _ (.string [117, 116, 102, 56]) rfl rfl (WideMaps.keyOf_string_mk Tryz.underlying9 (by decide)) (.lit (.int .i64 0)) [] (plainElem_int Tryz.underlying3 (by decide)) ?_)
  intro w1 hm1 hg1
  have HM1 := Lib.hid hm1
  have HD1 := Lib.hid (HD0.out.put (p := ([117, 116, 102, 56], 0)) (by decide +kernel))
  have HB1 := Lib.hid (HB0.out.grown hg1 (by have := HB0.out.size; omega) (fun k hk => by injection hk with hk; omega))
  clear hm1 hg1
  obtain ⟨D1, hD1⟩ : ∃ D, ((.map []) : DataW Unit).put (.string [117, 116, 102, 56]) (.lit (.int .i64 0)) = D := ⟨_, rfl⟩
  simp only [hD1] at HM1 HD1
  clear hD1
  go_wp2_with (refine wpList_insert_own _ rfl _ _ _ 153 rfl 9 3 lawS Tryz.underlying153 _ w.heap.size 1 D1 rfl HM1.out (by decide) _ _ (.string [117, 115, 45, 97, 115, 99, 105, 105]) rfl rfl (WideMaps.keyOf_string_mk Tryz.underlying9 (by decide)) (.lit (.int .i64 1)) [] (plainElem_int Tryz.underlying3 (by decide)) ?_)
  intro w2 hm2 hg2
  have HM2 := Lib.hid hm2
  have HD2 := Lib.hid (HD1.out.put (p := ([117, 115, 45, 97, 115, 99, 105, 105], 1)) (by decide +kernel))
  have HB2 := Lib.hid (HB1.out.grown hg2 (by have := HB1.out.size; omega) (fun k hk => by injection hk with hk; omega))
  clear hm2 hg2
  obtain ⟨D2, hD2⟩ : ∃ D, (D1 : DataW Unit).put (.string [117, 115, 45, 97, 115, 99, 105, 105]) (.lit (.int .i64 1)) = D := ⟨_, rfl⟩
  simp only [hD2] at HM2 HD2
  clear hD2
  go_wp2_with (refine wpList_insert_own _ rfl _ _ _ 153 rfl 9 3 lawS Tryz.underlying153 _ w.heap.size 2 D2 rfl HM2.out (by decide) _ _ (.string [118, 105, 115, 99, 105, 105, 49, 46, 49, 45, 49]) rfl rfl (WideMaps.keyOf_string_mk Tryz.underlying9 (by decide)) (.lit (.int .i64 2)) [] (plainElem_int Tryz.underlying3 (by decide)) ?_)
  intro w3 hm3 hg3
  have HM3 := Lib.hid hm3
  have HD3 := Lib.hid (HD2.out.put (p := ([118, 105, 115, 99, 105, 105, 49, 46, 49, 45, 49], 2)) (by decide +kernel))
  have HB3 := Lib.hid (HB2.out.grown hg3 (by have := HB2.out.size; omega) (fun k hk => by injection hk with hk; omega))
  clear hm3 hg3
  obtain ⟨D3, hD3⟩ : ∃ D, (D2 : DataW Unit).put (.string [118, 105, 115, 99, 105, 105, 49, 46, 49, 45, 49]) (.lit (.int .i64 2)) = D := ⟨_, rfl⟩
  simp only [hD3] at HM3 HD3
  clear hD3
  go_wp2_with (refine wpList_insert_own _ rfl _ _ _ 153 rfl 9 3 lawS Tryz.underlying153 _ w.heap.size 3 D3 rfl HM3.out (by decide) _ _ (.string [116, 99, 118, 110]) rfl rfl (WideMaps.keyOf_string_mk Tryz.underlying9 (by decide)) (.lit (.int .i64 3)) [] (plainElem_int Tryz.underlying3 (by decide)) ?_)
  intro w4 hm4 hg4
  have HM4 := Lib.hid hm4
  have HD4 := Lib.hid (HD3.out.put (p := ([116, 99, 118, 110], 3)) (by decide +kernel))
  have HB4 := Lib.hid (HB3.out.grown hg4 (by have := HB3.out.size; omega) (fun k hk => by injection hk with hk; omega))
  clear hm4 hg4
  obtain ⟨D4, hD4⟩ : ∃ D, (D3 : DataW Unit).put (.string [116, 99, 118, 110]) (.lit (.int .i64 3)) = D := ⟨_, rfl⟩
  simp only [hD4] at HM4 HD4
  clear hD4
  go_wp2_with (refine wpList_insert_own _ rfl _ _ _ 153 rfl 9 3 lawS Tryz.underlying153 _ w.heap.size 4 D4 rfl HM4.out (by decide) _ _ (.string [97, 98, 99]) rfl rfl (WideMaps.keyOf_string_mk Tryz.underlying9 (by decide)) (.lit (.int .i64 3)) [] (plainElem_int Tryz.underlying3 (by decide)) ?_)
  intro w5 hm5 hg5
  have HM5 := Lib.hid hm5
  have HD5 := Lib.hid (HD4.out.put (p := ([97, 98, 99], 3)) (by decide +kernel))
  have HB5 := Lib.hid (HB4.out.grown hg5 (by have := HB4.out.size; omega) (fun k hk => by injection hk with hk; omega))
  clear hm5 hg5
  obtain ⟨D5, hD5⟩ : ∃ D, (D4 : DataW Unit).put (.string [97, 98, 99]) (.lit (.int .i64 3)) = D := ⟨_, rfl⟩
  simp only [hD5] at HM5 HD5
  clear hD5
  go_wp2_with (refine wpList_insert_own _ rfl _ _ _ 153 rfl 9 3 lawS Tryz.underlying153 _ w.heap.size 5 D5 rfl HM5.out (by decide) _ _ (.string [118, 110, 105, 45, 119, 105, 110]) rfl rfl (WideMaps.keyOf_string_mk Tryz.underlying9 (by decide)) (.lit (.int .i64 4)) [] (plainElem_int Tryz.underlying3 (by decide)) ?_)
  intro w6 hm6 hg6
  have HM6 := Lib.hid hm6
  have HD6 := Lib.hid (HD5.out.put (p := ([118, 110, 105, 45, 119, 105, 110], 4)) (by decide +kernel))
  have HB6 := Lib.hid (HB5.out.grown hg6 (by have := HB5.out.size; omega) (fun k hk => by injection hk with hk; omega))
  clear hm6 hg6
  obtain ⟨D6, hD6⟩ : ∃ D, (D5 : DataW Unit).put (.string [118, 110, 105, 45, 119, 105, 110]) (.lit (.int .i64 4)) = D := ⟨_, rfl⟩
  simp only [hD6] at HM6 HD6
  clear hD6
  go_wp2_with (refine wpList_insert_own _ rfl _ _ _ 153 rfl 9 3 lawS Tryz.underlying153 _ w.heap.size 6 D6 rfl HM6.out (by decide) _ _ (.string [116, 105, 115, 54, 50, 48]) rfl rfl (WideMaps.keyOf_string_mk Tryz.underlying9 (by decide)) (.lit (.int .i64 5)) [] (plainElem_int Tryz.underlying3 (by decide)) ?_)
  intro w7 hm7 hg7
  have HM7 := Lib.hid hm7
  have HD7 := Lib.hid (HD6.out.put (p := ([116, 105, 115, 54, 50, 48], 5)) (by decide +kernel))
  have HB7 := Lib.hid (HB6.out.grown hg7 (by have := HB6.out.size; omega) (fun k hk => by injection hk with hk; omega))
  clear hm7 hg7
  obtain ⟨D7, hD7⟩ : ∃ D, (D6 : DataW Unit).put (.string [116, 105, 115, 54, 50, 48]) (.lit (.int .i64 5)) = D := ⟨_, rfl⟩
  simp only [hD7] at HM7 HD7
  clear hD7
  go_wp2_with (refine wpList_insert_own _ rfl _ _ _ 153 rfl 9 3 lawS Tryz.underlying153 _ w.heap.size 7 D7 rfl HM7.out (by decide) _ _ (.string [105, 115, 111, 45, 56, 56, 53, 57, 45, 49, 49]) rfl rfl (WideMaps.keyOf_string_mk Tryz.underlying9 (by decide)) (.lit (.int .i64 5)) [] (plainElem_int Tryz.underlying3 (by decide)) ?_)
  intro w8 hm8 hg8
  have HM8 := Lib.hid hm8
  have HD8 := Lib.hid (HD7.out.put (p := ([105, 115, 111, 45, 56, 56, 53, 57, 45, 49, 49], 5)) (by decide +kernel))
  have HB8 := Lib.hid (HB7.out.grown hg8 (by have := HB7.out.size; omega) (fun k hk => by injection hk with hk; omega))
  clear hm8 hg8
  obtain ⟨D8, hD8⟩ : ∃ D, (D7 : DataW Unit).put (.string [105, 115, 111, 45, 56, 56, 53, 57, 45, 49, 49]) (.lit (.int .i64 5)) = D := ⟨_, rfl⟩
  simp only [hD8] at HM8 HD8
  clear hD8
  go_wp2_with (refine wpList_insert_own _ rfl _ _ _ 153 rfl 9 3 lawS Tryz.underlying153 _ w.heap.size 8 D8 rfl HM8.out (by decide) _ _ (.string [105, 115, 99, 105, 105, 45, 57, 49]) rfl rfl (WideMaps.keyOf_string_mk Tryz.underlying9 (by decide)) (.lit (.int .i64 7)) [] (plainElem_int Tryz.underlying3 (by decide)) ?_)
  intro w9 hm9 hg9
  have HM9 := Lib.hid hm9
  have HD9 := Lib.hid (HD8.out.put (p := ([105, 115, 99, 105, 105, 45, 57, 49], 7)) (by decide +kernel))
  have HB9 := Lib.hid (HB8.out.grown hg9 (by have := HB8.out.size; omega) (fun k hk => by injection hk with hk; omega))
  clear hm9 hg9
  obtain ⟨D9, hD9⟩ : ∃ D, (D8 : DataW Unit).put (.string [105, 115, 99, 105, 105, 45, 57, 49]) (.lit (.int .i64 7)) = D := ⟨_, rfl⟩
  simp only [hD9] at HM9 HD9
  clear hD9
  go_wp2_with fail
  go_ret
  exact ⟨_, rfl, ⟨D9, HM9.out, HD9.out⟩, Nat.le_refl _, HB9.out⟩
end Go.Proofs.YtncpokioagpclaaGreatDoor
namespace Go.Proofs.YtncpokioagpclaaGreatDoor
set_option linter.unusedVariables false
set_option linter.unusedSimpArgs false
set_option linter.unnecessarySimpa false
open Go.RowKit Go.Maps
set_option maxRecDepth 100000 in
theorem cnames_any (w : World) : Calls Tryz.prog 43 #[] w fun e w' => e = .returned (.slice (some ⟨w.heap.size, 0, none⟩) 8 8) ∧ w' = w.alloc (.cells nmC 9) := by
  go_enter Tryz.func43, Tryz.ntmps43
  go_wp2
  go_ret
  exact ⟨rfl, rfl⟩
/-- where a name stands -/
def idxF (s : ByteArray) : Int := match firstN (fun j => s.toList == (nmB j).toList) 8 with | some k => (k : Int) | none => -1
set_option maxRecDepth 100000 in
set_option maxHeartbeats 3200000 in
theorem cindex_any (s : ByteArray) (w : World) (g : Nat) (hg : g < w.heap.size) (hc : ∀ j, j < 8 → w.cell? ⟨g, j, none⟩ = some (.string (nmB j))) (v : Int) (hv : idxF s = v) :
    Calls Tryz.prog 51 #[.slice (some ⟨g, 0, none⟩) 8 8, .string s] w fun e w' => e = .returned (.int .i64 v) ∧ Below w.heap.size w w' := by
  have HV := Lib.hid hv
  have HC := Lib.hid hc
  have HG := Lib.hid hg
  have HB0 : Hid (Below w.heap.size w w) := Lib.hid (Below.refl _ _)
  have HN0 : Hid (NoneN (fun j => s.toList == (nmB j).toList) 0) := Lib.hid (fun j hj => by omega)
  clear hv hc hg
  go_enter Tryz.func51, Tryz.ntmps51
  go_wp2
  go_loopw [8] (fun i wr => ∃ K : Nat, K ≤ 8 ∧ i = .int .i64 K ∧ Hid (NoneN (fun j => s.toList == (nmB j).toList) K) ∧ Hid (Below w.heap.size w wr)) (fun i _ => 8 - (intOf i).toNat)
  case atStart => exact ⟨0, by omega, rfl, HN0, HB0⟩
  case round =>
    clear HN0 HB0
    obtain ⟨K, hK, rfl, hnone, hb⟩ := hrel
    by_cases hKq : K = 8
    · have hKl : ¬ K < 8 := by omega
      have HNO := Lib.hid (firstN_no (show ∀ j, j < 8 → _ from by rw [← hKq]; exact hnone.out))
      have hvv : (-1 : Int) = v := by rw [← HV.out]; unfold idxF; rw [HNO.out]
      have HV2 := Lib.hid hvv
      clear hKq hvv
      go_wp2_with fail
      go_ret
      exact ⟨by first | rfl | (rw [← HV2.out]; rfl), hb.out⟩
    have hKl : K < 8 := by omega
    have j3 : (0 : Int) ≤ (K : Int) := by omega
    have j4 : (K : Int) < 8 := by omega
    have hx := (hb.out.cell (p := ⟨g, K, none⟩) HG.out).trans (HC.out K hKl)
    cases hbq : (s.toList == (nmB K).toList)
    · have HNX := Lib.hid (hnone.out.next hbq)
      clear hKq
      go_wp2_with fail
      go_roundw
      case rel => exact ⟨K + 1, by omega, by go_num, HNX, hb⟩
      case measure => simp [intOf]; omega
    · have hvv : (K : Int) = v := by
        rw [← HV.out]; unfold idxF; rw [firstN_yes hnone.out hKl hbq]
      have HV2 := Lib.hid hvv
      clear hKq hvv
      go_wp2_with fail
      go_ret
      exact ⟨by first | rfl | (rw [← HV2.out]; rfl), hb.out⟩
theorem firstN_some {p : Nat → Bool} {n k : Nat} (h : firstN p n = some k) : k < n ∧ p k = true := by
  unfold firstN at h
  have h1 := List.find?_some h
  have h2 := List.mem_of_find?_eq_some h
  exact ⟨List.mem_range.1 h2, h1⟩
theorem firstN_none {p : Nat → Bool} {n : Nat} (h : firstN p n = none) (j : Nat) (hj : j < n) : p j = false := by
  unfold firstN at h
  have := List.find?_eq_none.1 h j (List.mem_range.2 hj)
  simpa using this
/-- a name stands at its place, or among the others, or nowhere -/
theorem idx_cases (t : ByteArray) : (∃ k : Nat, k < 8 ∧ idxF t = k ∧ nameB t = some k) ∨ (idxF t = -1 ∧ nameB t = (lookS othP t.data.toList).map Int.toNat) := by
  unfold idxF
  cases h : firstN (fun j => t.toList == (nmB j).toList) 8 with
  | some k =>
    obtain ⟨h1, h2⟩ := firstN_some h
    exact .inl ⟨k, h1, rfl, by rw [nameB_L]; exact nameL_first _ k h1 (eq_of_beq h2).symm⟩
  | none =>
    refine .inr ⟨rfl, ?_⟩
    rw [nameB_L, nameL_other _ fun j hj e => ?_, ByteArray.toList_eq]
    have := firstN_none h j hj
    rw [e] at this
    simp at this
theorem look_range (s : List UInt8) : ∀ v, lookS othP s = some v → 0 ≤ v ∧ v < 8 := by
  intro v hv
  unfold lookS at hv
  rw [Option.map_eq_some_iff] at hv
  obtain ⟨p, hp, rfl⟩ := hv
  have h1 := List.mem_of_find?_eq_some hp
  have h2 : (othP.all fun p => decide (0 ≤ p.2 ∧ p.2 < 8)) = true := by decide
  exact of_decide_eq_true (List.all_eq_true.1 h2 p h1)
/-- what find answers -/
def findV (o : Option Nat) : Value := match o with | some k => .tuple #[.int .i64 (k : Int), .bool true] | none => .tuple #[.int .i64 0, .bool false]
open Go.Lib in
set_option maxRecDepth 100000 in
set_option maxHeartbeats 3200000 in
theorem cfind_any (s : ByteArray) (w : World) (hs : s.size ≤ 1000) (hV : CaseVar 5 caseA w) (hT : Lib.Utf8Tabs 7 8 w) (o : Option Nat) (ho : nameB (lowT s) = o) :
    Calls Tryz.prog 44 #[.string s] w fun e w' => e = .returned (findV o) ∧ Below w.heap.size w w' := by
  have hsz : (lowT s).size ≤ maxLen := by have := lowT_size s; unfold maxLen; omega
  have C1 : Hid (Calls Tryz.prog 76 #[.string s] w fun e w' => e = .returned (.string (lowT s)) ∧ Below w.heap.size w w') := Lib.hid (toLower_any s w (by omega) hV hT)
  obtain ⟨t, ht⟩ : ∃ t, lowT s = t := ⟨_, rfl⟩
  rw [ht] at C1 ho hsz
  have HSZ := Lib.hid hsz
  have HO := Lib.hid ho
  clear hV hT hs hsz ht ho
  go_enter Tryz.func44, Tryz.ntmps44
  go_wp2_with fail
  refine C1.out.mono ?_
  rintro e w1 ⟨rfl, hb1⟩
  have HB1 := Lib.hid hb1
  have hb2 := below_allocC w1 (.cells nmC 9)
  have hcn := fun j h => names_cell w1 j h
  obtain ⟨W2, hW2⟩ : ∃ W, w1.alloc (.cells nmC 9) = W := ⟨_, rfl⟩
  rw [hW2] at hb2 hcn
  have hg2 : w1.heap.size < W2.heap.size := by rw [← hW2]; simp
  have HB2 := Lib.hid (hb1.trans (hb2.mono hb1.size))
  have HW2 := Lib.hid hW2
  rcases idx_cases t with ⟨k, hk8, hi, hn⟩ | ⟨hi, hn⟩
  · have IX := Lib.hid (cindex_any t W2 w1.heap.size hg2 hcn _ hi)
    have HR : Hid (findV o = .tuple #[.int .i64 (k : Int), .bool true]) := Lib.hid (by rw [← HO.out, hn]; rfl)
    have k3 : (0 : Int) ≤ (k : Int) := by omega
    clear hb1 hb2 hcn hW2 hi hn C1
    go_wp2_with (go_at_call 43; refine (cnames_any w1).mono ?_; rintro e wq ⟨rfl, rfl⟩)
    rw [HW2.out]
    refine IX.out.mono ?_
    rintro e w3 ⟨rfl, hb3⟩
    have HB3 := Lib.hid (HB2.out.trans (hb3.mono HB2.out.size))
    clear hb3 IX HW2
    go_wp2_with fail
    go_ret2
    exact ⟨by rw [HR.out]; rfl, HB3.out⟩
  · have IX := Lib.hid (cindex_any t W2 w1.heap.size hg2 hcn _ hi)
    have HN := Lib.hid hn
    clear hb1 hb2 hcn hW2 hi hn C1
    go_wp2_with (go_at_call 43; refine (cnames_any w1).mono ?_; rintro e wq ⟨rfl, rfl⟩)
    rw [HW2.out]
    refine IX.out.mono ?_
    rintro e w3 ⟨rfl, hb3⟩
    have HB3 := Lib.hid (HB2.out.trans (hb3.mono HB2.out.size))
    clear hb3 IX HW2
    go_wp2_with fail
    refine (others_any w3).mono ?_
    rintro e w4 ⟨g, rfl, hm4, hg4, hb4⟩
    have HB4 := Lib.hid (HB3.out.trans (hb4.mono HB3.out.size))
    obtain ⟨D, hD, hd⟩ := hm4
    have HM := Lib.hid hD
    have HKEY := Lib.hid (WideMaps.keyOf_string_mk (P := Tryz.prog) Tryz.underlying9 HSZ.out)
    have HHAS := Lib.hid (hd.has t.data.toList)
    have HVAL := Lib.hid (hd.val t.data.toList)
    have hres : findV o = .tuple #[.int .i64 ((lookS othP t.data.toList).getD 0), .bool (lookS othP t.data.toList).isSome] := by
      rw [← HO.out, HN.out]
      cases hl : lookS othP t.data.toList with
      | none => rfl
      | some v =>
        have h1 := look_range _ v hl
        show Value.tuple #[.int .i64 ((v.toNat : Nat) : Int), .bool true] = _
        rw [Int.toNat_of_nonneg h1.1]
        rfl
    obtain ⟨q, hq⟩ : ∃ q, (lookS othP t.data.toList).getD 0 = q := ⟨_, rfl⟩
    obtain ⟨y, hy⟩ : ∃ y, (lookS othP t.data.toList).isSome = y := ⟨_, rfl⟩
    rw [hq] at HVAL hres
    rw [hy] at HHAS hres
    have HR := Lib.hid hres
    clear hD hd hq hy hres hb4 hg4
    go_wp2_with (at_lookup; refine wpList_lookup_own_ok_int _ rfl _ _ 153 rfl 9 3 .i64 lawS Tryz.underlying153 Tryz.underlying3 (zeroInt _) g 9 D rfl HM.out _ _ rfl HKEY.out ?_; intro cc hat hwc; rw [HHAS.out]; (obtain rfl : q = cc := by rw [HVAL.out] at hat; injection hat with hat; injection hat); clear hat hwc)
    go_ret2
    exact ⟨by rw [HR.out]; rfl, HB4.out⟩
open Go.Lib in
set_option maxRecDepth 100000 in
set_option maxHeartbeats 3200000 in
theorem cname_any (s : ByteArray) (w : World) (hs : s.size ≤ 1000) (hV : CaseVar 5 caseA w) (hT : Lib.Utf8Tabs 7 8 w) (o : Option Nat) (ho : nameB (lowT s) = o) :
    Calls Tryz.prog 30 #[.string s] w fun e w' => e = .returned (nameV o) ∧ Below w.heap.size w w' := by
  have C1 := Lib.hid (cfind_any s w hs hV hT o ho)
  have hlt : ∀ k, o = some k → k < 8 := by
    intro k hk
    rcases idx_cases (lowT s) with ⟨j, hj, _, h2⟩ | ⟨_, h2⟩
    · rw [ho, hk] at h2; injection h2 with h2; omega
    · rw [ho, hk] at h2
      cases hl : lookS othP (lowT s).data.toList with
      | none => rw [hl] at h2; cases h2
      | some v =>
        rw [hl] at h2
        injection h2 with h2
        have h1 := look_range _ v hl
        omega
  clear hV hT hs ho
  cases o with
  | none =>
    go_enter Tryz.func30, Tryz.ntmps30
    go_wp2_with fail
    refine C1.out.mono ?_
    rintro e w1 ⟨rfl, hb1⟩
    have HB1 := Lib.hid hb1
    clear hb1 C1
    simp only [findV]
    go_wp2_with fail
    go_ret2
    exact ⟨rfl, HB1.out⟩
  | some k =>
    have hk8 := hlt k rfl
    have k3 : (0 : Int) ≤ (k : Int) := by omega
    have k4 : (k : Int) < 8 := by omega
    clear hlt
    go_enter Tryz.func30, Tryz.ntmps30
    go_wp2_with fail
    refine C1.out.mono ?_
    rintro e w1 ⟨rfl, hb1⟩
    have HB1 := Lib.hid hb1
    simp only [findV]
    have hc := names_cell w1 k hk8
    have HB2 := Lib.hid (hb1.trans ((below_allocC w1 (.cells nmC 9)).mono hb1.size))
    clear hb1 C1
    go_wp2_with (go_at_call 43; refine (cnames_any w1).mono ?_; rintro e wq ⟨rfl, rfl⟩)
    go_ret2
    exact ⟨rfl, HB2.out⟩
theorem nm_low : ∀ k, k < 8 → nameB (lowB (nmB k)) = some k ∧ isAscii (nmB k) = true ∧ (nmB k).size ≤ 1000 := by
  intro k hk
  have h3 := List.all_eq_true.1 (show ((List.range 8).all fun j => decide (nameB (lowB (nmB j)) = some j ∧ isAscii (nmB j) = true ∧ (nmB j).size ≤ 1000)) = true by decide +kernel) k (List.mem_range.2 hk)
  exact of_decide_eq_true h3
end Go.Proofs.YtncpokioagpclaaGreatDoor
