/- Layer 6: the document's examples hold. -/
import Derived.Test.YtmjcnopkckkaoaaMatU
import Derived.Test.YtmjcnopkckkaoaaUsNew
namespace Go.Proofs.Ytmjcnopkckkaoaa
set_option linter.unusedVariables false
open Go.RowKit
def awM : List Rl := [([1], [7]), ([1, 2], [8])]
def awMt : List Tk := [⟨0, 1, [7], 0⟩, ⟨1, 1, [], 3⟩]
theorem awM_1 : drain awM 0 ([] ++ [1]) = ([], [1], 1) := drain_open (rs := awM) (by simp) (by decide)
theorem awM_2 : drain awM 0 ([1] ++ [3]) = (awMt, [], 3) := by
  show drain awM 0 [1, 3] = _
  rw [drain_cons (o := [7]) (s := 1) (e := 0) (by simp) (by decide) (by decide) (by omega)]
  show (_ :: (drain awM 1 [3]).1, (drain awM 1 [3]).2.1, (drain awM 1 [3]).2.2 + 2) = _
  rw [drain_cons (o := []) (s := 1) (e := 3) (by simp) (by decide) (by decide) (by omega)]
  show (_ :: _ :: (drain awM 2 []).1, (drain awM 2 []).2.1, (drain awM 2 []).2.2 + 1 + 2) = _
  rw [drain_nil]; rfl
theorem awM_at (w : World) (s : Nat) (hs : w.heap.size = s) :
    RsAt (((((w.alloc (.cells #[.int .i64 1] 3)).alloc (.cells #[.int .i64 7] 3)).alloc (.cells #[.int .i64 1, .int .i64 2] 3)).alloc (.cells #[.int .i64 8] 3)).alloc (.cells #[.slice (some ⟨s, 0, none⟩) 1 1, .slice (some ⟨s + 1, 0, none⟩) 1 1, .slice (some ⟨s + 2, 0, none⟩) 2 2, .slice (some ⟨s + 3, 0, none⟩) 1 1] 53)) (s + 5) (some ⟨s + 4, 0, none⟩) 2 2 awM := by
  have u1 := (((((us_newL w s hs [1] #[.int .i64 1] rfl 1 rfl (by simp [maxLen])).up (.cells #[.int .i64 7] 3) (Y := (· < s + 5)) (fun b _ h => by omega)).up (.cells #[.int .i64 1, .int .i64 2] 3) (Y := (· < s + 5)) (fun b _ h => h)).up (.cells #[.int .i64 8] 3) (Y := (· < s + 5)) (fun b _ h => h)).up (.cells #[.slice (some ⟨s, 0, none⟩) 1 1, .slice (some ⟨s + 1, 0, none⟩) 1 1, .slice (some ⟨s + 2, 0, none⟩) 2 2, .slice (some ⟨s + 3, 0, none⟩) 1 1] 53) (Y := (· < s + 5)) (fun b _ h => h))
  have u2 := ((((us_newL (w.alloc (.cells #[.int .i64 1] 3)) (s + 1) (by simp [hs]) [7] #[.int .i64 7] rfl 1 rfl (by simp [maxLen])).up (.cells #[.int .i64 1, .int .i64 2] 3) (Y := (· < s + 5)) (fun b _ h => by omega)).up (.cells #[.int .i64 8] 3) (Y := (· < s + 5)) (fun b _ h => h)).up (.cells #[.slice (some ⟨s, 0, none⟩) 1 1, .slice (some ⟨s + 1, 0, none⟩) 1 1, .slice (some ⟨s + 2, 0, none⟩) 2 2, .slice (some ⟨s + 3, 0, none⟩) 1 1] 53) (Y := (· < s + 5)) (fun b _ h => h))
  have u3 := (((us_newL ((w.alloc (.cells #[.int .i64 1] 3)).alloc (.cells #[.int .i64 7] 3)) (s + 2) (by simp [hs]) [1, 2] #[.int .i64 1, .int .i64 2] rfl 2 rfl (by simp [maxLen])).up (.cells #[.int .i64 8] 3) (Y := (· < s + 5)) (fun b _ h => by omega)).up (.cells #[.slice (some ⟨s, 0, none⟩) 1 1, .slice (some ⟨s + 1, 0, none⟩) 1 1, .slice (some ⟨s + 2, 0, none⟩) 2 2, .slice (some ⟨s + 3, 0, none⟩) 1 1] 53) (Y := (· < s + 5)) (fun b _ h => h))
  have u4 := ((us_newL (((w.alloc (.cells #[.int .i64 1] 3)).alloc (.cells #[.int .i64 7] 3)).alloc (.cells #[.int .i64 1, .int .i64 2] 3)) (s + 3) (by simp [hs]) [8] #[.int .i64 8] rfl 1 rfl (by simp [maxLen])).up (.cells #[.slice (some ⟨s, 0, none⟩) 1 1, .slice (some ⟨s + 1, 0, none⟩) 1 1, .slice (some ⟨s + 2, 0, none⟩) 2 2, .slice (some ⟨s + 3, 0, none⟩) 1 1] 53) (Y := (· < s + 5)) (fun b _ h => by omega))
  refine ⟨rfl, Nat.le_refl _, by simp [maxLen], _, Rd_newR _ _ _ (s + 4) (by simp [hs]), ?_⟩
  exact ⟨u1, u2, u3, u4, trivial⟩
/-- where only blocks at and above p are written, what lay below is as it was -/
theorem below_of {B p : Nat} {w w' : World} (hg : w.grownBy w' (some p)) (hB : B ≤ p) (hw : B ≤ w.heap.size) : Below B w w' := below_grownP (Below.refl B w) hg hB hw
set_option maxHeartbeats 3200000 in
theorem rawake6_any (w : World) : Calls Try.prog 8 #[] w fun e w' => e = .returned (.bool true) ∧ Below w.heap.size w w' := by
  go_enter Try.func8, Try.ntmps8
  go_wp2_with fail
  refine (of_ok 2 _ 2 awM (w.heap.size + 5) _ (awM_at w _ rfl) (by simp) (by decide)).mono ?_
  rintro e w1 ⟨T, rfl, ho, hb1⟩
  have hbl1 : Below w.heap.size w w1 := (((((Below.refl _ _).alloc (Nat.le_refl _) _).alloc (by simp) _).alloc (by simp; omega) _).alloc (by simp; omega) _).alloc (by simp; omega) _ |>.trans (hb1.mono (by simp; omega))
  have HO := Lib.hid ho
  have hs1 := hbl1.size
  clear ho hb1
  go_wp2_with fail
  refine (mof_any w1 T).mono ?_
  rintro e w2 ⟨p, rfl, hp, hm2, hb2⟩
  have hs2 := hb2.size
  have hp2 := hm2.lt
  have HO2 := Lib.hid (HO.out.below hb2 (Nat.le_refl _))
  have hbl2 := hbl1.trans (hb2.mono hs1)
  clear hb2 HO
  go_wp2_with fail
  refine (mput_any w2 p T [] 0 0 1 hm2 (by simp) w1.heap.size awM HO2.out hp (by omega) (by omega) (by omega) (by omega) _ _ _ awM_1).mono ?_
  rintro e w3 ⟨v3, rfl, ho3, hm3, hg3⟩
  obtain ⟨A3, c3, rfl, _⟩ := ho3.form
  have hs3 := hg3.size
  have HO3 := Lib.hid (HO2.out.below (below_of hg3 hp hs2) (Nat.le_refl _))
  have hbl3 := below_grownP hbl2 hg3 (by omega) (by omega)
  clear hg3 HO2 hm2 ho3
  go_wp2_with fail
  refine (mheld_any w3 p T _ _ _ hm3 1 rfl).mono ?_
  rintro e w' ⟨rfl, rfl⟩
  go_wp2_with fail
  refine (mput_any w3 p T [1] 0 1 3 hm3 (by simp) w1.heap.size awM HO3.out hp (by omega) (by omega) (by omega) (by omega) _ _ _ awM_2).mono ?_
  rintro e w4 ⟨v4, rfl, ho4, hm4, hg4⟩
  obtain ⟨A4, c4, rfl, hat⟩ := ho4.form
  have hs4 := hg4.size
  have HO4 := Lib.hid (HO3.out.below (below_of hg4 hp (by omega)) (Nat.le_refl _))
  have hbl4 := below_grownP hbl3 hg4 (by omega) (by omega)
  obtain ⟨b, o, rfl, hbB, A1, n1, c1, g1, g2, g3, g4, e1, e2, e3, e4⟩ := hat.at (k := 0) (by decide)
  obtain ⟨b', o', he, _, A2, n2, c2, _, _, _, q4, _⟩ := hat.at (k := 1) (by decide)
  injection he with he
  injection he with he1 he2
  subst he1 he2
  have hn1 : n1 = 1 := e1
  subst hn1
  obtain ⟨b2, o2, rfl, hb2, hc2⟩ := rd_ints e4 (by decide)
  have z0 := hc2 0 (by decide)
  simp only [Nat.add_zero, Nat.zero_mul] at z0 g3
  change w4.cell? _ = some (.int .i64 7) at z0
  change w4.cell? ⟨b, o + 4 + 3, none⟩ = some (.int .i64 3) at q4
  change w4.cell? ⟨b, o + 2, none⟩ = some (.slice _ 1 _) at g3
  have HM4 := Lib.hid hm4
  clear hg4 HO3 hm3 ho4 hat e1 e4 hc2 hm4 g1 g2 g4
  have hl4 : awMt.length = 2 := rfl
  rw [hl4]
  clear hl4
  go_wp2_with fail
  refine (mend_any w4 p T [] _ _ HM4.out w1.heap.size awM HO4.out hp (by decide) (by decide) (by decide) (by decide) [] (rewA_nil _ _)).mono ?_
  rintro e w5 ⟨v5, rfl, ho5, hm5, hg5⟩
  obtain ⟨A5, c5, rfl, _⟩ := ho5.form
  have HBE := Lib.hid (below_grownP hbl4 hg5 (by omega) (by omega))
  clear hg5 hm5 ho5
  go_wp2
  go_ret
  exact ⟨rfl, HBE.out⟩
end Go.Proofs.Ytmjcnopkckkaoaa
