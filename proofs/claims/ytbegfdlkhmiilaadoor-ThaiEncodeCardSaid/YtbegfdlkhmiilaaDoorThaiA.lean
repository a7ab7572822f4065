/- Layer 7: contracts of Decode, Encode, Of; what they answer, in plain words. -/
import Derived.Test.YtbegfdlkhmiilaaDoorLib
import Derived.Test.YtbegfdlkhmiilaaDoorProg
import Derived.Lib.LaidTab
namespace Go.Proofs.YtbegfdlkhmiilaaDoor
set_option linter.unusedVariables false
open Go.RowKit

/-- a byte's scalar, and whether it has one -/
def scF (c : Int) : Int × Bool := if c ≤ 127 then (c, true) else if 161 ≤ c ∧ c ≤ 218 ∨ 223 ≤ c ∧ c ≤ 251 then (c + 3424, true) else (0, false)
/-- a scalar's byte, and whether there is one -/
def ecF (s : Int) : Int × Bool := if 0 ≤ s ∧ s ≤ 127 then (s, true) else if 3585 ≤ s ∧ s ≤ 3642 ∨ 3647 ≤ s ∧ s ≤ 3675 then (s - 3424, true) else (0, false)
/-- a byte's class -/
def clF (c : Int) : Int :=
  if c ≤ 31 then 0 else if 127 ≤ c ∧ c ≤ 159 then 0 else if c = 196 then 6 else if c = 198 then 6 else if 161 ≤ c ∧ c ≤ 206 then 2 else if c = 208 then 4 else if 210 ≤ c ∧ c ≤ 211 then 4
  else if c = 209 then 15 else if c = 214 then 15 else if c = 212 then 14 else if c = 213 then 16 else if c = 215 then 16 else if c = 216 then 7 else if c = 217 then 8 else if c = 218 then 9
  else if 224 ≤ c ∧ c ≤ 228 then 3 else if c = 229 then 5 else if c = 231 then 12 else if 232 ≤ c ∧ c ≤ 235 then 10 else if 236 ≤ c ∧ c ≤ 237 then 11 else if c = 238 then 13 else 1
/-- the classes of the bytes from 160 on, as the program lists them -/
def highL : List Int := (List.range 96).map fun k : Nat => clF (160 + (k : Int))

theorem ret_ib {k : IntKind} {a c : Int} {b d : Bool} (h : (a, b) = (c, d)) : Ending.returned (.tuple #[.int k c, .bool d]) = .returned (.tuple #[.int k a, .bool b]) := by
  injection h with h1 h2; rw [h1, h2]

theorem byte_cases (c : Int) (h0 : 0 ≤ c) (h1 : c ≤ 255) : c ≤ 127 ∨ (128 ≤ c ∧ c < 161) ∨ (161 ≤ c ∧ c ≤ 218) ∨ (219 ≤ c ∧ c < 223) ∨ (223 ≤ c ∧ c ≤ 251) ∨ 252 ≤ c := by omega

set_option maxHeartbeats 400000 in
theorem decode_any (c : Int) (w : World) (h0 : 0 ≤ c) (h1 : c ≤ 255) :
    Calls Tryd.prog 9 #[.int .u8 c] w fun e w' => e = .returned (.tuple #[.int .i64 (scF c).1, .bool (scF c).2]) ∧ w' = w := by
  rcases byte_cases c h0 h1 with h | h | h | h | h | h
  all_goals try (obtain ⟨h, h'⟩ := h)
  all_goals
    go_enter Tryd.func9, Tryd.ntmps9
    go_wp2
    go_ret2
    exact ⟨ret_ib (by unfold scF; (repeat' split) <;> first | rfl | omega), rfl⟩

theorem scF_back {d t : Int} {ok : Bool} (h : scF d = (t, ok)) (h0 : 0 ≤ d) (h1 : d ≤ 255) {s : Int} (hd : d = if s ≤ 127 then s % 256 else (s - 3424) % 256) : ecF s = if ok = true ∧ t = s then (d, true) else (0, false) := by
  unfold scF at h
  unfold ecF
  by_cases hs : s ≤ 127
  · rw [if_pos hs] at hd
    split at h <;> (try split at h) <;> injection h with e1 e2 <;> subst e1 e2 <;> simp only [true_and, Bool.false_eq_true, false_and, if_false] <;> (repeat' split) <;> first | rfl | (simp only [Prod.mk.injEq, and_true]; omega) | omega
  · rw [if_neg hs] at hd
    split at h <;> (try split at h) <;> injection h with e1 e2 <;> subst e1 e2 <;> simp only [true_and, Bool.false_eq_true, false_and, if_false] <;> (repeat' split) <;> first | rfl | (simp only [Prod.mk.injEq, and_true]; omega) | omega

set_option maxHeartbeats 800000 in
theorem encode_any (s : Int) (w : World) (h0 : -9223372036854775808 ≤ s) (h1 : s ≤ 9223372036854775807) :
    Calls Tryd.prog 11 #[.int .i64 s] w fun e w' => e = .returned (.tuple #[.int .u8 (ecF s).1, .bool (ecF s).2]) ∧ w' = w := by
  by_cases hs : s ≤ 127
  · have hs' : ¬ 127 < s := by omega
    obtain ⟨d, hd⟩ : ∃ d, s % 256 = d := ⟨_, rfl⟩
    obtain ⟨t, ok, hsc⟩ : ∃ t ok, scF d = (t, ok) := ⟨_, _, rfl⟩
    have hd0 : 0 ≤ d := by omega
    have hd1 : d ≤ 255 := by omega
    have HB := Lib.hid (scF_back hsc hd0 hd1 (s := s) (by rw [if_pos hs]; exact hd.symm))
    have HD := decode_any d w hd0 hd1
    rw [hsc] at HD
    have HD := Lib.hid HD
    clear hsc
    cases ok with
    | false =>
      go_enter Tryd.func11, Tryd.ntmps11
      go_wp2_with (go_at_call 9; refine HD.out.mono ?_; rintro e w' ⟨rfl, rfl⟩)
      go_ret2
      exact ⟨ret_ib (by rw [HB.out]; simp), rfl⟩
    | true =>
      by_cases ht : t = s
      · have ht' : (t == s) = true := by simpa using ht
        have hn : (t != s) = false := by simpa using ht
        have HT := Lib.hid ht
        clear ht
        go_enter Tryd.func11, Tryd.ntmps11
        go_wp2_with (go_at_call 9; refine HD.out.mono ?_; rintro e w' ⟨rfl, rfl⟩)
        go_ret2
        exact ⟨ret_ib (by rw [HB.out]; simp [HT.out]), rfl⟩
      · have ht' : (t == s) = false := by simpa using ht
        have hn : (t != s) = true := by simpa using ht
        go_enter Tryd.func11, Tryd.ntmps11
        go_wp2_with (go_at_call 9; refine HD.out.mono ?_; rintro e w' ⟨rfl, rfl⟩)
        go_ret2
        exact ⟨ret_ib (by rw [HB.out]; simp [ht]), rfl⟩
  · have hs' : 127 < s := by omega
    obtain ⟨d, hd⟩ : ∃ d, (s - 3424) % 256 = d := ⟨_, rfl⟩
    obtain ⟨t, ok, hsc⟩ : ∃ t ok, scF d = (t, ok) := ⟨_, _, rfl⟩
    have hd0 : 0 ≤ d := by omega
    have hd1 : d ≤ 255 := by omega
    have HB := Lib.hid (scF_back hsc hd0 hd1 (s := s) (by rw [if_neg hs]; exact hd.symm))
    have HD := decode_any d w hd0 hd1
    rw [hsc] at HD
    have HD := Lib.hid HD
    clear hsc
    cases ok with
    | false =>
      go_enter Tryd.func11, Tryd.ntmps11
      go_wp2_with (go_at_call 9; refine HD.out.mono ?_; rintro e w' ⟨rfl, rfl⟩)
      go_ret2
      exact ⟨ret_ib (by rw [HB.out]; simp), rfl⟩
    | true =>
      by_cases ht : t = s
      · have ht' : (t == s) = true := by simpa using ht
        have hn : (t != s) = false := by simpa using ht
        have HT := Lib.hid ht
        clear ht
        go_enter Tryd.func11, Tryd.ntmps11
        go_wp2_with (go_at_call 9; refine HD.out.mono ?_; rintro e w' ⟨rfl, rfl⟩)
        go_ret2
        exact ⟨ret_ib (by rw [HB.out]; simp [HT.out]), rfl⟩
      · have ht' : (t == s) = false := by simpa using ht
        have hn : (t != s) = true := by simpa using ht
        go_enter Tryd.func11, Tryd.ntmps11
        go_wp2_with (go_at_call 9; refine HD.out.mono ?_; rintro e w' ⟨rfl, rfl⟩)
        go_ret2
        exact ⟨ret_ib (by rw [HB.out]; simp [ht]), rfl⟩

/-- the program's table of classes, as a world holds it -/
def HighAt (w : World) : Prop := Lib.TabIs Tryd.prog w "lontar/thai.high" .i64 highL
theorem highL_at (k : Nat) (hk : k < 96) : highL.getD k 0 = clF (160 + k) := by simp [highL, hk]
theorem HighAt.cell {w : World} (h : HighAt w) (k : Nat) (hk : k < 96) : w.cell? ⟨0, k, none⟩ = some (.int .i64 (clF (160 + k))) := by
  rw [← highL_at k hk]; exact Lib.TabIs.cell h (by kernel_rfl) k (by simpa [highL] using hk)

set_option maxRecDepth 100000 in
set_option maxHeartbeats 800000 in
theorem of_any (c : Int) (w : World) (h0 : 0 ≤ c) (h1 : c ≤ 255) (hh : HighAt w) :
    Calls Tryd.prog 12 #[.int .u8 c] w fun e w' => e = .returned (.int .i64 (clF c)) ∧ w' = w := by
  by_cases ha : 160 ≤ c
  · obtain ⟨k, hk⟩ : ∃ k : Nat, c = 160 + (k : Int) := ⟨(c - 160).toNat, by omega⟩
    have hk' : k < 96 := by omega
    have hc := hh.cell k hk'
    rw [← hk] at hc
    obtain ⟨v, hv⟩ : ∃ v, clF c = v := ⟨_, rfl⟩
    rw [hv] at hc ⊢
    have e1 : c - 160 = (k : Int) := by omega
    have hk0 : (0 : Int) ≤ k := by omega
    have hk96 : (k : Int) < 96 := by omega
    clear hv hh
    go_enter Tryd.func12, Tryd.ntmps12
    go_wp2
    go_ret
    exact ⟨rfl, rfl⟩
  · have ha' : c < 160 := by omega
    by_cases h31 : c ≤ 31
    · go_enter Tryd.func12, Tryd.ntmps12
      go_wp2
      go_ret
      exact ⟨ret_int (by unfold clF; rw [if_pos h31]), rfl⟩
    · by_cases h127 : 127 ≤ c
      · go_enter Tryd.func12, Tryd.ntmps12
        go_wp2
        go_ret
        exact ⟨ret_int (by unfold clF; rw [if_neg (show ¬ c ≤ 31 by omega), if_pos (show 127 ≤ c ∧ c ≤ 159 by omega)]), rfl⟩
      · go_enter Tryd.func12, Tryd.ntmps12
        go_wp2
        go_ret
        exact ⟨ret_int (by unfold clF; (repeat' split) <;> first | rfl | omega), rfl⟩
end Go.Proofs.YtbegfdlkhmiilaaDoor
